import PyProof.Rows.All
import Wide.All
import OpenK.AllK
import Wide.FinOn
import Lean
import PyProof.EqAt
import PyProof.EqKinds
import PyProof.TupleCall
import PyProof.NeKinds
import PyProof.StationsW
import PyProof.ExcClass3
import PyProof.ExcBaseAll.ValueError
import PyProof.ExcArgsOwn
import KE.KIsAll
import PyProof.ZipIter
import PyProof.RulesAs
import KE.KLam
import PyProof.NsDelKeeps
import PyProof.Rows.Range3
import PyProof.SumWalkG
import PyProof.EnumMake
import PyProof.EnumFor
import PyProof.WalkInts
import PyProof.Rows.SortWalk
import KE.KSortAsk
import PySem.SetOps
import KE.KSortTup
import PyProof.Rows.SetFrom
import PyProof.SetRoads
import PyProof.Rows.CallKwBuiltin
import PySem.Challenge.RW_nearorders_k90_texts_of_orders
open Array renaming getElem?_eq_some_iff->de,getElem?_eq_getElem->ey,getElem?_setIfInBounds_self_of_lt->ic,getD->jm,length_toList->kg,getElem?_toList->lr,getElem?_eq_none->pf,perm_iff_toList_perm->uf,getElem?_replicate->xb,mem_toList_iff->yt,forIn_toList->zh
open Bool renaming false_eq_true->cj,and_eq_true->cy,eq_iff_iff->gz,false_ne_true->ib,not_true->mr,and_false->nq,or_eq_true->u5
open Classical renaming em->ou
open False renaming elim->gb
open ForInStep renaming yield->ow
open Int renaming toNat_natCast->fh
open List renaming size_toArray->ar,mem_cons_of_mem->aw,getElem?_eq_some_iff->ax,getElem?_eq_getElem->az,mem_cons_self->ba,mem_cons->bg,length_map->bh,range->bo,mem_of_getElem?->br,length_append->bw,mem_range->bx,filterMap_cons->bz,mem_append_right->cb,length_cons->cp,map_cons->da,mem_map->dg,getElem?_append_left->dh,getElem?_set_self->di,getElem?_map->dj,getElem?_append_right->dk,mem_append->dy,getElem?_set_ne->ed,pairwise_cons->fe,all_eq_true->fw,getElem_mem->fy,pairwise_iff_getElem->fz,mem_singleton->gq,lookup_cons->gu,flatMap_cons->gw,length_take->iz,mem_filterMap->jc,nodup_cons->je,map_append->jg,mem_append_left->jh,getElem_of_mem->jk,length_nil->jo,length_set->jr,length_range->jw,length->ka,length_filterMap_le->ki,append_nil->kj,length_drop->ly,getD->m8,mem_filter->my,forIn_cons->n9,map_map->nj,perm_ext_iff_of_nodup->nr,getElem?_zip_eq_some->oh,getElem?_replicate->p7,getElem?_cons_succ->p8,countP_cons->p9,nodup_range->pb,filterMap_eq_map'->pw,mem_iff_getElem->qh,forall_mem_cons->qi,forall_mem_nil->qp,map_drop->qw,pairwise_map->rn,append_assoc->rp,ext_getElem?->sd,eraseIdx_eq_take_drop_succ->sk,any_eq_true->sv,mem_flatMap->tm,of_mem_zip->u0,replicate->uh,nodup_iff_pairwise_ne->vf,length_eraseIdx_of_lt->vg,getElem?_take_of_lt->xj,map_take->y8,length_eq_zero_iff->yc,range_succ_eq_map->yf,length_singleton->yp,take_append_drop->yr,getElem?_eq_none->yu,getElem?_toArray->yv,map_congr_left->zj
open List.Pairwise renaming imp_of_mem->rh,nil->uj
open List.Perm renaming append_left->vh
open List.cons renaming injEq->zb
open Nat renaming le_refl->ak,lt_of_lt_of_le->av,ne_of_lt->bc,le_trans->dm,lt_irrefl->fq,le_of_lt->gp,lt_or_ge->ig,zero_le->ja,ne_of_gt->ji,lt_succ_of_lt->jx,lt_succ_self->kh,le_of_eq->lh,mul_le_mul->ll,le_add_right->pd,succ_ne_self->pg,succ_mul->yw
open Ne renaming symm->cz
open Option renaming isSome_iff_exists->ui
open Option.some renaming inj->cn,injEq->xg
open Prod renaming fst->du,snd->nt
open PyProof.Rows renaming slot_tuple_getitem->fg,callWith_type1->ik,IntsAre->kv,AllBare->ph,get?_update_seq->qo,listUpdate_at->tj,lt_int->u9,boot_range->yj
open PySem renaming wpAny_bind->aa,Value->af,Shared->ag,Addr->ah,wpAny_pure->ai,starEach->aq,Program->bf,Expr->bj,FuncData->bp,sizeLine->bq,Around->cf,World->cg,Heap->ck,mainGlobals->cw,bootBuiltins->cx,mem_of_lookup->dw,wpAny_field->ff,IsTupleKey->fi,wpAny_newObj_type->fj,wpAny_callSpecial?_slot->fv,wpAny_call_entry->gg,SetTable->gm,Scope->gn,wpAny_holding->gr,Stmt->gy,wpAny_setField_rec->iq,wpAny_seqItems->iu,wpAny_setState_of->iw,sizeLine_eq->jd,NameKind->jn,wpAny_mono->js,wpAny_passesOwn->jy,Arguments->jz,wpAny_truthy_bool->kd,wpAny_askSetting->km,Comprehension->kr,wpAny_execs_nil->ku,Builtin->kz,wpAny_Call_Name_kw->lg,codeAny_mono->md,IsPair->mq,wpAny_execs_cons->nc,pushCells_keeps->nv,codeAny_builtin->og,wpAny_typeOf->oj,wpAny_pyIter_tuple->p0,wpAny_pyIter_list->pj,wpAny_onRaise->pz,wpAny_forIn_list->qe,wpAny_rule->qj,IsPart->r8,codeAny_call_builtin->rf,wpAny_updateSeq_pair->rg,TriplesOk->rj,wpAny_setEntries_of->si,wpAny_standAt->sr,wpAny_attempt->sy,boot_len->ue,PassesOwn->vj,Result->vk,noFill_tuple_add->vn,wpAny_isInstance->xa,Model->xh,IsRangeIter->xi,wpAny_of_eq->xk,IsZip->xw,wpAny_call->yk,call_meets->yo,wpAny_setField->yq,seq_tuple_add->ze,wpAny_newList->zi
open PySem.Around renaming under_plainId->m9,frames_deeper->ye
open PySem.Builtin.List renaming listTooLong->mz,listExtendWith->qz,listSameRef->rz,listTouch->t9
open PySem.Builtin.Range renaming rangeSize->cu,small->u6
open PySem.Builtin.Slice renaming slicePlaces->jq,sliceAdjust->mf,sliceApplied->qu
open PySem.Builtin.SmallTypes renaming nextOf->dv,ownedTupleIsFree->o7,stopIteration->oz
open PySem.Builtin.Tuple renaming tupleExact->ju
open PySem.Calls renaming evalArgs_plain->qf,Name_function_global->u7,callWith_builtin->yb,call_len_list->yy
open PySem.Challenge renaming pw_nearorders_k90_texts_of_orders->ae
open PySem.Data renaming fields->yx
open PySem.EntryCells renaming newEntry->wz
open PySem.F renaming args_tuple_add_2->nu,entry_tuple_add->oi,plainAttrs_list->oq,slot_tuple_add->p6,excBase_ValueError->tu
open PySem.Heap renaming get?_push_of_some->aj,lt_size->au,get?_push_size->ay,size_push->dz,SameBut->gv,get?_update_other->lb,get?_update_self->lx,get?_update_ne->ni,ExtBut->z9
open PySem.Heap.SameBut renaming update->lj,refl->xc
open PySem.IsL renaming update->yn
open PySem.NameKind renaming free->bu,cell->df
open PySem.Obj renaming mapSeq->mm,data_mapFields->r9,isFreed_of_fields->yz
open PySem.PassesOwn renaming leaving->yg
open PySem.SeqAt renaming EqAt->qt,RcAt->zf
open PySem.SeqAt.EqAt renaming same->om,int_str->q9,str_int->qc,int_int->qd,none_tuple->ub,bool_tuple->ud,none_bool->uq,none_list->uv,bool_none->ux,bool_bool->uz,bool_list->v7,int_tuple->v9,str_tuple->ve,none_int->vq,none_str->vv,bool_int->wa,bool_str->wc,int_none->we,int_bool->wj,int_list->wm,str_none->wq,str_bool->wu,str_list->wy,str_str->xu,of_refs->xv
open PySem.SeqAt.RcAt renaming none_tuple->ua,bool_tuple->uc,none_none->uk,none_bool->um,none_list->ur,bool_none->uw,bool_bool->uy,bool_list->v5,int_tuple->v8,str_tuple->vc,none_int->vp,none_str->vt,bool_int->vz,bool_str->wb,int_none->wd,int_bool->wg,int_list->wk,str_none->wo,str_bool->wt,str_list->wx,int_int->xl,int_str->xm,str_int->xq,str_str->xr
open PySem.SetTable renaming insertAt->ij,turns->pq,below->pv,sizeAbove->yh
open PySem.Shared renaming TypeIs->qk
open PySem.Str renaming ofString->ie,empty->mn
open PySem.Txt renaming join->sj,find->xf
open PySem.Value renaming ref->gh,none->jb,isInt_shape->kq,builtin->ql,bool->zc,type->zd
open PySem.W renaming Frag->ao,kitOne->cq,subIn->jf,kla_obj->jl,keepIn->jt,CodeHd->jv,envX->kn,fnOf->mw,kla_fn->nh,tabObj->q5,excIn->qg,methodObj->qr,nsIn->qv,codeIn->tq,kitCls->tw,cellsFrom_some->vm,hideAll_size->y9,hideAll_none->ya,hideAll_get->yd,of_hideAll->yi,callWith_K->ym
open PySem.Walks renaming list->zg
open PySem.pickOrder renaming go->ug
open Sum renaming inl->sf,inr->sh
set_option Elab.async false
set_option linter.all false
set_option maxRecDepth 100000
set_option maxHeartbeats 4000000
namespace L2.Mr
open PySem PySem.Spec PySem.Calls PyProof.Rows PySem.W
def KZ (o:Obj):Bool:=match o.cls,o.data with
 | .none,.fields _=>false
 |_,_=>true
def lL (h:ck):List ah->Frag
 | []=>[]
 |a::as=>match h.get? a with
  |some o=>match KZ o with
   |true=>(a,o)::lL h as
   |false=>lL h as
  |none=>lL h as
def pJ (h:ck):Frag:=lL h (bo h.objs.size)
theorem sH (h:ck):∀as,(lL h as).In h
 | [],_,_,e=>nomatch e
 |a::as,b,o,e=>by
  unfold lL at e
  split at e
  ·rename_i o' q
   split at e
   ·rw[gu]at e
    cases z:b==a with
    |true=>rw[z]at e;cases e;rw[eq_of_beq z];exact q
    |false=>rw[z]at e;exact sH h as b o e
   ·exact sH h as b o e
  ·exact sH h as b o e
theorem sJ (h:ck):∀as,noTabs (lL h as)=true
 | []=>rfl
 |a::as=>by
  unfold lL
  split
  ·split
   ·rename_i q;show(_&&_)=true;rw[cy];refine⟨?_,sJ h as⟩;exact q
   ·exact sJ h as
  ·exact sJ h as
def cQ (K:Frag) (f:ah):Option bp:=match K.lookup f with
 |some o=>match o.data with
  | .func fd=>some { fd with kwdefaults:=.none,doc:=.none,pyModule:=.none,annotations:=none,closureTuple:=.none }
  |_=>none
 |none=>none
theorem K0 {K:Frag}{f:ah}{n q:Str}{A:jz}{B:List gy}{S:gn}{dV cd:af}(h:cQ K f=some (fnOf n q A B S dV .none .none .none none cd .none)):
  ∃(oc:af) (od:Option ah) (kV dc pm:af) (an:Option ah) (ct:af) (sl:Array (Option af)),K.lookup f=some ⟨oc,od,.func (fnOf n q A B S dV kV dc pm an cd ct),sl⟩:=by
 unfold cQ at h
 split at h
 ·rename_i o e
  split at h
  ·rename_i fd q;obtain⟨oc,od,dt,sl⟩:=o;cases fd;simp only[xg,FuncData.mk.injEq]at h;obtain⟨rfl,rfl,rfl,rfl,rfl,rfl,rfl,rfl,_,_,_,_,rfl,_,rfl⟩:=h;simp only at q;subst q;exact⟨_,_,_,_,_,_,_,_,e⟩
  ·cases h
 ·cases h
theorem kM {F:List (Frag->Bool)}{K:Frag}(h:F.all (λf=>f K)=true) (i:Nat) {f:Frag->Bool}(e:F[i]?=some f):f K=true:=fw.mp h f (br e)
theorem K1 {l m:List (Option bp)}(h:l=m) (i:Nat) {a b:Option bp}(e:l[i]?=some a) (e':m[i]?=some b):a=b:=by subst h;rw[e]at e';exact cn e'
def sL (K:Frag) (q:ah):Bool:=match K.lookup q with
 |some ⟨_,_,.cls _,_⟩=>true
 |_=>false
theorem BX {K:Frag}{q:ah}(h:sL K q=true):∃lo ld lc ls,K.lookup q=some ⟨lo,ld,.cls lc,ls⟩:=by
 unfold sL at h
 split at h
 ·exact⟨_,_,_,_,by assumption⟩
 ·cases h
def wO (K:Frag) (n:Str) (v:Int):Bool:=match nsIn K cw n with
 |some (some (.int i _))=>i==v
 |_=>false
theorem K2 {K:Frag}{n:Str}{v:Int}(h:wO K n v=true):∃t,nsIn K cw n=some (some (.int v t)):=by
 unfold wO at h
 split at h
 ·rename_i i t e;rw[eq_of_beq h]at e;exact⟨t,e⟩
 ·cases h
theorem wQ (p:bf) (w:cg) (N:Nat) {α:Type}(f:ag->α):(openEnds treeTable p w N).map f=(((Fast.tw10274390034422433532 Fast.tw14364793385576792824 (opening p) w N (PySem.start (opening p)).1 (PySem.start (opening p)).2).bind (Fast.tw14289696077712309145 p)).bind λs₀=>match s₀.heap.isNs cw&&s₀.gens.size==0 with
 |true=>(Fast.tw14082659384304107361 Fast.tw14364793385576792824 p w s₀.heap.objs.size (s₀.heap.nsMap cw "__annotations__") N s₀ (topStub p)).bind λs₁=>match staticsOk (importedModules p.main.body) s₀.heap s₁.heap&&namesBound p s₁.heap&&gensDone s₁&&laidKept s₀.heap s₁.heap with
   |true=>some s₁
   |false=>none
 |false=>none).map f:=by
 rw[<-Fast.te10274390034422433532,<-Fast.te14364793385576792824,<-Fast.te14289696077712309145,<-Fast.te14082659384304107361];rfl
abbrev BY:List af:=[.type "ValueError",.type "Exception",.type "BaseException",.type "object"]
def K4 (s:gy) (cd:ah):Option bp:=match s with
 | .FunctionDef n a b _ _ _ sc _ _ _=>some (fnOf n n a b sc .none .none .none .none none (.ref cd) .none)
 |_=>none
def fE (p:bf) (i:Nat) (cd:ah):Option bp:=K4 (p.main.body.getD i (.Pass ⟨0,0,0,0⟩)) cd
def nR (K:Frag) (n:Str) (a:ah):Bool:=decide (nsIn K cw n=some (some (.ref a)))
def nN (K:Frag) (n:Str):Bool:=decide (nsIn K cw n=some none)
def sI (K:Frag) (a b:af) (v:Bool):Bool:=decide (subIn K a b=some v)
def kI (K:Frag) (a b:ah) (v:Bool):Bool:=decide (kitOne K (.ref a) (.ref b)=some v)
theorem dA {F:List (Frag->Bool)}{K:Frag}(h:F.all (λf=>f K)=true) (i:Nat) {g:Frag->Prop}[∀K,Decidable (g K)] (e:F[i]?=some (λK=>decide (g K))):g K:=of_decide_eq_true (kM h i e)
def wR (K:Frag) (n v:Str):Bool:=match nsIn K cw n with
 |some (some (.str i _))=>decide (i=v)
 |_=>false
theorem K5 {K:Frag}{n v:Str}(h:wR K n v=true):∃t,nsIn K cw n=some (some (.str v t)):=by
 unfold wR at h
 split at h
 ·rename_i i t e;rw[of_decide_eq_true h]at e;exact⟨t,e⟩
 ·cases h
end L2.Mr
namespace L2.Mr.K90
open PySem PySem.Spec PySem.Calls PySem.W PyProof.Rows L2.Mr
def vw:bf:={ ae with main:={ ae.main with body:=List.filterMap (λi=>ae.main.body[i]?) [1,2,3,4,5,6,7,8,9,10,11,12,14,15,16,18,19,20,21,22,23,24,25,26,28,29,30,31,33,34,35,36,37,38,39,40,41,42] } }
def Xw:ag->Bool:=λs=>xlAt vw [] s&&recOk (RowW.records (OpenRow.toRowW PySem.Challenge.rw_nearorders_k90_texts_of_orders.row)) s
def obF:List (Frag->Bool):=[(nR · "is_whole" 166),(nR · "is_between" 173),(nR · "is_rising" 178),(nR · "is_thing" 185),(nR · "are_things" 190),(nR · "is_pair" 197),(nR · "are_pairs" 202),(nR · "has_alike" 207),(nR · "is_complete" 212),(nR · "is_order" 219),(nR · "need_order" 226),(nR · "order_text" 231),(nR · "written_pairs" 236),(nR · "read_order" 243),(nR · "_law_cell_at" 250),(nR · "_law_state" 257),(nR · "_law_take" 264),(nR · "_law_mixed_row" 271),(nR · "_law_closed" 276),(nR · "_law_order" 281),(nR · "_law_bad_order" 288),(nR · "_law_same" 293),(nR · "_law_refused" 298),(nR · "law" 303),(nR · "NoOrder" 37),(nR · "NoNumber" 49),(nR · "NoPairs" 61),(nR · "Round" 73),(nR · "NoThing" 85),(nR · "NoRow" 97),(nR · "TooMany" 109),(nR · "TooFew" 121),(nR · "NoText" 133),(nR · "NoLine" 145),(nR · "NoDeed" 157),(nR · "NearError" 24),(nN · "ValueError"),(nN · "all"),(nN · "any"),(nN · "bool"),(nN · "int"),(nN · "isinstance"),(nN · "len"),(nN · "list"),(nN · "max"),(nN · "min"),(nN · "range"),(nN · "set"),(nN · "sorted"),(nN · "str"),(nN · "tuple"),(nN · "zip"),(codeIn · (.ref 165) "is_whole"),(codeIn · (.ref 172) "is_between"),(codeIn · (.ref 177) "is_rising"),(codeIn · (.ref 184) "is_thing"),(codeIn · (.ref 189) "are_things"),(codeIn · (.ref 196) "is_pair"),(codeIn · (.ref 201) "are_pairs"),(codeIn · (.ref 206) "has_alike"),(codeIn · (.ref 211) "is_complete"),(codeIn · (.ref 218) "is_order"),(codeIn · (.ref 225) "need_order"),(codeIn · (.ref 230) "order_text"),(codeIn · (.ref 235) "written_pairs"),(codeIn · (.ref 242) "read_order"),(codeIn · (.ref 249) "_law_cell_at"),(codeIn · (.ref 256) "_law_state"),(codeIn · (.ref 263) "_law_take"),(codeIn · (.ref 270) "_law_mixed_row"),(codeIn · (.ref 275) "_law_closed"),(codeIn · (.ref 280) "_law_order"),(codeIn · (.ref 287) "_law_bad_order"),(codeIn · (.ref 292) "_law_same"),(codeIn · (.ref 297) "_law_refused"),(codeIn · (.ref 302) "law"),(keepIn · (.ref 166)),(keepIn · (.ref 173)),(keepIn · (.ref 178)),(keepIn · (.ref 185)),(keepIn · (.ref 190)),(keepIn · (.ref 197)),(keepIn · (.ref 202)),(keepIn · (.ref 207)),(keepIn · (.ref 212)),(keepIn · (.ref 219)),(keepIn · (.ref 226)),(keepIn · (.ref 231)),(keepIn · (.ref 236)),(keepIn · (.ref 243)),(keepIn · (.ref 250)),(keepIn · (.ref 257)),(keepIn · (.ref 264)),(keepIn · (.ref 271)),(keepIn · (.ref 276)),(keepIn · (.ref 281)),(keepIn · (.ref 288)),(keepIn · (.ref 293)),(keepIn · (.ref 298)),(keepIn · (.ref 303)),(wO · "MOST_THINGS" 6),(wR · "FIGURES" "0123456789"),λK=>decide (tabIn K "law" = some (302,300)),(sI · (.ref 37) (.ref 24) true),(sI · (.ref 49) (.ref 24) true),(sI · (.ref 61) (.ref 24) true),(sI · (.ref 73) (.ref 24) true),(sI · (.ref 85) (.ref 24) true),(sI · (.ref 97) (.ref 24) true),(sI · (.ref 109) (.ref 24) true),(sI · (.ref 121) (.ref 24) true),(sI · (.ref 133) (.ref 24) true),(sI · (.ref 145) (.ref 24) true),(sI · (.ref 157) (.ref 24) true),(kI · 37 37 true),(kI · 37 49 false),(kI · 37 61 false),(kI · 37 73 false),(kI · 37 85 false),(kI · 37 97 false),(kI · 37 109 false),(kI · 37 121 false),(kI · 37 133 false),(kI · 37 145 false),(kI · 37 157 false),(kI · 133 37 false),(kI · 133 49 false),(kI · 133 61 false),(kI · 133 73 false),(kI · 133 85 false),(kI · 133 97 false),(kI · 133 109 false),(kI · 133 121 false),(kI · 133 133 true),(kI · 133 145 false),(kI · 133 157 false),λK=>decide (findIn K (.ref 37) "__getattribute__" = some (some (.builtin "BaseException.__getattribute__"))),λK=>decide (findIn K (.ref 37) "__getattr__" = some none),λK=>decide (findIn K (.ref 37) "__class__" = some (some (.builtin "object.__class__"))),λK=>decide (mroIn K 37 (.type "object")=some true),(sI · (.ref 37) (.type "BaseException") true),λK=>decide (kitCls K (.ref 37) (.ref 37)=some true),(sL · 37),λK=>decide (findIn K (.ref 133) "__getattribute__" = some (some (.builtin "BaseException.__getattribute__"))),λK=>decide (findIn K (.ref 133) "__getattr__" = some none),λK=>decide (findIn K (.ref 133) "__class__" = some (some (.builtin "object.__class__"))),λK=>decide (mroIn K 133 (.type "object")=some true),(sI · (.ref 133) (.type "BaseException") true),λK=>decide (kitCls K (.ref 133) (.ref 133)=some true),(sL · 133),(excIn · 37 BY "ValueError.__new__"),(excIn · 133 BY "ValueError.__new__"),λK=>decide (kitOne K (.ref 37) (.type "ValueError")=some true),λK=>decide (kitOne K (.ref 133) (.type "ValueError")=some true),(sI · (.ref 24) (.type "BaseException") true),(sI · (.type "type") (.type "tuple") false),λK=>decide (kitCls K (.ref 24) (.ref 24)=some true)]
def wU (K:Frag):List (Option bp):=[cQ K 166,cQ K 173,cQ K 178,cQ K 185,cQ K 190,cQ K 197,cQ K 202,cQ K 207,cQ K 212,cQ K 219,cQ K 226,cQ K 231,cQ K 236,cQ K 243,cQ K 250,cQ K 257,cQ K 264,cQ K 271,cQ K 276,cQ K 281,cQ K 288,cQ K 293,cQ K 298,cQ K 303]
def wV:List (Option bp):=[fE ae 14 165,fE ae 15 172,fE ae 16 177,fE ae 19 184,fE ae 20 189,fE ae 21 196,fE ae 22 201,fE ae 23 206,fE ae 24 211,fE ae 25 218,fE ae 26 225,fE ae 29 230,fE ae 30 235,fE ae 31 242,fE ae 33 249,fE ae 34 256,fE ae 35 263,fE ae 36 270,fE ae 37 275,fE ae 38 280,fE ae 39 287,fE ae 40 292,fE ae 41 297,fE ae 42 302]
def ob (K:Frag):Bool×List (Option bp):=(obF.all (λf=>f K),wU K)
abbrev obE:Bool×List (Option bp):=(true,wV)
theorem BZ {α β γ:Type}{o:Option α}{f:α->β}{g:α->γ}{a:β}{b:γ}(h1:o.map f=some a) (h2:o.map g=some b):o.map (λs=>(f s,g s))=some (a,b):=by
 cases o with
 |none=>cases h1
 |some s=>cases h1;cases h2;rfl
theorem K6 (w:cg):(openEnds treeTable ae w 8000).map (λs=>openSeen vw [] (importedModules (ae).main.body) Xw true s)=some (openGood vw []):=by rw[wQ,Fast.te4187177175401517315];kernel_rfl
theorem K7 (w:cg):(openEnds treeTable ae w 8000).map (λs=>obF.all (λf=>f (pJ s.heap)))=some true:=by rw[wQ];kernel_rfl
theorem K8 (w:cg):(openEnds treeTable ae w 8000).map (λs=>wU (pJ s.heap))=some wV:=by rw[wQ];kernel_rfl
theorem left:LeftO ae vw [] Xw (λs=>ob (pJ s.heap)) (λ_=>obE) 8000:=λw=>BZ (K6 w) (BZ (K7 w) (K8 w))
end L2.Mr.K90
namespace L2
open PySem PySem.Spec PyProof.Rows
abbrev fV:=Sum Int Str
def CA:fV->af->Bool
 | .inl k,v=>Value.isInt k v
 | .inr x,v=>Value.isStrOf x v
def K9 (w:cg):fV->Int
 | .inl k=>hashInt k
 | .inr x=>hashStr w x
theorem kN:∀{k:fV}{v:af},CA k v=true->(∃i t,k=sf i/\v=Value.int i t)∨(∃x t,k=sh x/\v=Value.str x t)
 | .inl i,v,h=>by obtain⟨t,e⟩:=kq (k:=i) (v:=v) h;exact .inl ⟨i,t,rfl,e⟩
 | .inr x,v,h=>by obtain⟨t,e⟩:=Value.isStrOf_shape (x:=x) (v:=v) h;exact .inr ⟨x,t,rfl,e⟩
theorem LA (a b:Int):decide ((sf a:fV)=sf b)=(a==b):=by
 by_cases e:a=b
 ·subst e;simp
 ·have h:¬ (sf a:fV)=sf b:=λq=>e (Sum.inl.inj q);rw[decide_eq_false h];exact(beq_eq_false_iff_ne.mpr e).symm
theorem LB (a b:Str):decide ((sh a:fV)=sh b)=decide (a=b):=by
 by_cases e:a=b
 ·subst e;simp
 ·have h:¬ (sh a:fV)=sh b:=λq=>e (Sum.inr.inj q);rw[decide_eq_false h,decide_eq_false e]
theorem LC (a:Int) (b:Str):decide ((sf a:fV)=sh b)=false:=decide_eq_false (λq=>nomatch q)
theorem LD (a:Str) (b:Int):decide ((sh a:fV)=sf b)=false:=decide_eq_false (λq=>nomatch q)
def wW (prog:bf) (w:cg):PySem.KeyKind prog w fV where
 is:=CA
 hash:=K9 w
 inj:=λv a b ha hb=>by
  rcases kN ha with⟨i,t,rfl,rfl⟩|⟨x,t,rfl,rfl⟩
  ·rcases kN hb with⟨j,u,rfl,e⟩|⟨y,u,rfl,e⟩
   ·injection e with e1 _;rw[e1]
   ·exact nomatch e
  ·rcases kN hb with⟨j,u,rfl,e⟩|⟨y,u,rfl,e⟩
   ·exact nomatch e
   ·injection e with e1 _;rw[e1]
 byValue:=λk v h=>by rcases kN h with⟨i,t,rfl,rfl⟩|⟨x,t,rfl,rfl⟩ <;> rfl
 pyHash:=λhv h=>by
  rcases kN hv with⟨i,t,rfl,rfl⟩|⟨x,t,rfl,rfl⟩
  ·exact wpAny_pyHash_int h
  ·exact wpAny_pyHash_str h
 eqBool:=λhu hv h=>by
  rcases kN hu with⟨i,t,rfl,rfl⟩|⟨x,t,rfl,rfl⟩
  ·rcases kN hv with⟨j,u,rfl,rfl⟩|⟨y,u,rfl,rfl⟩
   ·rw[LA]at h;exact wpAny_eqBool_int h
   ·rw[LC]at h;exact q9 i t y u _ _ _ _ h
  ·rcases kN hv with⟨j,u,rfl,rfl⟩|⟨y,u,rfl,rfl⟩
   ·rw[LD]at h;exact qc x t j u _ _ _ _ h
   ·rw[LB]at h;exact wpAny_eqBool_str h
 «strs»:=λk x t v h=>by
  rcases kN h with⟨i,u,rfl,e⟩|⟨y,u,rfl,e⟩
  ·exact nomatch e
  ·injection e with e1 _;subst e1
   cases v <;> rfl
inductive V where
 |non|bl (b:Bool)|int (i:Int)|str (x:Str)|byt (b:Array UInt8)|flt (b:UInt64)|ref (a:ah)|ty (n:String)
 deriving DecidableEq
def RelV:V->af->Prop
 | .non,u=>u=jb
 | .bl b,u=>u=zc b
 | .int i,u=>∃t,u=Value.int i t
 | .str x,u=>∃t,u=Value.str x t
 | .byt b,u=>∃t,u=Value.bytes b t
 | .flt b,u=>∃t,u=Value.float b t
 | .ref a,u=>u=gh a
 | .ty n,u=>u=zd n
abbrev Vals:List V->List af->Prop:=Paired RelV
theorem Vals.length {xs:List V}{us:List af}(r:Vals xs us):xs.length=us.length:=Paired.length r
theorem Vals.get:∀{xs:List V}{us:List af}{i:Nat}{x:V},Vals xs us->xs[i]?=some x->∃u,us[i]?=some u/\RelV x u
 |_,_,_,_,.nil,e=>by simp at e
 |_,_,0,_,.cons r _,e=>by simp at e;subst e;exact⟨_,rfl,r⟩
 |_,_,i+1,x,.cons _ t,e=>by obtain⟨u,h1,h2⟩:=Vals.get (i:=i) (x:=x) t (by simpa using e);exact⟨u,by simpa using h1,h2⟩
theorem Vals.set {x:V}{u:af}(r:RelV x u):∀{xs:List V}{us:List af}(i:Nat),Vals xs us->Vals (xs.set i x) (us.set i u)
 |_,_,_,.nil=>.nil
 |_,_,0,.cons _ t=>.cons r t
 |_,_,i+1,.cons q t=>.cons q (Vals.set r i t)
theorem Vals.append:∀{xs ys:List V}{us ws:List af},Vals xs us->Vals ys ws->Vals (xs++ys) (us++ws)
 |_,_,_,_,.nil,s=>s
 |_,_,_,_,.cons r t,s=>.cons r (Vals.append t s)
theorem Vals.take:∀{xs:List V}{us:List af}(n:Nat),Vals xs us->Vals (xs.take n) (us.take n)
 |_,_,0,_=>.nil
 |_,_,_+1,.nil=>.nil
 |_,_,n+1,.cons r t=>.cons r (Vals.take n t)
theorem Vals.drop:∀{xs:List V}{us:List af}(n:Nat),Vals xs us->Vals (xs.drop n) (us.drop n)
 |_,_,0,r=>r
 |_,_,_+1,.nil=>.nil
 |_,_,n+1,.cons _ t=>Vals.drop n t
def CB:Option V->Option af->Prop
 |some v,some u=>RelV v u
 |none,none=>True
 |_,_=>False
def KV {κ:Type}:List (κ×V)->List (κ×af)->Prop:=Paired λ(p:κ×V) (q:κ×af)=>p.1=q.1/\RelV p.2 q.2
def kV:fV->V
 | .inl i=>.int i
 | .inr x=>.str x
inductive HO where
 |lst (xs:List V)
 |tup (xs:List V)
 |dK (kvs:List (fV×V))|dT (kvs:List (List fV×V))
 |set (S:Int->Bool) (n:Nat)
 |ins (C dx:ah) (fs:List (Str×V))
 |own (x:ah)
 |xd (fs:List (Str×V))
 |met (f x:ah)
 |rng (lo hi:Int)
 |frz (o:Obj) (u:HO)
 |tbl (ps:Array af)
 |ext (φ:ck->Prop)
abbrev Hp:=ah->Option HO
def aM (H:Hp) (a:ah) (o:HO):Hp:=λb=>if b=a then some o else H b
theorem bX {H:Hp}{a:ah}{o:HO}:aM H a o a=some o:=by unfold aM;rw[if_pos rfl]
theorem aZ {H:Hp}{a b:ah}{o:HO}(h:b≠a):aM H a o b=H b:=by unfold aM;rw[if_neg h]
theorem lM {H:Hp}{a b:ah}{o u:HO}(h:H a=some o) (h':H b=some u) (d:o≠u):a≠b:=by intro e;subst e;rw[h]at h';exact d (cn h')
theorem dU {H:Hp}{a b:ah}{o:HO}(h:H a=some o) (h':H b=none):a≠b:=by intro e;subst e;rw[h]at h';cases h'
def IsTupX (h:ck) (a:ah) (items:Array af):Prop:=∃o,h.get? a=some o/\o.cls=.type "tuple"/\o.dict=none/\∃n,o.data=.seq items n
theorem IsTupX.tup {h:ck}{a:ah}{items:Array af}(x:IsTupX h a items):IsTup h a items:=let ⟨o,e,c,_,d⟩:=x;⟨o,e,c,d⟩
theorem IsTupX.lt {h:ck}{a:ah}{items:Array af}(x:IsTupX h a items):a<h.objs.size:=let ⟨_,e,_⟩:=x;au e
theorem IsTupX.new (h:ck) (items:Array af):IsTupX (h.push { cls:=.type "tuple",data:=.seq items }) h.objs.size items:=⟨_,ay _ rfl,rfl,rfl,_,rfl⟩
section
variable(P:bf) (w:cg)
def ObjOk (H:Hp) (h:ck) (a:ah):HO->Prop
 | .lst xs=>xs.length<=bq/\∃(its:List af) (n:Nat),Vals xs its/\h.get? a=some { cls:=.type "list",data:=.seq its.toArray n }
 | .tup xs=>xs.length<=bq/\∃its:List af,Vals xs its/\IsTupX h a its.toArray
 | .dK kvs=>kvs.length<=bq/\(a==sysModules)=false/\∃vs,KV kvs vs/\h.DictOf (wW P w) a vs
 | .dT kvs=>kvs.length<=bq/\(a==sysModules)=false/\∃xs:List (List fV×ah×af),
   Paired (λ(p:List fV×V) (q:List fV×ah×af)=>p.1=q.1/\H q.2.1=some (.tup (p.1.map kV))/\RelV p.2 q.2.2) kvs xs /\
   ∃o es ep,h.get? a=some o/\o.ExactDict/\o.data=.dict es ep/\es.toList=xs.map (entryOfKey (tupleKind (wW P w)))/\(xs.map (·.1)).Nodup
 | .set S n=>h.SetOf (intKind P w) a S n
 | .ins C dx fs=>H dx=some (.own a)/\fs.length<=1000/\dx≠a/\h.get? a=some (PySem.W.instObj C dx) /\
   ∃mA,h.Ns1 dx mA/\(∀f,CB (fs.lookup f) (mA f))/\PySem.Within mA (fs.map (·.1))
 | .own _=>∃o,h.get? a=some o
 | .xd fs=>∃mA,h.Ns1 a mA/\∀f,CB (fs.lookup f) (mA f)
 | .rng lo hi=>∃t u v,h.get? a=some { cls:=.type "range",data:=.fields #[.int lo t,.int hi u,.int 1 v] }
 | .frz o u=>h.get? a=some o/\ObjOk H h a u
 | .tbl ps=>h.get? a=some { cls:=.none,data:=.fields ps }
 | .met f x=>h.get? a=some (qr (.ref f) (.ref x))
 | .ext φ=>φ h/\(∃o,h.get? a=some o)/\∀h1 h2:ck,φ h1->(∀o,h1.get? a=some o->h2.get? a=some o)->φ h2
def HOk (H:Hp) (h:ck):Prop:=∀a o,H a=some o->ObjOk P w H h a o
end
section
variable{P:bf}{w:cg}{H H':Hp}{h h':ck}{a:ah}{o:HO}
theorem ObjOk.lt (x:ObjOk P w H h a o):a<h.objs.size:=by
 cases o with
 |lst xs=>obtain⟨_,_,_,_,e⟩:=x;exact au e
 |tup xs=>obtain⟨_,_,_,p⟩:=x;exact p.lt
 |dK kvs=>obtain⟨_,_,_,_,o,_,_,e,_⟩:=x;exact au e
 |dT kvs=>obtain⟨_,_,_,_,o,_,_,e,_⟩:=x;exact au e
 |set S n=>obtain⟨o,_,_,_,e,_⟩:=x;exact au e
 |ins C dx fs=>obtain⟨_,_,_,e,_⟩:=x;exact au e
 |own y=>obtain⟨_,e⟩:=x;exact au e
 |xd fs=>obtain⟨_,⟨_,_,_,e,_⟩,_⟩:=x;exact au e
 |rng lo hi=>obtain⟨_,_,_,e⟩:=x;exact au e
 |frz ob u=>obtain⟨e,_⟩:=x;exact au e
 |tbl ps=>exact au (show h.get? a=some _ from x)
 |met f y=>exact au (show h.get? a=some _ from x)
 |ext φ=>obtain⟨_,⟨_,e⟩,_⟩:=x;exact au e
theorem Paired.mapP {α β:Type}{F G:α->β->Prop}:∀{l₁:List α}{l₂:List β},Paired F l₁ l₂->(∀a b,F a b->G a b)->Paired G l₁ l₂
 |_,_,.nil,_=>.nil
 |_,_,.cons r t,f=>.cons (f _ _ r) (Paired.mapP t f)
theorem ObjOk.stay (x:ObjOk P w H h a o) (k:∀b u,(b=a∨H b=some (.own a))->h.get? b=some u->h'.get? b=some u)
  (ho:∀b,H b=some (.own a)->H' b=some (.own a)) (ht:∀b xs,H b=some (.tup xs)->H' b=some (.tup xs)):ObjOk P w H' h' a o:=by
 induction o with
 |lst xs=>obtain⟨z,its,n,r,e⟩:=x;exact⟨z,its,n,r,k _ _ (.inl rfl) e⟩
 |tup xs=>obtain⟨z,its,r,ob,e,c⟩:=x;exact⟨z,its,r,ob,k _ _ (.inl rfl) e,c⟩
 |dK kvs=>obtain⟨z,y,vs,r,ob,es,ep,e,c⟩:=x;exact⟨z,y,vs,r,ob,es,ep,k _ _ (.inl rfl) e,c⟩
 |dT kvs=>obtain⟨z,y,xs,r,ob,es,ep,e,c⟩:=x;exact⟨z,y,xs,Paired.mapP r λp q z=>⟨z.1,ht _ _ z.2.1,z.2.2⟩,ob,es,ep,k _ _ (.inl rfl) e,c⟩
 |set S n=>obtain⟨ob,es,ep,t,e,c⟩:=x;exact⟨ob,es,ep,t,k _ _ (.inl rfl) e,c⟩
 |ins C dx fs=>obtain⟨d,z,ne,e,mA,⟨od,es,ep,e2,c⟩,r⟩:=x;exact⟨ho _ d,z,ne,k _ _ (.inl rfl) e,mA,⟨od,es,ep,k _ _ (.inr d) e2,c⟩,r⟩
 |own y=>obtain⟨ob,e⟩:=x;exact⟨ob,k _ _ (.inl rfl) e⟩
 |xd fs=>obtain⟨mA,⟨od,es,ep,e,c⟩,r⟩:=x;exact⟨mA,⟨od,es,ep,k _ _ (.inl rfl) e,c⟩,r⟩
 |rng lo hi=>obtain⟨t,u,v,e⟩:=x;exact⟨t,u,v,k _ _ (.inl rfl) e⟩
 |frz ob u ih=>obtain⟨e,q⟩:=x;exact⟨k _ _ (.inl rfl) e,ih q⟩
 |tbl ps=>have e:h.get? a=some { cls:=.none,data:=.fields ps }:=x;show h'.get? a=some { cls:=.none,data:=.fields ps };exact k a _ (.inl rfl) e
 |met f y=>have e:h.get? a=some (qr (.ref f) (.ref y)):=x;show h'.get? a=some (qr (.ref f) (.ref y));exact k a _ (.inl rfl) e
 |ext φ=>obtain⟨p,⟨o,e⟩,st⟩:=x;exact⟨st _ _ p λo q=>k _ _ (.inl rfl) q,⟨o,k _ _ (.inl rfl) e⟩,st⟩
theorem HOk.lt (x:HOk P w H h) (e:H a=some o):a<h.objs.size:=(x a o e).lt
theorem HOk.fresh (x:HOk P w H h) (e:h.objs.size<=a):H a=none:=by
 cases q:H a with
 |none=>rfl
 |some u=>exact absurd (av (x.lt q) e) (fq _)
theorem HOk.kept (x:HOk P w H h) (k:∀b u,h.get? b=some u->h'.get? b=some u):HOk P w H h':=λa o e=>(x a o e).stay (λb u _ q=>k b u q) (λ_ q=>q) λ_ _ q=>q
theorem HOk.laid (x:HOk P w H h) (k:∀b u,h.get? b=some u->h'.get? b=some u) (hp:h.objs.size<=a) (new:ObjOk P w (aM H a o) h' a o):HOk P w (aM H a o) h':=λb u e=>by
 have hn:=x.fresh hp
 by_cases hb:b=a
 ·subst hb;rw[bX]at e;cases e;exact new
 ·rw[aZ hb]at e;exact(x b u e).stay (λc v _ q=>k c v q) (λc q=>by rw[aZ (dU q hn)];exact q) λc xs q=>by rw[aZ (dU q hn)];exact q
end
def Rd (H:Hp) (a:ah) (u:HO):Prop:=H a=some u∨∃o,H a=some (.frz o u)
theorem Rd.ok {P:bf}{w:cg}{H:Hp}{h:ck}{a:ah}{u:HO}(r:Rd H a u) (x:HOk P w H h):ObjOk P w H h a u:=by
 rcases r with r|⟨o,r⟩
 ·exact x a u r
 ·obtain⟨_,q⟩:=x a _ r;exact q
def sM:Option HO->Prop
 |some (.lst _)=>True
 |some (.dK _)=>True
 |some (.dT _)=>True
 |some (.set _ _)=>True
 |some (.ins _ _ _)=>True
 |some (.ext _)=>True
 |_=>False
section
variable{P:bf}{w:cg}{H:Hp}{h h':ck}{x e:ah}{o':HO}
theorem HOk.write (ok:HOk P w H h) (mu:sM (H x)) (he:e=x∨H e=some (.own x)) (k:∀b u,b≠e->h.get? b=some u->h'.get? b=some u) (heo:∃u,h'.get? e=some u)
  (new:ObjOk P w (aM H x o') h' x o'):HOk P w (aM H x o') h':=λb u q=>by
 have nown:∀c y,H c=some (.own y)->c≠x:=λc y r z=>by subst z;rw[r]at mu;exact mu
 have ntup:∀c xs,H c=some (.tup xs)->c≠x:=λc xs r z=>by subst z;rw[r]at mu;exact mu
 by_cases hb:b=x
 ·subst hb;rw[bX]at q;cases q;exact new
 ·rw[aZ hb]at q
  by_cases hbe:b=e
  ·have q':H b=some (.own x):=by
    rcases he with z|z
    ·exact absurd (hbe.trans z) hb
    ·rw[hbe];exact z
   rw[q]at q';cases q';obtain⟨v,hv⟩:=heo;exact⟨v,by rw[hbe];exact hv⟩
  ·refine(ok b u q).stay (λc v hc r=>k c v ?_ r) (λc r=>by rw[aZ (nown c b r)];exact r) λc xs r=>by rw[aZ (ntup c xs r)];exact r
   rcases hc with rfl|hc
   ·exact hbe
   ·rintro rfl
    rcases he with z|z
    ·exact nown c b hc z
    ·rw[hc]at z;cases z;exact hb rfl
end
structure Un (fs ex:List ah) (H H':Hp) (h h':ck):Prop where
 keep:∀b o,h.get? b=some o->H b=none->b∉fs->b∉ex->h'.get? b=some o
 slot:∀b o,h.get? b=some o->H b=none->b∈fs->b∉ex->∃sl,h'.get? b=some { o with slots:=sl }
 free:∀b o,h.get? b=some o->H b=none->b∉ex->H' b=none
 there:∀b o,h.get? b=some o->b∉ex->∃o',h'.get? b=some o'
 tups:∀b xs,H b=some (.tup xs)->H' b=some (.tup xs)
 frzs:∀b o u,H b=some (.frz o u)->H' b=some (.frz o u)
 tbls:∀b ps,H b=some (.tbl ps)->∃more,H' b=some (.tbl (ps++more))
section
variable{fs fs' ex ex':List ah}{H H1 H2:Hp}{h h1 h2 h':ck}{a x e:ah}{o:HO}
theorem Un.any (u:Un fs ex H H1 h h1) {b:ah}{ob:Obj}(q:h.get? b=some ob) (n:H b=none) (hx:b∉ex):∃sl,h1.get? b=some { ob with slots:=sl }:=by
 by_cases hb:b∈fs
 ·exact u.slot b ob q n hb hx
 ·exact⟨ob.slots,u.keep b ob q n hb hx⟩
theorem Un.kept (k:∀b u,h.get? b=some u->h'.get? b=some u):Un fs ex H H h h':=⟨λb ob q _ _ _=>k b ob q,λb ob q _ _ _=>⟨ob.slots,k b ob q⟩,λ_ _ _ n _=>n,λb ob q _=>⟨ob,k b ob q⟩,λ_ _ q=>q,λ_ _ _ q=>q,λ_ ps q=>⟨#[],by rw[q];simp⟩⟩
theorem Un.refl:Un fs ex H H h h:=Un.kept λ_ _ q=>q
theorem Un.laid (k:∀b u,h.get? b=some u->h'.get? b=some u) (hp:h.objs.size<=a) (hn:H a=none):Un fs ex H (aM H a o) h h' where
 keep:=λb u q _ _ _=>k b u q
 slot:=λb u q _ _ _=>⟨u.slots,k b u q⟩
 free:=λb u q n _=>by rw[aZ (bc (av (au q) hp))];exact n
 there:=λb u q _=>⟨u,k b u q⟩
 tups:=λb xs q=>by rw[aZ (dU q hn)];exact q
 frzs:=λb u xs q=>by rw[aZ (dU q hn)];exact q
 tbls:=λb ps q=>⟨#[],by rw[aZ (dU q hn),q];simp⟩
theorem Un.write (mu:sM (H x)) (he:e=x∨H e=some (.own x)) (k:∀b u,b≠e->h.get? b=some u->h'.get? b=some u) (heo:∃u,h'.get? e=some u):Un fs ex H (aM H x o) h h':=by
 have hx:∀b,H b=none->b≠x:=λb n z=>by subst z;rw[n]at mu;exact mu
 have hb:∀b,H b=none->b≠e:=λb n z=>by
  subst z
  rcases he with r|r
  ·exact hx b n r
  ·rw[n]at r;cases r
 have hm:∀b u,H b=some u->¬ sM (some u)->b≠x:=λb u q nm z=>by subst z;rw[q]at mu;exact nm mu
 refine⟨λb u q n _ _=>k b u (hb b n) q,λb u q n _ _=>⟨u.slots,k b u (hb b n) q⟩,λb u q n _=>by rw[aZ (hx b n)];exact n,λb u q _=>?_,
  λb xs q=>by rw[aZ (hm b _ q λz=>z)];exact q,λb u xs q=>by rw[aZ (hm b _ q λz=>z)];exact q,λb ps q=>⟨#[],by rw[aZ (hm b _ q λz=>z),q];simp⟩⟩
 by_cases hbe:b=e
 ·subst hbe;exact heo
 ·exact⟨u,k b u hbe q⟩
end
def sN (h:ck) (H:Hp):List ah:=(bo h.objs.size).filter λa=>(H a).isSome
def iR (h:ck) (H:Hp):ck:=PySem.W.hideAll h (sN h H)
theorem LF (h:ck) (H:Hp):(iR h H).objs.size=h.objs.size:=y9 _ _
theorem LG {h:ck}{H:Hp}{b:ah}{o:Obj}(e:h.get? b=some o) (n:H b=none):(iR h H).get? b=some o:=yd _ e λhm=>by have q:(H b).isSome=true:=(my.mp hm).2;rw[n]at q;simp at q
theorem LH {h:ck}{H:Hp}{b:ah}{o:Obj}(e:(iR h H).get? b=some o):h.get? b=some o/\H b=none:=by
 have e':h.get? b=some o:=yi (sN h H) e;refine⟨e', ?_⟩
 cases q:H b with
 |none=>rfl
 |some x=>have hm:b∈sN h H:=my.mpr ⟨bx.mpr (au e'),by simp[q]⟩;have z:(iR h H).get? b=none:=ya (sN h H) hm;rw[z]at e;cases e
structure Mod (K:ao) (mg:Str->Option af) (base:ck):Prop where
 kin:K.In base
 glob:base.Ns cw mg
 blt:∃mb,base.Ns builtinsNs mb/\∀x:Str,x ≠ "__name__"->mb x=cx x
 nolimit:base.NoLimit
structure Cx where
 prog:bf
 w:cg
 K:ao
 mg:Str->Option af
 base:ck
 A:cf
 N:List Str
 s₀:ag
 H₀:Hp
 env:Env
 outer:List Env
 stack:List Env
 ex:List ah
 fn:Str->Bool
 calm:Bool
 pn:List (ah×Obj)
 xe:af->ag->Prop
def cM (l:List Env):List ah:=l.filterMap (·.frame)
abbrev Cx.fs (X:Cx):List ah:=cM X.outer
def nW (sc:gn) (x:Str):Prop:=sc.names.lookup x=some .local∨sc.names.lookup x=some .cell∨sc.names.lookup x=some .free
def jJ (sc:gn) (x:Str):Prop:=sc.names.lookup x=some .local∨sc.names.lookup x=some .cell
def CC (env:Env) (h:ck) (m:Str->Option af) (x:Str) (u:af):Prop:=(env.kindOf x=some .local/\m x=some u)∨((env.kindOf x=some .cell∨env.kindOf x=some .free)/\∃c,env.cells.lookup x=some c/\h.IsCell c (some u))
structure Cx.Ok (X:Cx):Prop where
 mod:Mod X.K X.mg X.base
 kind:X.env.scope.kind=.function
 glob:X.env.globals=cw
 blt:X.env.builtins=builtinsNs
 above:X.s₀.heap.objs.size<=X.env.locals
 inj:∀x y c,X.env.cells.lookup x=some c->X.env.cells.lookup y=some c->x=y
 has:∀x,(X.env.kindOf x=some .cell∨X.env.kindOf x=some .free)->∃c,X.env.cells.lookup x=some c
 cab:∀x c,X.fn x=true->X.env.cells.lookup x=some c->X.s₀.heap.objs.size<=c
 hd:X.calm=true->X.A.handled=none
 frames:X.A.frames=some X.stack
 stk:X.stack=X.outer∨(X.stack=X.env::X.outer/\X.env.frame=some X.env.locals)
 exf:∀b∈X.ex,b≠X.env.locals/\∀x c,X.env.cells.lookup x=some c->c≠b
 bs:∀b o,X.base.get? b=some o->X.s₀.heap.get? b=some o/\X.H₀ b=none
 bsz:X.base.objs.size<=X.s₀.heap.objs.size
 noex:∀b o,X.base.get? b=some o->b∉X.ex
 exfs:∀b∈X.ex,b∉X.fs
 funs:X.s₀.heap.FunFrames X.base X.outer
 frf:∀b∈X.fs,X.H₀ b=none
structure Inv (X:Cx) (pins:List (ah×Obj)) (σ:List (Option V)) (H:Hp) (s:ag):Prop where
 ok:X.Ok
 os:s.os=X.s₀.os
 bare:ph s.gens
 base:Un X.fs X.ex X.H₀ H X.s₀.heap s.heap
 loc:∃m,s.heap.Ns X.env.locals m/\∀(i:Nat) (x:Str) (v:V),X.N[i]?=some x->σ[i]?=some (some v)->nW X.env.scope x->∃u,RelV v u/\CC X.env s.heap m x u
 cell:∀x c,X.env.cells.lookup x=some c->∃v,s.heap.IsCell c v
 free:H X.env.locals=none
 freeC:∀x c,X.env.cells.lookup x=some c->H c=none
 pin:∀p∈X.pn++pins,s.heap.get? p.1=some p.2/\H p.1=none/\p.1≠X.env.locals/\p.1∉X.fs/\∀v,p.2.data≠.cell v
 hok:HOk X.prog X.w H s.heap
 len:σ.length=X.N.length
section
variable{X:Cx}{pins:List (ah×Obj)}{σ:List (Option V)}{H H':Hp}{s:ag}{h':ck}
theorem Cx.Ok.nofr (ok:X.Ok) {b:ah}{o:Obj}(e:X.base.get? b=some o):b∉X.fs:=λhb=>by have:=(ok.funs.mem hb).1;rw[e]at this;cases this
theorem Inv.bs (I:Inv X pins σ H s):∀b o,X.base.get? b=some o->s.heap.get? b=some o/\H b=none:=λb o e=>⟨I.base.keep b o (I.ok.bs b o e).1 (I.ok.bs b o e).2 (I.ok.nofr e) (I.ok.noex b o e),I.base.free b o (I.ok.bs b o e).1 (I.ok.bs b o e).2 (I.ok.noex b o e)⟩
theorem Inv.bk (I:Inv X pins σ H s):∀b o,X.base.get? b=some o->s.heap.get? b=some o:=λb o e=>(I.bs b o e).1
theorem Inv.mod (I:Inv X pins σ H s):Mod X.K X.mg X.base:=I.ok.mod
theorem Inv.kIn (I:Inv X pins σ H s):X.K.In s.heap:=I.ok.mod.kin.keeps I.bk
theorem Inv.lt (I:Inv X pins σ H s):X.env.locals<s.heap.objs.size:=let ⟨_,hn,_⟩:=I.loc;hn.lt
theorem Inv.sz (I:Inv X pins σ H s):X.s₀.heap.objs.size<=s.heap.objs.size:=dm I.ok.above (gp I.lt)
theorem Inv.nofs (I:Inv X pins σ H s) {a:ah}(h:s.heap.objs.size<=a):a∉X.fs:=λhb=>by obtain⟨_,o,ho,_⟩:=I.ok.funs.mem hb;exact absurd (av (au ho) (dm I.sz h)) (fq _)
theorem Inv.cne (I:Inv X pins σ H s):∀x c,X.env.cells.lookup x=some c->c≠X.env.locals:=λx c e z=>by obtain⟨v,o,ho,hd⟩:=I.cell x c e;obtain⟨m,⟨o',es,ep,ho',hd',_⟩,_⟩:=I.loc;rw[z,ho']at ho;cases ho;rw[hd']at hd;cases hd
theorem Inv.funs (I:Inv X pins σ H s):s.heap.FunFrames X.base X.outer:=by
 have all:∀(l:List Env),(∀b∈cM l,b∈X.fs)->X.s₀.heap.FunFrames X.base l->s.heap.FunFrames X.base l:=by
  intro l
  induction l with
  |nil=>intro _ _;trivial
  |cons env r ih=>intro hs hl;obtain⟨hk,⟨L,o,hf,hn,ho,hd⟩,hr⟩:=hl;have hL:L∈X.fs:=hs L (by unfold cM;rw[bz,hf];exact ba);obtain⟨sl,e⟩:=I.base.slot L o ho (I.ok.frf L hL) hL λz=>I.ok.exfs L z hL;exact⟨hk,⟨L,_,hf,hn,e,hd⟩,ih (λb hb=>hs b (by unfold cM;rw[bz,hf];exact aw _ hb)) hr⟩
 exact all X.outer (λ_ hb=>hb) I.ok.funs
theorem Inv.stack (I:Inv X pins σ H s):s.heap.FunFrames X.base X.stack:=by
 rcases I.ok.stk with e|⟨e,hf⟩
 ·rw[e];exact I.funs
 ·rw[e];obtain⟨m,hn,_⟩:=I.loc;refine .cons (by rw[I.ok.kind];decide) hf hn ?_ I.funs;exact Heap.get?_none_of_le (dm I.ok.bsz I.ok.above)
theorem Inv.stkSub (I:Inv X pins σ H s):∀b∈cM X.stack,b∈X.env.locals::X.fs:=λb hb=>by
 rcases I.ok.stk with e|⟨e,hf⟩
 ·rw[e]at hb;exact aw _ hb
 ·rw[e]at hb;unfold cM at hb;rw[bz,hf]at hb;exact hb
theorem Inv.stkFree (I:Inv X pins σ H s):∀b∈cM X.stack,H b=none:=λb hb=>by
 rcases bg.mp (I.stkSub b hb)with e|hb
 ·rw[e];exact I.free
 ·obtain⟨_,o,ho,_⟩:=I.ok.funs.mem hb;exact I.base.free b o ho (I.ok.frf b hb) λz=>I.ok.exfs b z hb
theorem Inv.step {g':Array GenState}{t':Nat}{d':Drawn}{ch:List ah}(I:Inv X pins σ H s)
  (hch:∀b∈ch,(b∈X.ex∨X.s₀.heap.objs.size<=b)/\b≠X.env.locals/\(∀x c,X.env.cells.lookup x=some c->c≠b)/\∀p∈X.pn++pins,p.1≠b)
  (keep:∀b o,b≠X.env.locals->b∉X.fs->b∉ch->s.heap.get? b=some o->H b=none->h'.get? b=some o)
  (slot:∀b o,b≠X.env.locals->b∈X.fs->b∉ch->s.heap.get? b=some o->H b=none->∃sl,h'.get? b=some { o with slots:=sl }) (free:∀b o,b∉ch->s.heap.get? b=some o->H b=none->H' b=none)
  (there:∀b o,b∉ch->s.heap.get? b=some o->∃o',h'.get? b=some o')
  (tups:∀b xs,H b=some (.tup xs)->H' b=some (.tup xs)) (frzs:∀b o u,H b=some (.frz o u)->H' b=some (.frz o u)) (tbls:∀b ps,H b=some (.tbl ps)->∃more,H' b=some (.tbl (ps++more)))
  (ns:∀m,s.heap.Ns X.env.locals m->h'.Ns X.env.locals m) (hok:HOk X.prog X.w H' h') (hg:ph g'):
  Inv X pins σ H' { s with heap:=h',gens:=g',drawn:=d',toks:=t' }:=by
 have neL:∀b o,X.s₀.heap.get? b=some o->b≠X.env.locals:=λb o e=>bc (av (au e) I.ok.above);have neC:∀b o,X.s₀.heap.get? b=some o->b∉X.ex->b∉ch:=λb o e hx hb=>by
  rcases(hch b hb).1 with z|z
  ·exact hx z
  ·exact absurd (av (au e) z) (fq _)
 have cellK:∀x c,X.env.cells.lookup x=some c->∀v,s.heap.IsCell c v->h'.IsCell c v:=λx c e v ⟨o,ho,hd⟩=>by
  have nch:c∉ch:=λz=>(hch c z).2.2.1 x c e rfl
  by_cases hc:c∈X.fs
  ·obtain⟨sl,q⟩:=slot c o (I.cne x c e) hc nch ho (I.freeC x c e);exact⟨_,q,hd⟩
  ·exact⟨o,keep c o (I.cne x c e) hc nch ho (I.freeC x c e),hd⟩
 refine⟨I.ok,I.os,hg,⟨λb o e n hb hx=>?_,λb o e n hb hx=>?_,λb o e n hx=>?_,λb o e hx=>?_,λb xs e=>tups b xs (I.base.tups b xs e),λb o xs e=>frzs b o xs (I.base.frzs b o xs e),λb ps e=>?_⟩, ?_,λx c e=>?_, ?_,λx c e=>?_,λp hp=>?_,hok,I.len⟩
 ·exact keep b o (neL b o e) hb (neC b o e hx) (I.base.keep b o e n hb hx) (I.base.free b o e n hx)
 ·obtain⟨sl,e1⟩:=I.base.slot b o e n hb hx;obtain⟨sl',e2⟩:=slot b _ (neL b o e) hb (neC b o e hx) e1 (I.base.free b o e n hx);exact⟨sl',e2⟩
 ·obtain⟨o',e1⟩:=I.base.there b o e hx;exact free b o' (neC b o e hx) e1 (I.base.free b o e n hx)
 ·obtain⟨o',e1⟩:=I.base.there b o e hx;exact there b o' (neC b o e hx) e1
 ·obtain⟨m1,e1⟩:=I.base.tbls b ps e;obtain⟨m2,e2⟩:=tbls b _ e1;exact⟨m1++m2,by rw[e2,Array.append_assoc]⟩
 ·obtain⟨m,hn,hl⟩:=I.loc;refine⟨m,ns m hn,λi x v e1 e2 e3=>?_⟩;obtain⟨u,r,l⟩:=hl i x v e1 e2 e3;refine⟨u,r, ?_⟩
  rcases l with l|⟨k,c,e,z⟩
  ·exact .inl l
  ·exact .inr ⟨k,c,e,cellK x c e _ z⟩
 ·obtain⟨v,z⟩:=I.cell x c e;exact⟨v,cellK x c e v z⟩
 ·obtain⟨m,⟨o,_,_,ho,_⟩,_⟩:=I.loc;exact free _ o (λz=>(hch _ z).2.1 rfl) ho I.free
 ·obtain⟨v,o,ho,hd⟩:=I.cell x c e;exact free c o (λz=>(hch c z).2.2.1 x c e rfl) ho (I.freeC x c e)
 ·obtain⟨e,n,ne,nf,d⟩:=I.pin p hp;have nch:p.1∉ch:=λz=>(hch p.1 z).2.2.2 p hp rfl;exact⟨keep p.1 p.2 ne nf nch e n,free p.1 p.2 nch e n,ne,nf,d⟩
theorem Inv.un {t':Nat}(I:Inv X pins σ H s) (u:Un X.fs [] H H' s.heap h') (hok:HOk X.prog X.w H' h'):Inv X pins σ H' { s with heap:=h',toks:=t' }:=by obtain⟨m,⟨o,es,ep,ho,r⟩,_⟩:=id I.loc;obtain⟨sl,hL⟩:=u.any ho I.free (by simp);exact I.step (g':=s.gens) (d':=s.drawn) (ch:=[]) (λ_ z=>nomatch z) (λb o _ hb _ e n=>u.keep b o e n hb (by simp)) (λb o _ hb _ e n=>u.slot b o e n hb (by simp)) (λb o _ e n=>u.free b o e n (by simp)) (λb o _ e=>u.there b o e (by simp)) u.tups u.frzs u.tbls (λm' hm=>by obtain⟨o',es',ep',ho',r'⟩:=hm;rw[ho]at ho';cases ho';exact⟨_,es',ep',hL,r'⟩) hok I.bare
theorem Inv.call {g':Array GenState}{t':Nat}{d':Drawn}{ch:List ah}(I:Inv X pins σ H s) (u:Un (cM X.stack) ch H H' s.heap h') (hok:HOk X.prog X.w H' h') (hg:ph g')
  (hch:∀b∈ch,(b∈X.ex∨X.s₀.heap.objs.size<=b)/\b≠X.env.locals/\(∀x c,X.env.cells.lookup x=some c->c≠b)/\∀p∈X.pn++pins,p.1≠b):
  Inv X pins σ H' { s with heap:=h',gens:=g',drawn:=d',toks:=t' }:=by
 obtain⟨m,⟨o,es,ep,ho,r⟩,_⟩:=id I.loc;obtain⟨sl,hL⟩:=u.any ho I.free λz=>(hch _ z).2.1 rfl;exact I.step (ch:=ch) hch (λb o hL hb hc e n=>u.keep b o e n (λz=>(bg.mp (I.stkSub b z)).elim hL hb) hc) (λb o _ _ hc e n=>u.any e n hc) (λb o hc e n=>u.free b o e n hc) (λb o hc e=>u.there b o e hc) u.tups u.frzs u.tbls (λm' hm=>by obtain⟨o',es',ep',ho',r'⟩:=hm;rw[ho]at ho';cases ho';exact⟨_,es',ep',hL,r'⟩) hok hg
theorem Inv.turned {t':Nat}{it:ah}(I:Inv X pins σ H s) (k:∀b o,b≠it->s.heap.get? b=some o->h'.get? b=some o) (hn:H it=none) (hL:it≠X.env.locals)
  (h1:it∈X.ex∨X.s₀.heap.objs.size<=it) (h2:∀x c,X.env.cells.lookup x=some c->c≠it) (h3:∀p∈X.pn++pins,p.1≠it):Inv X pins σ H { s with heap:=h',toks:=t' }:=by
 have nit:∀b u,H b=some u->b≠it:=λb u e z=>by rw[z,hn]at e;cases e
 refine I.step (g':=s.gens) (d':=s.drawn) (ch:=[it]) (λb hb=>?_) (λb o _ _ hc e _=>k b o (λz=>hc (by simp[z])) e) (λb o _ _ hc e _=>⟨o.slots,k b o (λz=>hc (by simp[z])) e⟩) (λ_ _ _ _ n=>n)
  (λb o hc e=>⟨o,k b o (λz=>hc (by simp[z])) e⟩) (λ_ _ e=>e) (λ_ _ _ e=>e) (λb ps e=>⟨#[],by rw[e];simp⟩) (λm hm=>?_) (λb u e=>?_) I.bare
 ·have e:b=it:=by simpa using hb
  subst e;exact⟨h1,hL,h2,h3⟩
 ·obtain⟨o,es,ep,ho,r⟩:=hm;exact⟨o,es,ep,k _ o (cz hL) ho,r⟩
 ·refine(I.hok b u e).stay (λc v hc q=>k c v ?_ q) (λ_ q=>q) λ_ _ q=>q
  rcases hc with z|z
  ·rw[z];exact nit b u e
  ·exact nit c _ z
theorem Inv.tok (I:Inv X pins σ H s) (t:Nat):Inv X pins σ H { s with toks:=t }:=I.un (h':=s.heap) (t':=t) Un.refl I.hok
theorem Inv.kept {t':Nat}(I:Inv X pins σ H s) (k:∀b u,s.heap.get? b=some u->h'.get? b=some u):Inv X pins σ H { s with heap:=h',toks:=t' }:=I.un (Un.kept k) (I.hok.kept k)
theorem Inv.laid {a:ah}{o:HO}{t':Nat}(I:Inv X pins σ H s) (k:∀b u,s.heap.get? b=some u->h'.get? b=some u) (hp:s.heap.objs.size<=a) (new:ObjOk X.prog X.w (aM H a o) h' a o):
  Inv X pins σ (aM H a o) { s with heap:=h',toks:=t' }:=I.un (Un.laid k hp (I.hok.fresh hp)) (I.hok.laid k hp new)
theorem Inv.write {x e:ah}{o:HO}{t':Nat}(I:Inv X pins σ H s) (mu:sM (H x)) (he:e=x∨H e=some (.own x)) (k:∀b u,b≠e->s.heap.get? b=some u->h'.get? b=some u) (heo:∃u,h'.get? e=some u)
  (new:ObjOk X.prog X.w (aM H x o) h' x o):Inv X pins σ (aM H x o) { s with heap:=h',toks:=t' }:=I.un (Un.write mu he k heo) (I.hok.write mu he k heo new)
theorem Inv.pins_of {pins':List (ah×Obj)}(I:Inv X pins σ H s) (h:∀p∈pins',s.heap.get? p.1=some p.2/\H p.1=none/\p.1≠X.env.locals/\p.1∉X.fs/\∀v,p.2.data≠.cell v):Inv X pins' σ H s:=⟨I.ok,I.os,I.bare,I.base,I.loc,I.cell,I.free,I.freeC,λp hp=>(dy.mp hp).elim (λz=>I.pin p (jh _ z)) (h p),I.hok,I.len⟩
theorem wX {N:List Str}(hN:N.Nodup) {i j:Nat}{x:Str}(a:N[i]?=some x) (b:N[j]?=some x):i=j:=by obtain⟨h1,e1⟩:=ax.mp a;obtain⟨h2,e2⟩:=ax.mp b;exact(List.getElem_inj hN).mp (e1.trans e2.symm)
theorem LI {M:xh}{A:cf}{E:af->ag->Prop}{i:Nat}{x:Str}{v:V}{u:af}{Q:Unit->ag->Prop}(I:Inv X pins σ H s) (hN:X.N.Nodup) (hi:X.N[i]?=some x) (hx:jJ X.env.scope x) (r:RelV v u)
  (h:∀s',Inv X pins (σ.set i (some v)) H s'->(∃a,gv a s.heap s'.heap/\(a=X.env.locals∨X.env.cells.lookup x=some a))->Q () s') (hf:X.fn x=true∨X.env.scope.names.lookup x=some .local:=by first|exact .inl rfl|exact .inr rfl|assumption):wpAny M A (storeName X.env x u) Q E s:=by
 obtain⟨m,hn,hl⟩:=id I.loc;have hcls:(X.env.scope.kind==.class||(X.env.scope.kind==.module&&X.env.locals != X.env.globals))=false:=by rw[I.ok.kind];rfl
 have hiσ:i<σ.length:=by rw[I.len];exact(ax.mp hi).1
 have cne:=I.cne;have tracked:∀{a:ah}{h':ck},(∃o,s.heap.get? a=some o/\H a=none)->gv a s.heap h'->HOk X.prog X.w H h':=λ{a h'} ha hs b ob e=>by
  obtain⟨_,_,hfree⟩:=ha;refine(I.hok b ob e).stay (λc w' hc q=>(hs.2 c ?_).trans q) (λ_ q=>q) λ_ _ q=>q
  rintro rfl
  rcases hc with rfl|hc
  ·rw[hfree]at e;cases e
  ·rw[hfree]at hc;cases hc
 rcases hx with hk|hk
 ·refine wpAny_storeName_local hk hn (λh' hn' hs=>?_) hcls;obtain⟨oL,_,_,hoL,_⟩:=id hn;refine h _ ⟨I.ok,I.os,I.bare,⟨λb o e n hb hx=>?_,λb o e n hb hx=>?_,I.base.free,λb o e hx=>?_,I.base.tups,I.base.frzs,I.base.tbls⟩,⟨_,hn',λj y v' e1 e2 e3=>?_⟩,λy c e=>?_,I.free,I.freeC,λp hp=>?_,tracked ⟨oL,hoL,I.free⟩ hs,by simpa using I.len⟩ ⟨_,hs,.inl rfl⟩
  ·exact(hs.2 b (bc (av (au e) I.ok.above))).trans (I.base.keep b o e n hb hx)
  ·obtain⟨sl,e1⟩:=I.base.slot b o e n hb hx;exact⟨sl,(hs.2 b (bc (av (au e) I.ok.above))).trans e1⟩
  ·obtain⟨o',e1⟩:=I.base.there b o e hx;exact⟨o',(hs.2 b (bc (av (au e) I.ok.above))).trans e1⟩
  ·by_cases hj:j=i
   ·subst hj;rw[hi]at e1;cases e1;rw[di hiσ]at e2;cases e2;exact⟨u,r,.inl ⟨hk,by simp⟩⟩
   ·rw[ed (cz hj)]at e2;obtain⟨u',r',q⟩:=hl j y v' e1 e2 e3;refine⟨u',r', ?_⟩
    rcases q with⟨k,e⟩|⟨k,c,e,z⟩
    ·refine .inl ⟨k, ?_⟩;have:y≠x:=λe=>hj (wX hN e1 (e▸hi));simp[this,e]
    ·exact .inr ⟨k,c,e,z.sameBut hs (cne y c e)⟩
  ·obtain⟨w',z⟩:=I.cell y c e;exact⟨w',z.sameBut hs (cne y c e)⟩
  ·obtain⟨e,n,ne,nf,d⟩:=I.pin p hp;exact⟨(hs.2 p.1 ne).trans e,n,ne,nf,d⟩
 ·have hfn:X.fn x=true:=by
   rcases hf with z|z
   ·exact z
   ·rw[z]at hk;cases hk
  obtain⟨c,hc⟩:=I.ok.has x (.inl hk);obtain⟨w',z⟩:=I.cell x c hc;refine wpAny_storeName_cell I.ok.kind hk hc z (λh' hc' hs=>?_);obtain⟨oc,hoc,hocd⟩:=id z;refine h { s with heap:=h' } ⟨I.ok,I.os,I.bare,⟨λb o e n hb hx=>?_,λb o e n hb hx=>?_,I.base.free,λb o e hx=>?_,I.base.tups,I.base.frzs,I.base.tbls⟩,⟨m,hn.sameBut hs (cz (cne x c hc)),λj y v' e1 e2 e3=>?_⟩,λy c' e=>?_,I.free,I.freeC,λp hp=>?_,tracked ⟨oc,hoc,I.freeC x c hc⟩ hs,by simpa using I.len⟩ ⟨c,hs,.inr hc⟩
  ·exact(hs.2 b (bc (av (au e) (I.ok.cab x c hfn hc)))).trans (I.base.keep b o e n hb hx)
  ·obtain⟨sl,e1⟩:=I.base.slot b o e n hb hx;exact⟨sl,(hs.2 b (bc (av (au e) (I.ok.cab x c hfn hc)))).trans e1⟩
  ·obtain⟨o',e1⟩:=I.base.there b o e hx;exact⟨o',(hs.2 b (bc (av (au e) (I.ok.cab x c hfn hc)))).trans e1⟩
  ·by_cases hj:j=i
   ·subst hj;rw[hi]at e1;cases e1;rw[di hiσ]at e2;cases e2;exact⟨u,r,.inr ⟨.inl hk,c,hc,hc'⟩⟩
   ·rw[ed (cz hj)]at e2;obtain⟨u',r',q⟩:=hl j y v' e1 e2 e3;refine⟨u',r', ?_⟩
    rcases q with q|⟨k,c',e,z'⟩
    ·exact .inl q
    ·refine .inr ⟨k,c',e,z'.sameBut hs ?_⟩
     rintro rfl
     exact hj (wX hN e1 (I.ok.inj _ _ _ e hc▸hi))
  ·by_cases hcc:c'=c
   ·subst hcc;exact⟨_,hc'⟩
   ·obtain⟨w2,z2⟩:=I.cell y c' e;exact⟨w2,z2.sameBut hs hcc⟩
  ·obtain⟨e,n,ne,nf,d⟩:=I.pin p hp;refine⟨(hs.2 p.1 ?_).trans e,n,ne,nf,d⟩;intro q;rw[q,hoc]at e;have q':oc=p.2:=cn e;exact d w' (by rw[<-q'];exact hocd)
theorem wY {M:xh}{A:cf}{E:af->ag->Prop}{i:Nat}{x:Str}{v:V}{u:af}{Q:Unit->ag->Prop}(I:Inv X pins σ H s) (hN:X.N.Nodup) (hi:X.N[i]?=some x) (hx:jJ X.env.scope x) (r:RelV v u)
  (h:∀s',Inv X pins (σ.set i (some v)) H s'->Q () s') (hf:X.fn x=true∨X.env.scope.names.lookup x=some .local:=by first|exact .inl rfl|exact .inr rfl|assumption):wpAny M A (storeName X.env x u) Q E s:=
 LI I hN hi hx r (λs' I' _=>h s' I') hf
theorem Inv.call' {s':ag}{ch:List ah}(I:Inv X pins σ H s) (ho:s'.os=s.os) (u:Un (cM X.stack) ch H H' s.heap s'.heap) (hok:HOk X.prog X.w H' s'.heap) (hg:ph s'.gens)
  (hch:∀b∈ch,(b∈X.ex∨X.s₀.heap.objs.size<=b)/\b≠X.env.locals/\(∀x c,X.env.cells.lookup x=some c->c≠b)/\∀p∈X.pn++pins,p.1≠b):Inv X pins σ H' s':=by
 obtain⟨h',g',d',t',o'⟩:=s';have e:o'=s.os:=ho;subst e;exact I.call (g':=g') (t':=t') (d':=d') u hok hg hch
end
abbrev XK:=af->Option ah->Hp->Prop
abbrev St:=List (Option V)
abbrev VK:=V->Hp->Prop
abbrev TE:=St->Hp->VK->Prop
abbrev TT:=St->Hp->(Bool->Hp->Prop)->Prop
abbrev TA:=St->Hp->(List V->Hp->Prop)->Prop
structure Ends where
 nx:St->Hp->Prop
 rt:VK
 bk:St->Hp->Prop:=λ_ _=>False
 ct:St->Hp->Prop:=λ_ _=>False
abbrev TS:=Ends->St->Hp->Prop
def EP (X:Cx) (pins:List (ah×Obj)) (σ:St) (Q:VK) (u:af) (s':ag):Prop:=∃v H',Inv X pins σ H' s'/\RelV v u/\Q v H'
def TP (X:Cx) (pins:List (ah×Obj)) (σ:St) (Q:Bool->Hp->Prop) (b:Bool) (s':ag):Prop:=∃H',Inv X pins σ H' s'/\Q b H'
def AP (X:Cx) (pins:List (ah×Obj)) (σ:St) (Q:List V->Hp->Prop) (us:List af) (s':ag):Prop:=∃vs H',Inv X pins σ H' s'/\Vals vs us/\Q vs H'
def SP (X:Cx) (pins:List (ah×Obj)) (D:Ends) (f:Flow) (s':ag):Prop:=
 match f with
 | .next=>∃σ' H',Inv X pins σ' H' s'/\D.nx σ' H'
 | .brk=>∃σ' H',Inv X pins σ' H' s'/\D.bk σ' H'
 | .cont=>∃σ' H',Inv X pins σ' H' s'/\D.ct σ' H'
 | .ret u=>∃v σ' H',Inv X pins σ' H' s'/\RelV v u/\D.rt v H'
def PE (X:Cx) (e:bj) (t:TE):Prop:=∀(pins:List (ah×Obj)) (s:ag) (σ:St) (H:Hp) (Q:VK),Inv X pins σ H s->t σ H Q->wpAny (model X.prog X.w) X.A (eval e X.env) (EP X pins σ Q) X.xe s
def PT (X:Cx) (e:bj) (t:TT):Prop:=∀(pins:List (ah×Obj)) (s:ag) (σ:St) (H:Hp) (Q:Bool->Hp->Prop),Inv X pins σ H s->t σ H Q->wpAny (model X.prog X.w) X.A (isTrue e X.env (eval e X.env)) (TP X pins σ Q) X.xe s
def PW (X:Cx) (e:bj) (t:TT):Prop:=∀(whole:Sem af) (pins:List (ah×Obj)) (s:ag) (σ:St) (H:Hp) (Q:Bool->Hp->Prop),Inv X pins σ H s->t σ H Q->wpAny (model X.prog X.w) X.A (isTrue e X.env whole) (TP X pins σ Q) X.xe s
theorem PW.pt {X:Cx}{e:bj}{t:TT}(h:PW X e t):PT X e t:=h _
def PA (X:Cx) (es:List bj) (t:TA):Prop:=∀(pos:Pos) (pins:List (ah×Obj)) (s:ag) (σ:St) (H:Hp) (Q:List V->Hp->Prop),Inv X pins σ H s->t σ H Q->wpAny (model X.prog X.w) X.A (spliced (backTo pos (aq es X.env))) (AP X pins σ Q) X.xe s
def PS (X:Cx) (st:gy) (t:TS):Prop:=∀(pins:List (ah×Obj)) (s:ag) (σ:St) (H:Hp) (D:Ends),Inv X pins σ H s->t D σ H->wpAny (model X.prog X.w) X.A (exec st X.env) (SP X pins D) X.xe s
def PSs (X:Cx) (st:List gy) (t:TS):Prop:=∀(pins:List (ah×Obj)) (s:ag) (σ:St) (H:Hp) (D:Ends),Inv X pins σ H s->t D σ H->wpAny (model X.prog X.w) X.A (execs st X.env) (SP X pins D) X.xe s
theorem aR {α:Type}{t:Sem α}{Q Q':α->ag->Prop}{M:xh}{A:cf}{E:af->ag->Prop}{s:ag}(h:wpAny M A t Q E s) (hQ:∀a s,Q a s->Q' a s):wpAny M A t Q' E s:=js h hQ λ_ _ x=>x
section
variable{X:Cx}
def LJ (i:Nat):TE:=λσ H Q=>∃v,σ[i]?=some (some v)/\Q v H
def tC (v:V):TE:=λ_ H Q=>Q v H
theorem wZ {i:Nat}{x:Str}{pos:Pos}(hN:X.N[i]?=some x) (hv:nW X.env.scope x) (hd:(x==("__debug__" : Str))=false:=by decide) (hcd:(x==("__classdict__" : Str))=false:=by decide):PE X (.Name x pos) (LJ i):=by
 intro pins s σ H Q I h;obtain⟨v,e,h⟩:=h;obtain⟨m,hn,hl⟩:=I.loc;obtain⟨u,r,l⟩:=hl i x v hN e hv;have fin:EP X pins σ Q u s:=⟨v,H,I,r,h⟩
 rcases l with⟨hk,hm⟩|⟨hk,c,hc,hcell⟩
 ·exact wpAny_Name (wpAny_loadName_local I.ok.kind hk hn hm fin) hd
 ·rcases hk with hk|hk
  ·exact wpAny_Name (wpAny_loadName_cell I.ok.kind hk hc hcell fin) hd
  ·exact wpAny_Name (wpAny_loadName_free I.ok.kind hk hc hcell fin hcd) hd
theorem LK {i j pos}:PE X (.Constant (.int i) j pos) (tC (.int i)):=λ_ _ _ H _ I h=>wpAny_Constant_int ⟨.int i,H,I.tok _,⟨_,rfl⟩,h⟩
theorem LL {b j pos}:PE X (.Constant (.bool b) j pos) (tC (.bl b)):=λ_ _ _ H _ I h=>Constant_bool ⟨.bl b,H,I,rfl,h⟩
theorem CD {j pos}:PE X (.Constant .none j pos) (tC .non):=λ_ _ _ H _ I h=>Constant_none ⟨.non,H,I,rfl,h⟩
theorem LM {x j pos}:PE X (.Constant (.str x) j pos) (tC (.str x)):=λ_ _ _ H _ I h=>Calls.Constant_str ⟨.str x,H,I.tok _,⟨_,rfl⟩,h⟩
def Gl (X:Cx) (x:Str):Prop:=X.env.kindOf x=some .globalImplicit
theorem pK {E:af->ag->Prop}{pins:List (ah×Obj)}{s:ag}{σ:St}{H:Hp}{x:Str}{u:af}{pos:Pos}{Q:af->ag->Prop}(I:Inv X pins σ H s) (hg:Gl X x) (hm:X.mg x=some u) (h:Q u s)
  (hd:(x==("__debug__" : Str))=false:=by decide):wpAny (model X.prog X.w) X.A (eval (.Name x pos) X.env) Q E s:=
 u7 I.ok.kind hg (Calls.loadGlobal_global (by rw[I.ok.glob];exact I.mod.glob.keeps I.bk) hm h) hd
theorem mO {E:af->ag->Prop}{pins:List (ah×Obj)}{s:ag}{σ:St}{H:Hp}{x:Str}{u:af}{pos:Pos}{Q:af->ag->Prop}(I:Inv X pins σ H s) (hg:Gl X x) (hm:X.mg x=none) (hv:cx x=some u) (h:Q u s)
  (hn:x ≠ "__name__" := by decide) (hd:(x==("__debug__" : Str))=false:=by decide):wpAny (model X.prog X.w) X.A (eval (.Name x pos) X.env) Q E s:=by
 obtain⟨mb,h1,h2⟩:=I.mod.blt;exact u7 I.ok.kind hg (Calls.loadGlobal_builtin (by rw[I.ok.glob];exact I.mod.glob.keeps I.bk) hm (by rw[I.ok.blt];exact h1.keeps I.bk) ((h2 x hn).trans hv) h) hd
theorem xA {x:Str}{v:V}{u:af}{pos:Pos}(hg:Gl X x) (hm:X.mg x=some u) (r:RelV v u) (hd:(x==("__debug__" : Str))=false:=by decide):PE X (.Name x pos) (tC v):=λ_ _ _ H _ I h=>pK I hg hm ⟨v,H,I,r,h⟩ hd
variable{a b:bj}{ta tb:TE}{pos:Pos}
def tB (t:TE):TT:=λσ H Q=>t σ H λx H1=>∃c,x=.bl c/\Q c H1
variable{tA tB':TT}{rest:List bj}
def CF (t u:TT):TT:=λσ H Q=>t σ H λc H1=>if c=true then Q true H1 else u σ H1 Q
def LN (t:TT):TT:=λσ H Q=>t σ H λc H1=>Q (!c) H1
theorem LO (ha:PT X a tA):PW X (.BoolOp .Or [a] pos) tA:=by
 intro wh pins s σ H Q I h;refine isTrue_or (aR (ha pins s σ H Q I h) λc s1 e=>?_)
 cases c with
 |false=>exact isTrue_or_nil e
 |true=>exact e
theorem LP (ha:PT X a tA) (hb:PW X (.BoolOp .Or (b::rest) pos) tB'):PW X (.BoolOp .Or (a::b::rest) pos) (CF tA tB'):=by
 intro wh pins s σ H Q I h;refine isTrue_or (aR (ha pins s σ H _ I h) λc s1 ⟨H1,I1,q1⟩=>?_)
 cases c with
 |true=>exact⟨H1,I1,q1⟩
 |false=>exact hb wh pins s1 σ H1 Q I1 q1
theorem LQ (ha:PT X a tA):PT X (.UnaryOp .Not a pos) (LN tA):=by intro pins s σ H Q I h;exact isTrue_not (ha pins s σ H (λc H1=>Q (!c) H1) I h)
def LR (ta tb:TE):TE:=λσ H Q=>ta σ H λx H1=>∃c,x=.bl c/\if c=true then tb σ H1 Q else Q (.bl false) H1
def LU (ta:TE):TE:=λσ H Q=>ta σ H λx H1=>∃c,x=.bl c/\Q (.bl (!c)) H1
theorem LV {op} {t:TE}(h:PE X a t):PE X (.BoolOp op [a] pos) t:=λpins s σ H Q I hw=>BoolOp_one (h pins s σ H Q I hw)
theorem LW (ha:PE X a ta) (hb:PE X (.BoolOp .And (b::rest) pos) tb):PE X (.BoolOp .And (a::b::rest) pos) (LR ta tb):=by
 intro pins s σ H Q I h;refine BoolOp_and (aR (ha pins s σ H _ I h) λv s1 ⟨x,H1,I1,r1,q1⟩=>?_);obtain⟨c,rfl,q1⟩:=q1;cases r1;refine kd ?_
 cases c with
 |true=>exact hb pins s1 σ H1 Q I1 q1
 |false=>exact⟨.bl false,H1,I1,rfl,q1⟩
theorem LX (ha:PE X a ta):PE X (.UnaryOp .Not a pos) (LU ta):=by intro pins s σ H Q I h;refine UnaryOp_ (aR (ha pins s σ H _ I h) λv s1 ⟨x,H1,I1,r1,q1⟩=>?_);obtain⟨c,rfl,q1⟩:=q1;cases r1;exact not_of (kd ⟨.bl (!c),H1,I1,rfl,q1⟩)
end
def SqL (K:ao) (H:Hp) (a:ah) (xs:List V):Prop:=
 Rd H a (.lst xs) ∨
  ∃(o:Obj) (its:Array af) (n:Nat),K.lookup a=some o/\o.cls=.type "list"/\o.dict=none/\o.data=.seq its n/\its.size<=bq/\Vals xs its.toList
def SqT (K:ao) (H:Hp) (a:ah) (xs:List V):Prop:=
 Rd H a (.tup xs) ∨
  ∃(o:Obj) (its:Array af) (n:Nat),K.lookup a=some o/\o.cls=.type "tuple"/\o.data=.seq its n/\its.size<=bq/\Vals xs its.toList
def LY:af->Option V
 | .none=>some .non
 | .bool b=>some (.bl b)
 | .int i _=>some (.int i)
 | .str x _=>some (.str x)
 | .bytes b _=>some (.byt b)
 | .float b _=>some (.flt b)
 | .ref a=>some (.ref a)
 | .type n=>some (.ty n)
 |_=>none
theorem RelV.abs {x:V}{u:af}(r:RelV x u):LY u=some x:=by
 cases x with
 |non=>cases r;rfl
 |bl _=>cases r;rfl
 |int _=>obtain⟨t,rfl⟩:=r;rfl
 |str _=>obtain⟨t,rfl⟩:=r;rfl
 |byt _=>obtain⟨t,rfl⟩:=r;rfl
 |flt _=>obtain⟨t,rfl⟩:=r;rfl
 |ref _=>cases r;rfl
 |ty _=>cases r;rfl
theorem RelV.inj {x y:V}{u:af}(r:RelV x u) (q:RelV y u):x=y:=cn (r.abs.symm.trans q.abs)
theorem Vals.inj:∀{xs ys:List V}{us:List af},Vals xs us->Vals ys us->xs=ys
 |_,_,_,.nil,.nil=>rfl
 |_,_,_,.cons r t,.cons r' t'=>by rw[r.inj r',Vals.inj t t']
section
variable{X:Cx}{pins:List (ah×Obj)}{σ:St}{H:Hp}{s:ag}{a:ah}{xs ys:List V}
theorem SqL.of {K:ao}(h:H a=some (.lst xs)):SqL K H a xs:=.inl (.inl h)
theorem SqT.of {K:ao}(h:H a=some (.tup xs)):SqT K H a xs:=.inl (.inl h)
theorem Inv.list (I:Inv X pins σ H s) (h:SqL X.K H a xs):∃its:List af,Vals xs its/\PlainL s.heap a its.toArray/\xs.length<=bq:=by
 rcases h with h|⟨o,its,n,hk,hc,hd,hs,hz,r⟩
 ·obtain⟨z,its,n,r,e⟩:=h.ok I.hok;exact⟨its,r,⟨_,n,e,rfl,rfl,rfl⟩,z⟩
 ·refine⟨its.toList,r,⟨o,n,I.kIn a o hk,hc,hd,by simpa using hs⟩, ?_⟩;have e:=r.length;simp only[kg]at e;omega
theorem Inv.tuple (I:Inv X pins σ H s) (h:SqT X.K H a xs):∃its:List af,Vals xs its/\IsTup s.heap a its.toArray/\xs.length<=bq:=by
 rcases h with h|⟨o,its,n,hk,hc,hs,hz,r⟩
 ·obtain⟨z,its,r,p⟩:=h.ok I.hok;exact⟨its,r,p.tup,z⟩
 ·refine⟨its.toList,r,⟨o,I.kIn a o hk,hc,n,by simpa using hs⟩, ?_⟩;have e:=r.length;simp only[kg]at e;omega
theorem Inv.list_inj (I:Inv X pins σ H s) (h:SqL X.K H a xs) (h':SqL X.K H a ys):xs=ys:=by
 obtain⟨its,r,⟨o,n,e,_,_,d⟩,_⟩:=I.list h;obtain⟨its',r',⟨o',n',e',_,_,d'⟩,_⟩:=I.list h';rw[e]at e';cases e';rw[d]at d';injection d' with d1 _;have:its=its':=by simpa using congrArg Array.toList d1
 subst this;exact r.inj r'
theorem Inv.tuple_inj (I:Inv X pins σ H s) (h:SqT X.K H a xs) (h':SqT X.K H a ys):xs=ys:=by
 obtain⟨its,r,⟨o,e,_,n,d⟩,_⟩:=I.tuple h;obtain⟨its',r',⟨o',e',_,n',d'⟩,_⟩:=I.tuple h';rw[e]at e';cases e';rw[d]at d';injection d' with d1 _;have:its=its':=by simpa using congrArg Array.toList d1
 subst this;exact r.inj r'
end
abbrev Cx.wish (X:Cx) (E:af->ag->Prop):Cx:={ X with xe:=E }
abbrev Cx.nox (X:Cx):Cx:=X.wish λ_ _=>False
theorem Cx.Ok.wish {X:Cx}(ok:X.Ok) (E:af->ag->Prop):(X.wish E).Ok:=⟨ok.mod,ok.kind,ok.glob,ok.blt,ok.above,ok.inj,ok.has,ok.cab,ok.hd,ok.frames,ok.stk,ok.exf,ok.bs,ok.bsz,ok.noex,ok.exfs,ok.funs,ok.frf⟩
theorem Cx.Ok.unwish {X:Cx}{E:af->ag->Prop}(ok:(X.wish E).Ok):X.Ok:=⟨ok.mod,ok.kind,ok.glob,ok.blt,ok.above,ok.inj,ok.has,ok.cab,ok.hd,ok.frames,ok.stk,ok.exf,ok.bs,ok.bsz,ok.noex,ok.exfs,ok.funs,ok.frf⟩
section
variable{X:Cx}{pins:List (ah×Obj)}{σ:St}{H:Hp}{s:ag}{E:af->ag->Prop}
theorem Inv.wish (I:Inv X pins σ H s) (E:af->ag->Prop):Inv (X.wish E) pins σ H s:=⟨I.ok.wish E,I.os,I.bare,I.base,I.loc,I.cell,I.free,I.freeC,I.pin,I.hok,I.len⟩
theorem Inv.unwish (I:Inv (X.wish E) pins σ H s):Inv X pins σ H s:=⟨I.ok.unwish,I.os,I.bare,I.base,I.loc,I.cell,I.free,I.freeC,I.pin,I.hok,I.len⟩
end
section
variable{X:Cx}{st:gy}{rest:List gy}{t u:TS}{e:bj}{te:TE}{pos:Pos}
def LZ:TS:=λD σ H=>D.nx σ H
def L0 (t u:TS):TS:=λD σ H=>t { D with nx:=u D } σ H
theorem L6:PSs X [] LZ:=λ_ _ σ H _ I h=>ku ⟨σ,H,I,h⟩
theorem L7 (h1:PS X st t) (h2:PSs X rest u):PSs X (st::rest) (L0 t u):=by
 intro pins s σ H D I h;refine nc (aR (h1 pins s σ H { D with nx:=u D } I h) λf s1 q=>?_)
 cases f with
 |next=>obtain⟨σ',H',I',q⟩:=q;exact h2 pins s1 σ' H' D I' q
 |ret v=>exact q
 |brk=>exact q
 |cont=>exact q
theorem CG (h1:PS X st t):PSs X [st] t:=by
 intro pins s σ H D I h;refine nc (aR (h1 pins s σ H D I h) λf s1 q=>?_)
 cases f with
 |next=>exact ku q
 |ret v=>exact q
 |brk=>exact q
 |cont=>exact q
theorem Inv.quiet {pins:List (ah×Obj)}{σ:St}{H:Hp}{s:ag}(I:Inv X pins σ H s):interactive X.env=false:=by simp[interactive,I.ok.kind]
def L8 (te:TE):TS:=λD σ H=>te σ H λ_ H1=>D.nx σ H1
theorem L9 (he:PE X e te) (hs:swapsWith e none pos.line X.env=pure false:=by rfl):PS X (.Expr e pos) (L8 te):=by intro pins s σ H D I h;exact wpAny_Expr_any (aR (he pins s σ H _ I h) λv s1 ⟨x,H1,I1,r1,q1⟩=>⟨σ,H1,I1,q1⟩) I.quiet hs
def MA (te:TE):TS:=λD σ H=>te σ H D.rt
theorem MB (he:PE X e te):PS X (.Return (some e) pos) (MA te):=by intro pins s σ H D I h;exact wpAny_Return_some (aR (he pins s σ H _ I h) λv s1 ⟨x,H1,I1,r1,q1⟩=>⟨x,σ,H1,I1,r1,q1⟩)
def MD (c:TT) (t u:TS):TS:=λD σ H=>c σ H λb H1=>if b=true then t D σ H1 else u D σ H1
theorem ME {c:bj}{a b:List gy}{tc:TT}(hc:PT X c tc) (ha:PSs X a t) (hb:PSs X b u):PS X (.If c a b pos) (MD tc t u):=by
 intro pins s σ H D I h;refine wpAny_If (aR (hc pins s σ H _ I h) λd s1 ⟨H1,I1,q1⟩=>?_)
 cases d with
 |true=>exact ha pins s1 σ H1 D I1 q1
 |false=>exact hb pins s1 σ H1 D I1 q1
end
abbrev TG:=V->St->Hp->(St->Hp->Prop)->Prop
abbrev kP:=List V->St->Hp->(St->Hp->Prop)->Prop
def PG (X:Cx) (target:bj) (t:TG):Prop:=
 ∀(pins:List (ah×Obj)) (s:ag) (σ:St) (H:Hp) (v:V) (u:af) (Q:St->Hp->Prop),Inv X pins σ H s->RelV v u->t v σ H Q->
  wpAny (model X.prog X.w) X.A (assign target X.env u) (λ_ s'=>∃σ' H',Inv X pins σ' H' s'/\Q σ' H') X.xe s
def PGs (X:Cx) (ts:List bj) (t:kP):Prop:=
 ∀(pins:List (ah×Obj)) (s:ag) (σ:St) (H:Hp) (vs:List V) (us:List af) (Q:St->Hp->Prop),Inv X pins σ H s->Vals vs us->t vs σ H Q->
  wpAny (model X.prog X.w) X.A (assignInOrder ((assignEach ts X.env).map (·.2)) us) (λ_ s'=>∃σ' H',Inv X pins σ' H' s'/\Q σ' H') X.xe s
abbrev xB:=V->V->V->Hp->(Hp->Prop)->Prop
def CH (X:Cx) (t:xB):Prop:=
 ∀(pins:List (ah×Obj)) (s:ag) (σ:St) (H:Hp) (o i v:V) (ov iv u:af) (Q:Hp->Prop),Inv X pins σ H s->RelV o ov->RelV i iv->RelV v u->t o i v H Q->
  wpAny (model X.prog X.w) X.A (setItem ov iv u) (λ_ s'=>∃H',Inv X pins σ H' s'/\Q H') X.xe s
section
variable{X:Cx}{pos:Pos}
def CI (i:Nat):TG:=λv σ H Q=>Q (σ.set i (some v)) H
theorem MF {i:Nat}{x:Str}(hN:X.N.Nodup) (hi:X.N[i]?=some x) (hx:jJ X.env.scope x) (hf:X.fn x=true∨X.env.scope.names.lookup x=some .local:=by first|exact .inl rfl|exact .inr rfl|assumption):PG X (.Name x pos) (CI i):=by intro pins s σ H v u Q I r h;exact wpAny_assign_Name (wY I hN hi hx r (λs' I'=>⟨_,H,I',h⟩) hf)
def MG:kP:=λvs σ H Q=>vs=[]/\Q σ H
def MH (t:TG) (u:kP):kP:=λvs σ H Q=>∃v r,vs=v::r/\t v σ H λσ' H'=>u r σ' H' Q
theorem MI:PGs X [] MG:=by intro pins s σ H vs us Q I r h;obtain⟨e,h⟩:=h;subst e;cases r;exact assignInOrder_nil ⟨σ,H,I,h⟩
theorem MJ {e:bj}{es:List bj}{t:TG}{u:kP}(h1:PG X e t) (h2:PGs X es u)
  (hs:(assignEach (e::es) X.env).map (·.2)=assign e X.env::(assignEach es X.env).map (·.2):=by rfl):PGs X (e::es) (MH t u):=by
 intro pins s σ H vs us Q I r h;obtain⟨v,vr,e1,h⟩:=h;subst e1
 cases r with
 |cons r rr=>rw[hs];refine assignInOrder_cons (aR (h1 pins s σ H _ _ _ I r h) λ_ s1 ⟨σ1,H1,I1,q1⟩=>?_);exact h2 pins s1 σ1 H1 _ _ Q I1 rr q1
def MK (K:ao) (n:Nat) (t:kP):TG:=λv σ H Q=>∃a xs,v=.ref a/\SqT K H a xs/\xs.length=n/\t xs σ H Q
theorem ML {es:List bj}{k:Nat}{t:kP}{n:Nat}(hc:X.calm=true) (h:PGs X es t)
  (hn:(assignEach es X.env).length=n:=by rfl) (hst:(assignEach es X.env).findIdx? (·.1)=none:=by rfl):PG X (.Tuple es k pos) (MK X.K n t):=by
 intro pins s σ H v u Q I r hw;obtain⟨a,xs,e1,hq,hl,hw⟩:=hw;subst e1;cases r;obtain⟨its,rv,ht,hz⟩:=I.tuple hq;refine assign_Tuple_tuple (I.ok.hd hc) ht (by simp[hn,<-hl,rv.length]) hst λh' hx=>?_;have I1:Inv X pins σ H { s with heap:=h' }:=I.kept (t':=s.toks) λb o e=>hx b o (bc (au e)) e;exact h pins _ σ H xs _ Q I1 (by simpa using rv) hw
def MM (to ti:TE) (t:xB):TG:=λv σ H Q=>to σ H λo H1=>ti σ H1 λi H2=>t o i v H2 λH3=>Q σ H3
theorem MN {o i:bj}{to ti:TE}{t:xB}(ho:PE X o to) (hi:PE X i ti) (hs:CH X t)
  (ha:∀v,assign (.Subscript o i pos) X.env v=(do
   let ov <-holding [v] (eval o X.env)
   let iv <-holding [v,ov] (eval i X.env)
   standAt pos
   holding [v,ov,iv] (setItem ov iv v)
   release [v,ov,iv] []):=by intro _;rfl):PG X (.Subscript o i pos) (MM to ti t):=by
 intro pins s σ H v u Q I r h;rw[ha];refine aa (gr (aR (ho pins s σ H _ I h) λov s1 ⟨x,H1,I1,r1,q1⟩=>?_));refine aa (gr (aR (hi pins s1 σ H1 _ I1 q1) λiv s2 ⟨y,H2,I2,r2,q2⟩=>?_));refine aa (sr (aa (gr (aR (hs pins s2 σ H2 x y v ov iv u _ I2 r1 r2 r q2) λ_ s3 ⟨H3,I3,q3⟩=>?_))));exact wpAny_release ⟨σ,H3,I3,q3⟩
def xC (te:TE) (g:TG):TS:=λD σ H=>te σ H λx H1=>g x σ H1 D.nx
theorem CJ {tg e:bj}{te:TE}{g:TG}(he:PE X e te) (hg:PG X tg g) (hs:swapsWithSole [tg] e pos.line X.env=pure false:=by rfl) (hw:swappedStores [tg] e X.env=pure none:=by rfl)
  (h1:(assignEach [tg] X.env).map (·.2)=[assign tg X.env]:=by rfl):PS X (.Assign [tg] e pos) (xC te g):=by
 intro pins s σ H D I h;refine wpAny_Assign_stores (aR (he pins s σ H _ I h) λv s1 ⟨x,H1,I1,r1,q1⟩=>?_) hs hw;rw[h1];exact aR (hg pins s1 σ H1 x v _ I1 r1 q1) λ_ s2 q=>q
theorem xD {i:Nat}{x:Str}{e:bj}{te:TE}{pos':Pos}(hN:X.N.Nodup) (hi:X.N[i]?=some x) (hx:jJ X.env.scope x) (he:PE X e te) (hs:swapsWith e (some (.Name x pos')) pos.line X.env=pure false:=by rfl) (hf:X.fn x=true∨X.env.scope.names.lookup x=some .local:=by first|exact .inl rfl|exact .inr rfl|assumption):
  PS X (.Assign [.Name x pos'] e pos) (xC te (CI i)):=by
 intro pins s σ H D I h;refine wpAny_Assign_Name (aR (he pins s σ H _ I h) λv s1 ⟨y,H1,I1,r1,q1⟩=>?_) hs;exact wY I1 hN hi hx r1 (λs2 I2=>⟨_,H1,I2,q1⟩) hf
end
section
variable{X:Cx}{pos:Pos}
def MP (c:TT) (tb:TS):TS:=λD σ H=>∃W:Nat->St->Hp->Prop,(∃m,W m σ H)/\∀m σ H,W m σ H->
 c σ H λb H1=>if b=true then ∃N:St->Hp->Prop,(∀σ' H',N σ' H'->∃m',m'<m/\W m' σ' H')/\tb { D with nx:=N,ct:=N,bk:=D.nx } σ H1 else D.nx σ H1
theorem MQ {c:bj}{body:List gy}{tc:TT}{tb:TS}(hp:vj (model X.prog X.w) X.A X.env X.xe) (hc:PT X c tc) (hb:PSs X body tb):PS X (.While c body [] pos) (MP tc tb):=by
 intro pins s σ H D I h;obtain⟨W,⟨m0,w0⟩,turn⟩:=h;refine wpAny_While (codeAny_whileLoop (λn s'=>∃σ' H',Inv X pins σ' H' s'/\W n σ' H') ?_ m0 ⟨σ,H,I,w0⟩)
 rintro n s1 ⟨σ1,H1,I1,w1⟩
 refine jy hp (aR (hc pins s1 σ1 H1 _ I1 (turn n σ1 H1 w1)) λb s2 ⟨H2,I2,q2⟩=>?_)
 cases b with
 |true=>
  obtain⟨N,hN,q2⟩:=q2;rw[if_pos rfl];refine jy hp (aR (hb pins s2 σ1 H2 _ I2 q2) λf s3 q3=>?_)
  cases f with
  |next=>obtain⟨σ3,H3,I3,n3⟩:=q3;obtain⟨m',hm,w3⟩:=hN σ3 H3 n3;exact⟨m',hm,σ3,H3,I3,w3⟩
  |cont=>obtain⟨σ3,H3,I3,n3⟩:=q3;obtain⟨m',hm,w3⟩:=hN σ3 H3 n3;exact⟨m',hm,σ3,H3,I3,w3⟩
  |brk=>exact q3
  |ret v=>exact q3
 |false=>rw[if_neg ib];exact ku ⟨σ1,H2,I2,q2⟩
end
structure It where
 go:Nat->Hp->Prop
 yld:Nat->Hp->V->Hp->Prop
 stop:Nat->Hp->Prop
def cI (X:Cx) (pins:List (ah×Obj)) (H:Hp) (b:ah):Prop:=H b=none/\b≠X.env.locals/\b∉X.fs/\(b∈X.ex∨X.s₀.heap.objs.size<=b)/\(∀x c,X.env.cells.lookup x=some c->c≠b)/\∀p∈X.pn++pins,p.1≠b
theorem Inv.fpOk {X:Cx}{pins:List (ah×Obj)}{σ:St}{H H':Hp}{s:ag}{b:ah}(I:Inv X pins σ H s) (hb:s.heap.objs.size<=b) (hn:H' b=none):cI X pins H' b:=by
 refine⟨hn,ji (av I.lt hb),I.nofs hb,.inr (dm I.sz hb),λx c e z=>?_,λp hp z=>?_⟩
 ·obtain⟨v,q⟩:=I.cell x c e;exact absurd (av q.lt (by rw[z];exact hb)) (fq _)
 ·exact absurd (av (au (I.pin p hp).1) (by rw[z];exact hb)) (fq _)
structure Turn (P:bf) (w:cg) (K:ao) (tg:bj) (J:It) (fp:List ah) (it:ah) (tn:Nat->ck->Prop):Prop where
 mem:it∈fp
 obj:∀i h,tn i h->∀b∈fp,∃o,h.get? b=some o/\∀v,o.data≠.cell v
 keep:∀i h h',tn i h->(∀b∈fp,∀o,h.get? b=some o->h'.get? b=some o)->tn i h'
 item:∀(X:Cx),X.prog=P->X.w=w->X.K=K->X.calm=true->∀(i:Nat) (pins:List (ah×Obj)) (s:ag) (σ:St) (H:Hp) (E:af->ag->Prop),Inv X pins σ H s->(∀b∈fp,cI X pins H b)->tn i s.heap->J.go i H->
  wpAny (model P w) X.A (pyNext (.ref it)) (λr s1=>∃u,r=some u /\
   wpAny (model P w) X.A (letOwnedTupleGo tg (.ref it) u) (λ_ s2=>∃x H',Inv X pins σ H' s2/\RelV x u/\J.yld i H x H'/\tn (i+1) s2.heap/\∀b∈fp,H' b=none) E s1) E s
 done:∀(X:Cx),X.prog=P->X.w=w->X.K=K->X.calm=true->∀(i:Nat) (pins:List (ah×Obj)) (s:ag) (σ:St) (H:Hp) (E:af->ag->Prop),Inv X pins σ H s->(∀b∈fp,cI X pins H b)->tn i s.heap->J.stop i H->
  wpAny (model P w) X.A (pyNext (.ref it)) (λr s1=>r=none/\Inv X pins σ H s1) E s
 self:∀(A:cf) (i:Nat) (s:ag) (Q:af->ag->Prop) (E:af->ag->Prop),tn i s.heap->Q (.ref it) s->wpAny (model P w) A (pyIter (.ref it)) Q E s
abbrev TI:=St->Hp->(It->Hp->Prop)->Prop
def CK (X:Cx) (pins:List (ah×Obj)) (σ:St) (tg:bj) (R:It->Hp->Prop) (itv:af) (s2:ag):Prop:=∃(it:ah) (fp:List ah) (tn:Nat->ck->Prop) (J:It) (H':Hp),itv=.ref it/\Inv X pins σ H' s2/\Turn X.prog X.w X.K tg J fp it tn/\tn 0 s2.heap/\(∀b∈fp,cI X pins H' b)/\R J H'
def PI (X:Cx) (tg iter:bj) (wi:TI):Prop:=
 ∀(pins:List (ah×Obj)) (s:ag) (σ:St) (H:Hp) (R:It->Hp->Prop),Inv X pins σ H s->wi σ H R->
  wpAny (model X.prog X.w) X.A (eval iter X.env) (λv s1=>wpAny (model X.prog X.w) X.A (pyIter v) (CK X pins σ tg R) X.xe s1) X.xe s
theorem sO {M:xh}{A:cf}{E:af->ag->Prop}{s:ag}{tg:bj}{it:ah}{u:af}{o:Obj}{n:String}{vs:Array af}{Q:Unit->ag->Prop}(ho:s.heap.get? it=some o) (hc:o.cls=.type n) (hd:o.data=.fields vs)
  (hn:["enumerate","zip","dict_itemiterator","dict_reverseitemiterator","odict_iterator","itertools.zip_longest","itertools.pairwise"].contains n=false) (hQ:Q () s):wpAny M A (letOwnedTupleGo tg (.ref it) u) Q E s:=by
 unfold letOwnedTupleGo
 cases tg <;> first
  |exact ai hQ
  |(cases u <;> first
    |exact ai hQ
    |(refine aa (wpAny_load ho ?_);rw[hc,hd];show wpAny M A (if(["enumerate","zip","dict_itemiterator","dict_reverseitemiterator","odict_iterator","itertools.zip_longest","itertools.pairwise"].contains n&&vs[0]?==some (rawInt _))=true then _ else _) Q E s;rw[if_neg (by intro h;rw[hn,Bool.false_and]at h;cases h)];exact ai hQ))
def CL (K:ao) (a:ah):It:=⟨λi H=>∃xs x,SqL K H a xs/\xs[i]?=some x,λi H x H'=>H'=H/\∀xs,SqL K H a xs->xs[i]?=some x,λi H=>∃xs,SqL K H a xs/\xs.length<=i⟩
def xE (K:ao) (a:ah):It:=⟨λi H=>∃xs x,SqT K H a xs/\xs[i]?=some x,λi H x H'=>H'=H/\∀xs,SqT K H a xs->xs[i]?=some x,λi H=>∃xs,SqT K H a xs/\xs.length<=i⟩
def pL (lo:Int) (n:Nat):It:=⟨λi _=>i<n,λi H x H'=>H'=H/\x=.int (lo+i),λi _=>n<=i⟩
theorem MR {P:bf}{w:cg}{K:ao}{tg:bj}(a it:ah):Turn P w K tg (CL K a) [it] it (λi h=>h.IsListIter it a i) where
 mem:=by simp
 obj:=λi h st b hb=>by
  have e:b=it:=by simpa using hb
  subst e;obtain⟨o,e,c,d⟩:=st;exact⟨o,e,λv z=>by rw[d]at z;cases z⟩
 keep:=λi h h' st k=>st.at λo e=>k it (by simp) o e
 item:=by intro X hP hw hK hc i pins s σ H E I hf st hg;subst hP hw hK;obtain⟨xs,x,hq,hx⟩:=hg;obtain⟨its,rv,p,hz⟩:=I.list hq;obtain⟨u,hu,ru⟩:=rv.get hx;obtain⟨f0,f1,f2,f3,f4,f5⟩:=hf it (by simp);refine wpAny_pyNext_list_item st p.isList (x:=u) (by simpa using hu) λh' st' sb=>?_;have I1:Inv X pins σ H { s with heap:=h' }:=I.turned (t':=s.toks) (λb o hb e=>(sb.2 b hb).trans e) f0 f1 f3 f4 f5;obtain⟨o,e,c,d⟩:=id st';exact⟨u,rfl,sO (s:={ s with heap:=h' }) e c d (by decide) ⟨x,H,I1,ru,⟨rfl,λys hy=>by rw[I.list_inj hy hq];exact hx⟩,st',λb hb=>(hf b hb).1⟩⟩
 done:=by intro X hP hw hK hc i pins s σ H E I hf st hg;subst hP hw hK;obtain⟨xs,hq,hx⟩:=hg;obtain⟨its,rv,p,hz⟩:=I.list hq;obtain⟨f0,f1,f2,f3,f4,f5⟩:=hf it (by simp);have hl:=rv.length;exact wpAny_pyNext_list_end (I.ok.hd hc) st p.isList (by simp;omega) λh' eb=>⟨rfl,I.turned (t':=s.toks) (λb o hb e=>eb b o hb e) f0 f1 f3 f4 f5⟩
 self:=λ_ _ _ _ _ st h=>wpAny_pyIter_listiter st h
theorem MT {P:bf}{w:cg}{K:ao}{tg:bj}(a it:ah):Turn P w K tg (xE K a) [it] it (λi h=>h.IsTupleIter it a i) where
 mem:=by simp
 obj:=λi h st b hb=>by
  have e:b=it:=by simpa using hb
  subst e;obtain⟨o,e,c,d⟩:=st;exact⟨o,e,λv z=>by rw[d]at z;cases z⟩
 keep:=λi h h' st k=>st.at λo e=>k it (by simp) o e
 item:=by intro X hP hw hK hc i pins s σ H E I hf st hg;subst hP hw hK;obtain⟨xs,x,hq,hx⟩:=hg;obtain⟨its,rv,p,hz⟩:=I.tuple hq;obtain⟨u,hu,ru⟩:=rv.get hx;obtain⟨f0,f1,f2,f3,f4,f5⟩:=hf it (by simp);refine wpAny_pyNext_tuple_item st (show s.heap.IsTuple a its.toArray from p) (x:=u) (by simpa using hu) λh' st' sb=>?_;have I1:Inv X pins σ H { s with heap:=h' }:=I.turned (t':=s.toks) (λb o hb e=>(sb.2 b hb).trans e) f0 f1 f3 f4 f5;obtain⟨o,e,c,d⟩:=id st';exact⟨u,rfl,sO (s:={ s with heap:=h' }) e c d (by decide) ⟨x,H,I1,ru,⟨rfl,λys hy=>by rw[I.tuple_inj hy hq];exact hx⟩,st',λb hb=>(hf b hb).1⟩⟩
 done:=by intro X hP hw hK hc i pins s σ H E I hf st hg;subst hP hw hK;obtain⟨xs,hq,hx⟩:=hg;obtain⟨its,rv,p,hz⟩:=I.tuple hq;obtain⟨f0,f1,f2,f3,f4,f5⟩:=hf it (by simp);have hl:=rv.length;exact wpAny_pyNext_tuple_end (I.ok.hd hc) st (show s.heap.IsTuple a its.toArray from p) (by simp;omega) λh' eb=>⟨rfl,I.turned (t':=s.toks) (λb o hb e=>eb b o hb e) f0 f1 f3 f4 f5⟩
 self:=λ_ _ _ _ _ st h=>wpAny_pyIter_tupleiter st h
theorem MU {P:bf}{w:cg}{K:ao}{tg:bj}(it:ah) (lo:Int) (n:Nat):Turn P w K tg (pL lo n) [it] it (λi h=>xi h it (lo+(i:Nat)*1) ((n:Int) - (i:Nat)) 1) where
 mem:=by simp
 obj:=λi h st b hb=>by
  have e:b=it:=by simpa using hb
  subst e;exact⟨_,st,λv z=>by
   have z':yx _=Data.cell v:=z
   cases z'⟩
 keep:=λi h h' st k=>k it (by simp) _ st
 item:=by intro X hP hw hK hc i pins s σ H E I hf st hg;subst hP hw hK;obtain⟨f0,f1,f2,f3,f4,f5⟩:=hf it (by simp);have W:=Walks.range (prog:=X.prog) (w:=X.w) (I.ok.hd hc) it lo 1 n;refine W.item i s _ _ hg st λv h' tk hv st' kk=>?_;obtain⟨t,rfl⟩:=hv;have I1:Inv X pins σ H { s with heap:=h',toks:=tk }:=I.turned (λb o hb e=>kk b o (by simpa using hb) e) f0 f1 f3 f4 f5;refine⟨_,rfl,sO (s:={ s with heap:=h',toks:=tk }) (n := "range_iterator") st' rfl rfl (by decide) ⟨.int (lo+i),H,I1,⟨t, ?_⟩,⟨rfl,rfl⟩,st',λb hb=>(hf b hb).1⟩⟩;rw[Int.mul_one]
 done:=by intro X hP hw hK hc i pins s σ H E I hf st hg;subst hP hw hK;obtain⟨f0,f1,f2,f3,f4,f5⟩:=hf it (by simp);exact wpAny_pyNext_range_end (I.ok.hd hc) st (by have:n<=i:=hg;omega) λh' eb=>⟨rfl,I.turned (t':=s.toks) (λb o hb e=>eb b o hb e) f0 f1 f3 f4 f5⟩
 self:=λ_ _ _ _ _ st h=>wpAny_pyIter_rangeiter st h
section
variable{X:Cx}{tg:bj}
def MV (K:ao) (tl:TE):TI:=λσ H R=>tl σ H λx H1=>∃a,x=.ref a/\(∃xs,SqL K H1 a xs)/\R (CL K a) H1
def MW (K:ao) (tl:TE):TI:=λσ H R=>tl σ H λx H1=>∃a,x=.ref a/\(∃xs,SqT K H1 a xs)/\R (xE K a) H1
theorem MX {l:bj}{tl:TE}(hl:PE X l tl):PI X tg l (MV X.K tl):=by
 intro pins s σ H R I h;refine aR (hl pins s σ H _ I h) λv s1 ⟨x,H1,I1,r1,q1⟩=>?_;obtain⟨a,e,⟨xs,hq⟩,q⟩:=q1;subst e;cases r1;obtain⟨its,rv,p,hz⟩:=I1.list hq;refine pj p.isList ?_;refine⟨s1.heap.objs.size,[s1.heap.objs.size],_,_,H1,rfl,I1.kept (t':=s1.toks) λb o e=>aj _ e,MR a _,⟨_,ay _ rfl,rfl,rfl⟩,λb hb=>?_,q⟩;have e:b=s1.heap.objs.size:=by simpa using hb
 subst e;exact I1.fpOk (ak _) (I1.hok.fresh (ak _))
theorem MY {l:bj}{tl:TE}(hl:PE X l tl):PI X tg l (MW X.K tl):=by
 intro pins s σ H R I h;refine aR (hl pins s σ H _ I h) λv s1 ⟨x,H1,I1,r1,q1⟩=>?_;obtain⟨a,e,⟨xs,hq⟩,q⟩:=q1;subst e;cases r1;obtain⟨its,rv,p,hz⟩:=I1.tuple hq;refine p0 (show s1.heap.IsTuple a its.toArray from p) ?_;refine⟨s1.heap.objs.size,[s1.heap.objs.size],_,_,H1,rfl,I1.kept (t':=s1.toks) λb o e=>aj _ e,MT a _,⟨_,ay _ rfl,rfl,rfl⟩,λb hb=>?_,q⟩;have e:b=s1.heap.objs.size:=by simpa using hb
 subst e;exact I1.fpOk (ak _) (I1.hok.fresh (ak _))
theorem CM {pins:List (ah×Obj)}{σ:St}{H:Hp}{s:ag}{R:It->Hp->Prop}{E:af->ag->Prop}{lo hi:Int}{t u v:Tok}{tk:Nat}(I:Inv X pins σ H s) (h1 : -(2 ^ 62)<=lo) (h2:lo<2 ^ 62) (h3 : -(2 ^ 62)<=hi) (h4:hi<2 ^ 62)
  (q:R (pL lo (hi - lo).toNat) H):wpAny (model X.prog X.w) X.A (pyIter (.ref s.heap.objs.size)) (CK X pins σ tg R) E { s with heap:=s.heap.push { cls:=.type "range",data:=.fields #[.int lo t,.int hi u,.int 1 v] },toks:=tk }:=by
 refine wpAny_pyIter_range (IsRange.new ..) (small_one h1 h2 h3 h4) ?_;have I1:Inv X pins σ H { s with heap:=s.heap.push { cls:=.type "range",data:=.fields #[.int lo t,.int hi u,.int 1 v] },toks:=tk }:=I.kept λb o e=>aj _ e;refine⟨(s.heap.push { cls:=.type "range",data:=.fields #[.int lo t,.int hi u,.int 1 v] }).objs.size,[(s.heap.push { cls:=.type "range",data:=.fields #[.int lo t,.int hi u,.int 1 v] }).objs.size],_,_,H,rfl,
  I1.kept (t':=tk) λb o e=>aj _ e,MU _ lo (hi - lo).toNat, ?_,λb hb=>?_,q⟩
 ·have e1:lo+((0:Nat):Int)*1=lo:=by simp
  have e2:(((hi - lo).toNat:Nat):Int) - ((0:Nat):Int)=cu lo hi 1:=by rw[rangeSize_one];split <;> omega
  show xi _ _ (lo+((0:Nat):Int)*1) ((((hi - lo).toNat:Nat):Int) - ((0:Nat):Int)) 1;rw[e1,e2];exact ay _ rfl
 ·have e:b=(s.heap.push { cls:=.type "range",data:=.fields #[.int lo t,.int hi u,.int 1 v] }).objs.size:=by simpa using hb
  subst e;exact I1.fpOk (ak _) (I1.hok.fresh (ak _))
def MZ (ta:TA):TI:=λσ H R=>ta σ H λvs H1=>∃j:Int,vs=[.int j]/\-(2 ^ 62)<=j/\j<2 ^ 62/\R (pL 0 j.toNat) H1
def M4 (ta:TA):TI:=λσ H R=>ta σ H λvs H1=>∃i j:Int,vs=[.int i,.int j]/\(-(2 ^ 62)<=i/\i<2 ^ 62/\-(2 ^ 62)<=j/\j<2 ^ 62)/\R (pL i (j - i).toNat) H1
theorem M5 {a:bj}{ta:TA}{p pos:Pos}(hg:Gl X "range") (hm:X.mg "range" = none) (ha:PA X [a] ta) (hs:aq [a] X.env=[(false,eval a X.env)]:=by rfl):PI X tg (.Call (.Name "range" p) [a] [] pos) (MZ ta):=by
 intro pins s σ H R I h;refine Call_ (mO I hg hm yj (ik (aR (ha pos pins s σ H _ I h) λus s1 ⟨vs,H1,I1,r1,q1⟩=>?_) hs rfl));obtain⟨j,e,q1,q2,q⟩:=q1;subst e
 cases r1 with
 |cons r rr=>cases rr;obtain⟨t,rfl⟩:=r;exact call_range_1 (CM I1 (by omega) (by omega) q1 q2 (by simpa using q))
theorem M6 {a b:bj}{ta:TA}{p pos:Pos}(hg:Gl X "range") (hm:X.mg "range" = none) (ha:PA X [a,b] ta) (hs:aq [a,b] X.env=[(false,eval a X.env),(false,eval b X.env)]:=by rfl) (hs2:aq [b] X.env=[(false,eval b X.env)]:=by rfl):
  PI X tg (.Call (.Name "range" p) [a,b] [] pos) (M4 ta):=by
 intro pins s σ H R I h;refine Call_ (mO I hg hm yj (ik (aR (ha pos pins s σ H _ I h) λus s1 ⟨vs,H1,I1,r1,q1⟩=>?_) (by rw[hs,hs2]) (by rw[hs2];rfl)));obtain⟨i,j,e,⟨q1,q2,q3,q4⟩,q⟩:=q1;subst e
 cases r1 with
 |cons r rr=>
  cases rr with
  |cons r' rr=>cases rr;obtain⟨t,rfl⟩:=r;obtain⟨t',rfl⟩:=r';exact call_range_2 (CM I1 q1 q2 q3 q4 q)
def M7 (wi:TI) (g:TG) (tb:TS):TS:=λD σ H=>wi σ H λJ H1=>∃W:Nat->Nat->St->Hp->Prop,(∃m,W 0 m σ H1)/\∀i m σ H,W i m σ H->
 (J.stop i H/\D.nx σ H)∨(J.go i H/\∃N:St->Hp->Prop,(∀σ' H',N σ' H'->∃m',m'<m/\W (i+1) m' σ' H')/\∀x H',J.yld i H x H'->g x σ H' λσ2 H2=>tb { D with nx:=N,ct:=N,bk:=D.nx } σ2 H2)
def iE (fp:List ah) (h:ck):List (ah×Obj):=fp.filterMap λb=>(h.get? b).map λo=>(b,o)
theorem nX {fp:List ah}{h:ck}{b:ah}{o:Obj}(hb:b∈fp) (e:h.get? b=some o):(b,o)∈iE fp h:=jc.mpr ⟨b,hb,by rw[e];rfl⟩
theorem xF {fp:List ah}{h:ck}{p:ah×Obj}(hp:p∈iE fp h):p.1∈fp/\h.get? p.1=some p.2:=by
 obtain⟨b,hb,e⟩:=jc.mp hp
 cases q:h.get? b with
 |none=>rw[q]at e;cases e
 |some o=>rw[q]at e;have e':(b,o)=p:=cn e;subst e';exact⟨hb,q⟩
theorem Inv.pinned {pins:List (ah×Obj)}{σ:St}{H:Hp}{s:ag}{fp:List ah}(I:Inv X pins σ H s) (hf:∀b∈fp,cI X pins H b) (ho:∀b∈fp,∃o,s.heap.get? b=some o/\∀v,o.data≠.cell v):Inv X (pins++iE fp s.heap) σ H s:=I.pins_of λp hp=>(dy.mp hp).elim (λz=>I.pin p (cb _ z)) λz=>by obtain⟨hb,e⟩:=xF z;obtain⟨f0,f1,f2,_⟩:=hf p.1 hb;obtain⟨o,e',d⟩:=ho p.1 hb;rw[e]at e';cases e';exact⟨e,f0,f1,f2,d⟩
theorem Inv.unpinned {pins pl:List (ah×Obj)}{σ:St}{H:Hp}{s:ag}(I:Inv X (pins++pl) σ H s):Inv X pins σ H s:=I.pins_of λp hp=>I.pin p (cb _ (jh _ hp))
theorem M8 {iter:bj}{body:List gy}{wi:TI}{g:TG}{tb:TS}{pos:Pos}(hp:vj (model X.prog X.w) X.A X.env X.xe) (hc:X.calm=true) (hi:PI X tg iter wi) (hg:PG X tg g) (hb:PSs X body tb)
  (hs:∀x,foldedSetIterable iter X.env x=pure x:=by intro _;rfl):PS X (.For tg iter body [] pos) (M7 wi g tb):=by
 intro pins s σ H D I h;refine wpAny_For (aR (hi pins s σ H _ I h) λv s1 h1=>aR h1 λitv s2 h2=>?_) hs;obtain⟨it,fp,tn,J,H2,e,I2,T,st2,f2,W,⟨m0,w0⟩,turn⟩:=h2;subst e;have stat:∀{H':Hp},(∀b∈fp,H' b=none)->∀b∈fp,cI X pins H' b:=λhn b hb=>⟨hn b hb,(f2 b hb).2⟩
 refine codeAny_forLoop_any (λn s'=>∃i σ' H',Inv X pins σ' H' s'/\tn i s'.heap/\(∀b∈fp,H' b=none)/\W i n σ' H') ?_ m0 ⟨0,σ,H2,I2,st2,λb hb=>(f2 b hb).1,w0⟩
 rintro n s3 ⟨i,σ3,H3,I3,st3,fr3,w3⟩
 rcases turn i n σ3 H3 w3 with⟨stop,qn⟩|⟨go,N,hN,step⟩
 ·refine jy hp (aR (T.done X rfl rfl rfl hc i pins s3 σ3 H3 X.xe I3 (stat fr3) st3 stop) λr s4 ⟨hr,I4⟩=>?_);subst hr;exact ku ⟨σ3,H3,I4,qn⟩
 ·refine jy hp (aR (T.item X rfl rfl rfl hc i pins s3 σ3 H3 X.xe I3 (stat fr3) st3 go) λr s4 ⟨u,hr,h4⟩=>?_);subst hr;refine jy hp (aR h4 λ_ s5 ⟨x,H5,I5,r5,y5,st5,fr5⟩=>?_);have I5':=I5.pinned (stat fr5) (T.obj _ _ st5);refine jy hp (aR (hg _ s5 σ3 H5 x u _ I5' r5 (step x H5 y5)) λ_ s6 ⟨σ6,H6,I6,q6⟩=>?_);refine jy hp (aR (hb _ s6 σ6 H6 _ I6 q6) λf s7 q7=>?_);have again:∀{σ7:St}{H7:Hp},Inv X (pins++iE fp s5.heap) σ7 H7 s7->N σ7 H7->∃m,m<n/\∃i σ' H',Inv X pins σ' H' s7/\tn i s7.heap/\(∀b∈fp,H' b=none)/\W i m σ' H':=λ{σ7 H7} I7 n7=>by obtain⟨m',hm,w7⟩:=hN σ7 H7 n7;refine⟨m',hm,i+1,σ7,H7,I7.unpinned,T.keep _ _ _ st5 λb hb o e=>(I7.pin (b,o) (cb _ (cb _ (nX hb e)))).1,λb hb=>?_,w7⟩;obtain⟨o,e,d⟩:=T.obj _ _ st5 b hb;exact(I7.pin (b,o) (cb _ (cb _ (nX hb e)))).2.1
  cases f with
  |next=>obtain⟨σ7,H7,I7,n7⟩:=q7;exact again I7 n7
  |cont=>obtain⟨σ7,H7,I7,n7⟩:=q7;exact again I7 n7
  |brk=>obtain⟨σ7,H7,I7,q7⟩:=q7;exact⟨σ7,H7,I7.unpinned,q7⟩
  |ret v=>obtain⟨x7,σ7,H7,I7,r7,q7⟩:=q7;exact⟨x7,σ7,H7,I7.unpinned,r7,q7⟩
end
abbrev R2:=V->V->Hp->VK->Prop
def OpR (X:Cx) (f:af->af->Sem af) (r:R2):Prop:=
 ∀(pins:List (ah×Obj)) (s:ag) (σ:St) (H:Hp) (x y:V) (v u:af) (Q:VK),Inv X pins σ H s->RelV x v->RelV y u->r x y H Q->
  wpAny (model X.prog X.w) X.A (f v u) (EP X pins σ Q) X.xe s
def sP (X:Cx) (f:af->Sem af) (r:V->Hp->VK->Prop):Prop:=
 ∀(pins:List (ah×Obj)) (s:ag) (σ:St) (H:Hp) (x:V) (v:af) (Q:VK),Inv X pins σ H s->RelV x v->r x H Q->
  wpAny (model X.prog X.w) X.A (f v) (EP X pins σ Q) X.xe s
def CallR (X:Cx) (f:af) (r:List V->Hp->VK->Prop):Prop:=
 ∀(pins:List (ah×Obj)) (s:ag) (σ:St) (H:Hp) (xs:List V) (us:List af) (Q:VK),Inv X pins σ H s->Vals xs us->r xs H Q->
  wpAny (model X.prog X.w) X.A (call f us) (EP X pins σ Q) X.xe s
def M9 (X:Cx) (r:V->Hp->(Bool->Hp->Prop)->Prop):Prop:=
 ∀(pins:List (ah×Obj)) (s:ag) (σ:St) (H:Hp) (x:V) (v:af) (Q:Bool->Hp->Prop),Inv X pins σ H s->RelV x v->r x H Q->
  wpAny (model X.prog X.w) X.A (truthy v) (TP X pins σ Q) X.xe s
def pM (r:R2) (ta tb:TE):TE:=λσ H Q=>ta σ H λx H1=>tb σ H1 λy H2=>r x y H2 Q
def NA (r:V->Hp->VK->Prop) (ta:TE):TE:=λσ H Q=>ta σ H λx H1=>r x H1 Q
def rI (C:Int->Int->Prop) (g:Int->Int->V):R2:=λx y H Q=>∃i j,x=.int i/\y=.int j/\C i j/\Q (g i j) H
def iF (g:Int->Int->V):R2:=λx y H Q=>∃i j,x=.int i/\y=.int j/\Q (g i j) H
def rU (g:Int->V):V->Hp->VK->Prop:=λx H Q=>∃i,x=.int i/\Q (g i) H
section
variable{X:Cx}{a b c:bj}{ta tb tc:TE}{pos:Pos}
theorem xG (ha:PE X a ta) (hb:PE X b tb) {pins:List (ah×Obj)}{s:ag}{σ:St}{H:Hp}{R:V->V->Hp->Prop}(I:Inv X pins σ H s)
  (h:ta σ H λx H1=>tb σ H1 λy H2=>R x y H2) {Q:af->ag->Prop}{f:af->af->Sem af}
  (hf:∀v u s2 x y H2,Inv X pins σ H2 s2->RelV x v->RelV y u->R x y H2->wpAny (model X.prog X.w) X.A (f v u) Q X.xe s2):
  wpAny (model X.prog X.w) X.A (eval a X.env) (λv s₁=>wpAny (model X.prog X.w) X.A (eval b X.env) (λu s₂=>wpAny (model X.prog X.w) X.A (f v u) Q X.xe s₂) X.xe s₁) X.xe s:=by
 refine aR (ha pins s σ H _ I h) λv s1 ⟨x,H1,I1,r1,q1⟩=>?_;refine aR (hb pins s1 σ H1 _ I1 q1) λu s2 ⟨y,H2,I2,r2,q2⟩=>?_;exact hf v u s2 x y H2 I2 r1 r2 q2
theorem NB {op:Operator}{r:R2}(ho:OpR X (binaryOp op) r) (ha:PE X a ta) (hb:PE X b tb):PE X (.BinOp a op b pos) (pM r ta tb):=by intro pins s σ H Q I h;exact wpAny_BinOp (xG ha hb I h λv u s2 x y H2 I2 rx ry q=>ho pins s2 σ H2 x y v u Q I2 rx ry q)
theorem NC {op:UnaryOp}{r:V->Hp->VK->Prop}(ho:sP X (unaryOp op) r) (ha:PE X a ta):PE X (.UnaryOp op a pos) (NA r ta):=by intro pins s σ H Q I h;exact UnaryOp_ (aR (ha pins s σ H _ I h) λv s1 ⟨x,H1,I1,r1,q1⟩=>ho pins s1 σ H1 x v Q I1 r1 q1)
theorem sQ {f:af->af->Sem af}{C:Int->Int->Prop}{g:Int->Int->Int}
  (rule:∀(i j:Int) (t u:Tok) (s:ag) (Q:af->ag->Prop) (E:af->ag->Prop),C i j->Q (.int (g i j) s.toks) { s with toks:=s.toks+1 }->wpAny (model X.prog X.w) X.A (f (.int i t) (.int j u)) Q E s):
  OpR X f (rI C λi j=>.int (g i j)):=by
 intro pins s σ H x y v u Q I rx ry h;obtain⟨i,j,rfl,rfl,hc,q⟩:=h;obtain⟨t,rfl⟩:=rx;obtain⟨t',rfl⟩:=ry;exact rule i j t t' s _ _ hc ⟨.int (g i j),H,I.tok _,⟨_,rfl⟩,q⟩
theorem CN {f:af->af->Sem af}{g:Int->Int->Int}
  (rule:∀(i j:Int) (t u:Tok) (s:ag) (Q:af->ag->Prop) (E:af->ag->Prop),Q (.int (g i j) s.toks) { s with toks:=s.toks+1 }->wpAny (model X.prog X.w) X.A (f (.int i t) (.int j u)) Q E s):
  OpR X f (iF λi j=>.int (g i j)):=by
 intro pins s σ H x y v u Q I rx ry h;obtain⟨i,j,rfl,rfl,q⟩:=h;obtain⟨t,rfl⟩:=rx;obtain⟨t',rfl⟩:=ry;exact rule i j t t' s _ _ ⟨.int (g i j),H,I.tok _,⟨_,rfl⟩,q⟩
theorem sR {f:af->af->Sem af}{g:Int->Int->Bool}
  (rule:∀(i j:Int) (t u:Tok) (s:ag) (Q:af->ag->Prop) (E:af->ag->Prop),Q (.bool (g i j)) s->wpAny (model X.prog X.w) X.A (f (.int i t) (.int j u)) Q E s):
  OpR X f (iF λi j=>.bl (g i j)):=by
 intro pins s σ H x y v u Q I rx ry h;obtain⟨i,j,rfl,rfl,q⟩:=h;obtain⟨t,rfl⟩:=rx;obtain⟨t',rfl⟩:=ry;exact rule i j t t' s _ _ ⟨.bl (g i j),H,I,rfl,q⟩
def xH (i j:Int):Prop:=0<=j/\j<=1000000/\i.natAbs<2 ^ 64
def CMul (i j:Int):Prop:=(-(2 ^ 64)<i/\i<2 ^ 64)∨(-(2 ^ 64)<j/\j<2 ^ 64)
theorem CMul.ok {i j:Int}(h:CMul i j):IntMulOk i j:=by
 rcases h with⟨h1,h2⟩|⟨h1,h2⟩
 ·exact .of_left (intBits_le_64 h1 h2)
 ·exact .of_right (intBits_le_64 h1 h2)
theorem op_add:OpR X (binaryOp .Add) (iF λi j=>.int (i+j)):=CN λ_ _ _ _ _ _ _ q=>add_int q
theorem ND:OpR X (binaryOp .Sub) (iF λi j=>.int (i - j)):=CN λ_ _ _ _ _ _ _ q=>sub_int q
theorem NF:OpR X (binaryOp .Mult) (rI CMul λi j=>.int (i*j)):=sQ λ_ _ _ _ _ _ _ hc q=>mul_int q hc.ok
theorem NG:OpR X (binaryOp .Mod) (rI (λ_ j=>0<j) λi j=>.int (i % j)):=sQ λi j _ _ _ _ _ hc q=>by have h1:(0:Int)<j:=hc;exact mod_int' (by omega) (by rw[Int.fmod_eq_emod_of_nonneg i (by omega)];exact q)
theorem NH:OpR X (binaryOp .Pow) (rI xH λi j=>.int (i ^ j.toNat)):=sQ λ_ _ _ _ _ _ _ hc q=>pow_int_small hc.1 hc.2.1 hc.2.2 q
theorem NI {f:af->Sem af}{g:Int->Int}
  (rule:∀(i:Int) (t:Tok) (s:ag) (Q:af->ag->Prop) (E:af->ag->Prop),Q (.int (g i) s.toks) { s with toks:=s.toks+1 }->wpAny (model X.prog X.w) X.A (f (.int i t)) Q E s):
  sP X f (rU λi=>.int (g i)):=by
 intro pins s σ H x v Q I rx h;obtain⟨i,rfl,q⟩:=h;obtain⟨t,rfl⟩:=rx;exact rule i t s _ _ ⟨.int (g i),H,I.tok _,⟨_,rfl⟩,q⟩
theorem NJ:sP X (unaryOp .USub) (rU λi=>.int (-i)):=NI λ_ _ _ _ _ q=>neg_int q
end
section
variable{X:Cx}{a b c:bj}{ta tb tc:TE}{pos:Pos}
theorem CO:OpR X (compareOp .Lt) (iF λi j=>.bl (decide (i<j))):=sR λ_ _ _ _ _ _ _ q=>lt_int q
theorem CP:OpR X (compareOp .LtE) (iF λi j=>.bl (decide (i<=j))):=sR λ_ _ _ _ _ _ _ q=>le_int q
theorem NK:OpR X (compareOp .Gt) (iF λi j=>.bl (decide (j<i))):=sR λ_ _ _ _ _ _ _ q=>gt_int q
theorem NL:OpR X (compareOp .GtE) (iF λi j=>.bl (decide (j<=i))):=sR λ_ _ _ _ _ _ _ q=>ge_int q
theorem OpR.or {f:af->af->Sem af}{r r':R2}(h:OpR X f r) (h':OpR X f r'):OpR X f (λx y H Q=>r x y H Q∨r' x y H Q):=by
 intro pins s σ H x y v u Q I rx ry q
 rcases q with q|q
 ·exact h pins s σ H x y v u Q I rx ry q
 ·exact h' pins s σ H x y v u Q I rx ry q
theorem mP (b:bj) {op:CmpOp}(h:op≠.In:=by decide) (h2:op≠.NotIn:=by decide):behindInMarks op b=false:=by
 have e1:(op==CmpOp.In)=false:=by cases op <;> first|rfl|exact absurd rfl h
 have e2:(op==CmpOp.NotIn)=false:=by cases op <;> first|rfl|exact absurd rfl h2
 cases b <;> simp[behindInMarks,e1,e2]
theorem NM {op:CmpOp}{r:R2}(ho:OpR X (compareOp op) r) (ha:PE X a ta) (hb:PE X b tb) (hm:behindInMarks op b=false):PE X (.Compare a [op] [b] pos) (pM r ta tb):=by intro pins s σ H Q I h;exact wpAny_Compare1 (xG ha hb I h λv u s2 x y H2 I2 rx ry q=>ho pins s2 σ H2 x y v u Q I2 rx ry q) hm
def NN (t:TE):TT:=λσ H Q=>t σ H λx H'=>∃k,x=.bl k/\Q k H'
theorem NO {op:CmpOp}{r:R2}(ho:OpR X (compareOp op) r) (ha:PE X a ta) (hb:PE X b tb) (hm:behindInMarks op b=false):PT X (.Compare a [op] [b] pos) (NN (pM r ta tb)):=by intro pins s σ H Q I h;refine wpAny_isTrue_Compare1 (aR (ha pins s σ H _ I h) λv s1 ⟨x,H1,I1,r1,q1⟩=>aR (hb pins s1 σ H1 _ I1 q1) λu s2 ⟨y,H2,I2,r2,q2⟩=>aR (ho pins s2 σ H2 x y v u _ I2 r1 r2 q2) λc s3 ⟨z,H3,I3,r3,k,e,q3⟩=>?_) hm;subst e;cases r3;exact kd ⟨H3,I3,q3⟩
def CQ (r r':R2) (ta tb tc:TE):TE:=λσ H Q=>ta σ H λx H1=>tb σ H1 λy H2=>r x y H2 λz H3=>∃k,z=.bl k /\
 (if k=true then tc σ H3 λw' H4=>r' y w' H4 Q else Q (.bl false) H3)
theorem NP {op op':CmpOp}{r r':R2}(ho:OpR X (compareOp op) r) (ho':OpR X (compareOp op') r') (ha:PE X a ta) (hb:PE X b tb) (hc:PE X c tc)
  (hm:lastMarks [op,op'] [b,c]=false:=by with_unfolding_all rfl):PE X (.Compare a [op,op'] [b,c] pos) (CQ r r' ta tb tc):=by
 intro pins s σ H Q I h;refine Compare_chain (aR (ha pins s σ H _ I h) λv s1 ⟨x,H1,I1,r1,q1⟩=>chain_link (aR (hb pins s1 σ H1 _ I1 q1) λu s2 ⟨y,H2,I2,r2,q2⟩=>aR (ho pins s2 σ H2 x y v u _ I2 r1 r2 q2) λd s3 ⟨z,H3,I3,r3,k,e,q3⟩=>?_)) hm;subst e;cases r3;refine kd ?_
 cases k with
 |false=>exact ite_ff ⟨.bl false,H3,I3,rfl,q3⟩
 |true=>exact ite_tt (chain_last (aR (hc pins s3 σ H3 _ I3 q3) λw' s4 ⟨z',H4,I4,r4,q4⟩=>ho' pins s4 σ H4 y z' u w' Q I4 r2 r4 q4))
def CS (K:ao) (x:V) (H:Hp) (k:Bool):Prop:=
 match x with
 | .non=>k=false
 | .bl b=>k=b
 | .int i=>k=(i != 0)
 | .str y=>y.length<=bq/\k=((y.length:Int) != 0)
 | .byt y=>y.size<=bq/\k=((y.size:Int) != 0)
 | .ref p=>(∃xs,SqL K H p xs/\k=!xs.isEmpty)∨(∃xs,SqT K H p xs/\k=!xs.isEmpty)∨∃kvs,H p=some (.dK kvs)/\k=!kvs.isEmpty
 |_=>False
theorem NQ {κ:Type}{kvs:List (κ×V)}{vs:List (κ×af)}(r:KV kvs vs):(!vs.isEmpty)=!kvs.isEmpty:=by cases r <;> rfl
theorem CT {xs:List V}{its:List af}(r:Vals xs its):(!its.toArray.isEmpty)=!xs.isEmpty:=by cases r <;> simp
theorem mQ:(bq:Nat)<2 ^ 63:=by rw[jd];decide
theorem NR:M9 X (λx H Q=>∃k,CS X.K x H k/\Q k H):=by
 intro pins s σ H x v Q I rx h;obtain⟨k,e,q⟩:=h;have hl:=mQ;have hs:bq=16777216:=jd
 cases x with
 |non=>cases rx;have e':k=false:=e;subst e';exact truthy_none ⟨H,I,q⟩
 |bl b=>cases rx;have e':k=b:=e;subst e';exact kd ⟨H,I,q⟩
 |int i=>obtain⟨t,rfl⟩:=rx;have e':k=(i != 0):=e;subst e';exact PySem.P.truthy_int ⟨H,I,q⟩
 |str y=>obtain⟨t,rfl⟩:=rx;obtain⟨hy,e'⟩:y.length<=bq/\k=((y.length:Int) != 0):=e;subst e';exact PySem.P.truthy_str (by omega) ⟨H,I.tok _,q⟩
 |byt y=>obtain⟨t,rfl⟩:=rx;obtain⟨hy,e'⟩:y.size<=bq/\k=((y.size:Int) != 0):=e;subst e';exact PySem.W.truthy_bytes (by omega) ⟨H,I.tok _,q⟩
 |ref p=>
  cases rx;have e':(∃xs,SqL X.K H p xs/\k=!xs.isEmpty)∨(∃xs,SqT X.K H p xs/\k=!xs.isEmpty)∨∃kvs,H p=some (.dK kvs)/\k=!kvs.isEmpty:=e
  rcases e' with⟨xs,hx,e'⟩|⟨xs,hx,e'⟩|⟨kvs,hx,e'⟩
  ·subst e';obtain⟨its,r,pl,hz⟩:=I.list hx;have hlen:=r.length;exact wpAny_truthy_list pl.isList (by simp only[ar];omega) ⟨H,I.tok _,by rw[CT r];exact q⟩
  ·subst e';obtain⟨its,r,pl,hz⟩:=I.tuple hx;have hlen:=r.length;exact truthy_tuple pl (by simp only[ar];omega) ⟨H,I.tok _,by rw[CT r];exact q⟩
  ·subst e';obtain⟨hz,hS,vs,r,m⟩:kvs.length<=bq/\(p==sysModules)=false/\∃vs,KV kvs vs/\s.heap.DictOf (wW X.prog X.w) p vs:=I.hok p _ hx;have hlen:kvs.length=vs.length:=Paired.length r;exact wpAny_truthy_dict hS m (by omega) ⟨H,I.tok _,by rw[NQ r];exact q⟩
 |_=>exact(show False from e).elim
theorem NS (ha:PE X a ta) (he:∀whole,isTrue a X.env whole=(do let v <-whole;standAt a.pos;holding [v] (truthy v))):
  PT X a (λσ H Q=>ta σ H λx H'=>∃k,CS X.K x H' k/\Q k H'):=by
 intro pins s σ H Q I h;exact isTrue_plain (aR (ha pins s σ H _ I h) λv s1 ⟨x,H1,I1,r1,q1⟩=>NR pins s1 σ H1 x v Q I1 r1 q1) (he _)
theorem NT:OpR X (binaryOp .Add) (λx y H Q=>∃i j,x=.str i/\y=.str j/\i.length+j.length<=bq/\Q (.str (i++j)) H):=by intro pins s σ H x y v u Q I rx ry h;obtain⟨i,j,rfl,rfl,hz,q⟩:=h;obtain⟨t,rfl⟩:=rx;obtain⟨t',rfl⟩:=ry;exact add_str (λt' tk=>⟨.str (i++j),H,I.tok _,⟨_,rfl⟩,q⟩) hz
theorem gI {x:V}{us:List af}(r:Vals [x] us):∃u,us=[u]/\RelV x u:=by
 cases r with
 |cons r1 r2=>cases r2;exact⟨_,rfl,r1⟩
theorem pN {x y:V}{us:List af}(r:Vals [x,y] us):∃u w',us=[u,w']/\RelV x u/\RelV y w':=by
 cases r with
 |cons r1 r2=>
  cases r2 with
  |cons r3 r4=>cases r4;exact⟨_,_,rfl,r1,r3⟩
theorem NU (hc:X.calm=true):CallR X (.builtin "max") (λxs H Q=>∃i j,xs=[.int i,.int j]/\Q (.int (if j>i then j else i)) H):=by
 intro pins s σ H xs us Q I r h;obtain⟨i,j,rfl,q⟩:=h;obtain⟨u,w',rfl,⟨t,rfl⟩,⟨t',rfl⟩⟩:=pN r;refine max_two_ints (I.ok.hd hc) λh' tk k=>⟨_,H,I.kept k, ?_,q⟩
 by_cases hj:j>i
 ·rw[if_pos hj,if_pos hj];exact⟨_,rfl⟩
 ·rw[if_neg hj,if_neg hj];exact⟨_,rfl⟩
theorem NV (hc:X.calm=true):CallR X (.builtin "min") (λxs H Q=>∃i j,xs=[.int i,.int j]/\Q (.int (if j<i then j else i)) H):=by
 intro pins s σ H xs us Q I r h;obtain⟨i,j,rfl,q⟩:=h;obtain⟨u,w',rfl,⟨t,rfl⟩,⟨t',rfl⟩⟩:=pN r;refine min_two_ints (I.ok.hd hc) λh' tk k=>⟨_,H,I.kept k, ?_,q⟩
 by_cases hj:j<i
 ·rw[if_pos hj,if_pos hj];exact⟨_,rfl⟩
 ·rw[if_neg hj,if_neg hj];exact⟨_,rfl⟩
theorem NW:CallR X (.type "str") (λxs H Q=>∃i,xs=[.int i]/\i.natAbs.log2<1920/\Q (.str (toString i)) H):=by intro pins s σ H xs us Q I r h;obtain⟨i,rfl,hz,q⟩:=h;obtain⟨u,rfl,t,rfl⟩:=gI r;exact PySem.P.str_of_int hz ⟨.str _,H,I.tok _,⟨_,rfl⟩,q⟩
def NX (K:ao) (x:V) (H:Hp) (n:Nat):Prop:=
 match x with
 | .str y=>y.length<=bq/\n=y.length
 | .byt y=>y.size<=bq/\n=y.size
 | .ref p=>(∃xs,SqL K H p xs/\n=xs.length)∨∃xs,SqT K H p xs/\n=xs.length
 |_=>False
theorem NY:CallR X (.builtin "len") (λxs H Q=>∃x n,xs=[x]/\NX X.K x H n/\Q (.int n) H):=by
 intro pins s σ H xs us Q I r h;obtain⟨x,n,rfl,e,q⟩:=h;obtain⟨u,rfl,rx⟩:=gI r;have hl:=mQ;have hs:bq=16777216:=jd
 cases x with
 |str y=>obtain⟨t,rfl⟩:=rx;obtain⟨hy,e'⟩:y.length<=bq/\n=y.length:=e;subst e';exact len_str (by omega) ⟨.int _,H,I.tok _,⟨_,rfl⟩,q⟩
 |byt y=>obtain⟨t,rfl⟩:=rx;obtain⟨hy,e'⟩:y.size<=bq/\n=y.size:=e;subst e';exact PySem.W.len_bytes (by omega) ⟨.int _,H,I.tok _,⟨_,rfl⟩,q⟩
 |ref p=>
  cases rx;have e':(∃xs,SqL X.K H p xs/\n=xs.length)∨∃xs,SqT X.K H p xs/\n=xs.length:=e
  rcases e' with⟨xs,hx,e'⟩|⟨xs,hx,e'⟩
  ·subst e';obtain⟨its,r',pl,hz⟩:=I.list hx;have hlen:=r'.length;exact yy pl.isList (by simp only[ar];omega) ⟨.int xs.length,H,I.tok _,⟨_,by simp only[ar];rw[hlen]⟩,q⟩
  ·subst e';obtain⟨its,r',pl,hz⟩:=I.tuple hx;have hlen:=r'.length;exact len_tuple pl (by simp only[ar];omega) ⟨.int xs.length,H,I.tok _,⟨_,by simp only[ar];rw[hlen]⟩,q⟩
 |_=>exact(show False from e).elim
end
section
variable{prog:bf}{w:cg}{A:cf}{E:af->ag->Prop}{s:ag}{K:ao}{x dx C f:ah}{mA:Str->Option af}{name:Str}{v:af}
end
section
variable{P:bf}{w:cg}{H H':Hp}{h h':ck}{a C dx:ah}{fs fs':List (Str×V)}
end
section
variable{X:Cx}{pins:List (ah×Obj)}{σ:St}{H:Hp}{s:ag}{a C dx:ah}{fs:List (Str×V)}{f:Str}{v:V}{A:cf}{E:af->ag->Prop}
end
section
variable{X:Cx}{o e value:bj}{f:Str}{pos pos' tpos:Pos}{ta tv:TE}
end
section
variable{X:Cx}{pins:List (ah×Obj)}{σ:St}{H:Hp}{s:ag}{A:cf}{E:af->ag->Prop}{Q:af->ag->Prop}{c:af}{b:Bool}
end
structure Room (k:Nat) (A:cf):Prop where
 hd:A.handled=none
 dp:A.depth+3*k+5<recursionLimit
 un:A.units+16*k+200<cLine
theorem Room.mono {j k:Nat}{A:cf}(r:Room k A) (h:j<=k):Room j A:=⟨r.hd,by have:=r.dp;omega,by have:=r.un;omega⟩
theorem Room.deeper {k:Nat}{A:cf}(r:Room (k+1) A) (env:Env):Room k (A.deeper env):=⟨r.hd,by have:=r.dp;show A.depth+1+3*k+5<_;omega,by have:=r.un;show A.units+3+16*k+200<_;omega⟩
theorem Room.depth {k:Nat}{A:cf}(r:Room k A):A.depth<recursionLimit:=by have:=r.dp;omega
theorem Room.units {k:Nat}{A:cf}(r:Room k A):A.units+64<cLine:=by have:=r.un;omega
def CU:TA:=λ_ H Q=>Q [] H
def CV (ta:TE) (tr:TA):TA:=λσ H Q=>ta σ H λx H1=>tr σ H1 λxs H2=>Q (x::xs) H2
section
variable{X:Cx}{e:bj}{es:List bj}{te:TE}{t:TA}{pos:Pos}
theorem gJ:PA X [] CU:=λ_ _ _ _ H Q I h=>Calls.spliced_nil ⟨[],H,I,.nil,h⟩
theorem fK (ha:PE X e te) (hr:PA X es t) (hs:aq (e::es) X.env=(false,eval e X.env)::aq es X.env:=by rfl):PA X (e::es) (CV te t):=by intro pos pins s σ H Q I h;rw[hs];show wpAny _ _ (spliced ((false,eval e X.env)::backTo pos (aq es X.env))) _ _ s;refine Calls.spliced_cons (aR (ha pins s σ H _ I h) λu s1 ⟨x,H1,I1,r1,q1⟩=>?_);exact aR (hr pos pins s1 σ H1 _ I1 q1) λus s2 ⟨xs,H2,I2,r2,q2⟩=>⟨x::xs,H2,I2,.cons r1 r2,q2⟩
def NZ (t:TA):TE:=λσ H Q=>t σ H λxs H1=>xs.length<=bq/\∀p,H1 p=none->Q (.ref p) (aM H1 p (.tup xs))
def N0 (t:TA):TE:=λσ H Q=>t σ H λxs H1=>xs.length<=bq/\∀p,H1 p=none->Q (.ref p) (aM H1 p (.lst xs))
theorem CW {x1} (h:PA X es t):PE X (.Tuple es x1 pos) (NZ t):=by intro pins s σ H Q I hq;refine wpAny_Tuple_spliced (aR (h pos pins s σ H _ I hq) λus s1 ⟨xs,H1,I1,r,z,q⟩=>⟨by rw[<-r.length];exact z, ?_⟩);have hf:H1 s1.heap.objs.size=none:=I1.hok.fresh (ak _);refine⟨.ref s1.heap.objs.size,aM H1 s1.heap.objs.size (.tup xs),I1.laid (t':=s1.toks) (λb u e=>aj _ e) (ak _) ?_,rfl,q _ hf⟩;exact⟨z,us,r,⟨_,ay _ rfl,rfl,rfl,_,rfl⟩⟩
theorem N1 (h:PA X es t):PE X (.List es pos) (N0 t):=by intro pins s σ H Q I hq;refine wpAny_List_spliced (aR (h pos pins s σ H _ I hq) λus s1 ⟨xs,H1,I1,r,z,q⟩=>⟨by rw[<-r.length];exact z, ?_⟩);have hf:H1 s1.heap.objs.size=none:=I1.hok.fresh (ak _);refine⟨.ref s1.heap.objs.size,aM H1 s1.heap.objs.size (.lst xs),I1.laid (t':=s1.toks) (λb u e=>aj _ e) (ak _) ?_,rfl,q _ hf⟩;exact⟨z,us,0,r,ay _ rfl⟩
end
abbrev Sp:=List V->Hp->VK->XK->Prop
abbrev kQ:=List Env->Hp->ag->XK->af->ag->Prop
structure Env0 (P:bf) (w:cg) (K:ao) (mg:Str->Option af) (base:ck) (A:cf) (outer:List Env) (s:ag) (H:Hp):Prop where
 frames:A.frames=some outer
 mod:Mod K mg base
 bs:∀b o,base.get? b=some o->s.heap.get? b=some o/\H b=none
 bsz:base.objs.size<=s.heap.objs.size
 funs:s.heap.FunFrames base outer
 frf:∀b∈cM outer,H b=none
 hok:HOk P w H s.heap
 bare:ph s.gens
def CE (outer:List Env) (P:bf) (w:cg) (H:Hp) (s:ag) (Q:VK) (u:af) (s':ag):Prop:=∃v H',s'.os=s.os/\ph s'.gens/\Un (cM outer) [] H H' s.heap s'.heap/\HOk P w H' s'.heap/\RelV v u/\Q v H'
def CR (CX:kQ) (outer:List Env) (P:bf) (w:cg) (H:Hp) (s:ag) (Q:VK) (E:XK) (r:vk) (s':ag):Prop:=
 match r with
 | .ok (.ret u)=>CE outer P w H s Q u s'
 | .ok _=>False
 | .error e=>CX outer H s E e s'
structure FnOk (P:bf) (w:cg) (K:ao) (mg:Str->Option af) (base:ck) (CX:kQ) (k:Nat) (f:ah) (fd:bp) (ps:List Str) (sp:Sp):Prop where
 len:∀vs H Q E,sp vs H Q E->vs.length=ps.length
 run:∀(A:cf) (outer:List Env) (s:ag) (H:Hp) (args:Args) (us:List af) (vs:List V) (Q:VK) (E:XK),Room k A->Env0 P w K mg base A outer s H->BindsTo s fd args (ps.zip us)->Vals vs us->sp vs H Q E->
  codeAny (model P w) A (.call (.ref f) args) (CR CX outer P w H s Q E) s
section
variable{X:Cx}{pins:List (ah×Obj)}{σ:St}{H:Hp}{s s':ag}
theorem Inv.env0 (I:Inv X pins σ H s):Env0 X.prog X.w X.K X.mg X.base X.A X.stack s H:=⟨I.ok.frames,I.ok.mod,I.bs,dm I.ok.bsz I.sz,I.stack,I.stkFree,I.hok,I.bare⟩
theorem Inv.after {Q:VK}{u:af}(I:Inv X pins σ H s) (h:CE X.stack X.prog X.w H s Q u s'):EP X pins σ Q u s':=by obtain⟨v,H',os,bare,un,hok,r,q⟩:=h;obtain⟨hh,g,d,t,os'⟩:=s';obtain rfl:os'=s.os:=os;exact⟨v,H',I.call (h':=hh) (g':=g) (d':=d) (t':=t) (ch:=[]) un hok bare (λb z=>absurd z (by simp)),r,q⟩
end
def N2 (sp:Sp) (dvs:List V) (E:XK) (t:TA):TE:=λσ H Q=>t σ H λvs H1=>sp (vs++dvs) H1 Q E
def Binds (K:ao) (fd:bp) (ps:List Str) (ds:List af):Prop:=∀(s:ag) (us:List af),K.In s.heap->(us++ds).length=ps.length->BindsTo s fd ⟨us,[]⟩ (ps.zip (us++ds))
theorem Binds.all {K:ao}{fd:bp}{ps:List Str}(h:∀us:List af,us.length=ps.length->bindArgs fd ⟨us,[]⟩=pure (ps.zip us)):Binds K fd ps []:=λs us _ hl=>by rw[kj]at hl ⊢;exact .of_eq (h us hl)
def xI (CX:kQ) (X:Cx) (E:XK):Prop:=∀(pins:List (ah×Obj)) (σ:St) (H:Hp) (s:ag) (e:af) (s':ag),Inv X pins σ H s->CX X.stack H s E e s'->X.xe e s'
section
variable{X:Cx}{CX:kQ}{k:Nat}{f C:ah}{fd:bp}{ps:List Str}{sp:Sp}{dvs:List V}{ds:List af}{E:XK}{x m:Str}{p pos apos:Pos}{e o:bj}{es:List bj}{ta:TE}{t:TA}
theorem N3 {pins:List (ah×Obj)}{σ:St}{H:Hp}{s:ag}{Q:VK}{us:List af}{vs:List V}(F:FnOk X.prog X.w X.K X.mg X.base CX k f fd ps sp) (hr:Room k X.A) (hb:Binds X.K fd ps ds) (hd:Vals dvs ds) (hx:xI CX X E)
  (I:Inv X pins σ H s) (r:Vals vs us) (h:sp (vs++dvs) H Q E):wpAny (model X.prog X.w) X.A (call (.ref f) us) (EP X pins σ Q) X.xe s:=by
 have r2:Vals (vs++dvs) (us++ds):=r.append hd;have hl:(us++ds).length=ps.length:=by rw[<-r2.length];exact F.len _ _ _ _ h
 refine yk (md (F.run X.A X.stack s H ⟨us,[]⟩ (us++ds) (vs++dvs) Q E hr I.env0 (hb s us I.kIn hl) r2 h) λr s' hq=>?_)
 cases r with
 |error e=>exact hx pins σ H s e s' I hq
 |ok fl=>
  cases fl with
  |ret u=>exact I.after hq
  |next=>exact gb hq
  |brk=>exact gb hq
  |cont=>exact gb hq
theorem N4 (F:FnOk X.prog X.w X.K X.mg X.base CX k f fd ps sp) (hr:Room k X.A) (hg:Gl X x) (hm:X.mg x=some (.ref f)) (hk:jt X.K (.ref f)=true) (hb:Binds X.K fd ps ds) (hd:Vals dvs ds) (hx:xI CX X E)
  (ha:PA X (e::es) t) (hdb:(x==("__debug__" : Str))=false:=by decide) (he:aq (e::es) X.env=(false,eval e X.env)::aq es X.env:=by rfl) (hpl:(backTo pos (aq es X.env)).any (·.1)=false:=by rfl):
  PE X (.Call (.Name x p) (e::es) [] pos) (N2 sp dvs E t):=by
 intro pins s σ H Q I h;refine lg (pK I hg hm ?_ hdb);refine ym (h₀:=X.base) I.ok.mod.kin hk (aR (ha pos pins s σ H _ I h) λus s1 ⟨vs,H1,I1,r,q⟩=>⟨I1.kIn, ?_⟩) he hpl;exact N3 F hr hb hd hx I1 r q
end
section
variable{X:Cx}{CX:kQ}{k:Nat}{f C:ah}{fd:bp}{ps ks:List Str}{sp:Sp}{E:XK}{x m:Str}{p pos apos kpos:Pos}{e o:bj}{es:List bj}{kws:List Keyword}{te ta:TE}{t tk:TA}{nm:Option Str}
variable{g:List af->List af->List af}{gV:List V->List V->List V}
end
structure FnScope (N P:List Str) (sc:gn):Prop where
 kind:sc.kind=.function
 co:sc.isCoroutine=false
 gen:sc.isGenerator=false
 nd:N.Nodup
 pre:N.take P.length=P
 par:∀x∈P,sc.names.lookup x=some .local∨sc.names.lookup x=some .cell
 nofree:∀y∈sc.names,y.2≠.free
theorem CY {kindOf:Str->Option jn}{x:Str}:∀{binds:List (Str×af)}{m:Str->Option af},(∀v,(x,v)∉binds)->bindL kindOf binds m x=m x
 | [],_,_=>rfl
 |(n,v)::r,m,h=>by
  unfold bindL;rw[CY λw hw=>h w (aw _ hw)]
  split
  ·have:x≠n:=by rintro rfl;exact h v ba
   simp[this]
  ·rfl
theorem CZ {kindOf:Str->Option jn}{x:Str}:∀{binds:List (Str×af)}{m:Str->Option af},(∀v,(x,v)∉binds)->bindC kindOf binds m x=m x
 | [],_,_=>rfl
 |(n,v)::r,m,h=>by
  unfold bindC;rw[CZ λw hw=>h w (aw _ hw)]
  split
  ·rfl
  ·have:x≠n:=by rintro rfl;exact h v ba
   simp[this]
theorem DC {kindOf:Str->Option jn}{x:Str}{v:af}:∀{P:List Str}{vs:List af}{i:Nat}{m:Str->Option af},P.Nodup->P[i]?=some x->vs[i]?=some v->kindOf x=some .local->
  bindL kindOf (P.zip vs) m x=some v
 | [],_,_,_,_,h,_,_=>by simp at h
 |_::_,[],_,_,_,_,h,_=>by simp at h
 |p::P,w::vs,0,m,nd,h1,h2,hk=>by simp at h1 h2;subst h1;subst h2;show bindL kindOf ((p,w)::P.zip vs) m p=_;unfold bindL;rw[CY λv hv=>(je.mp nd).1 (u0 hv).1,if_pos hk];simp
 |p::P,w::vs,i+1,m,nd,h1,h2,hk=>by show bindL kindOf ((p,w)::P.zip vs) m x=_;unfold bindL;exact DC (i:=i) (je.mp nd).2 (by simpa using h1) (by simpa using h2) hk
theorem DD {kindOf:Str->Option jn}{x:Str}{v:af}:∀{P:List Str}{vs:List af}{i:Nat}{m:Str->Option af},P.Nodup->P[i]?=some x->vs[i]?=some v->kindOf x≠some .local->
  bindC kindOf (P.zip vs) m x=some v
 | [],_,_,_,_,h,_,_=>by simp at h
 |_::_,[],_,_,_,_,h,_=>by simp at h
 |p::P,w::vs,0,m,nd,h1,h2,hk=>by simp at h1 h2;subst h1;subst h2;show bindC kindOf ((p,w)::P.zip vs) m p=_;unfold bindC;rw[CZ λv hv=>(je.mp nd).1 (u0 hv).1,if_neg hk];simp
 |p::P,w::vs,i+1,m,nd,h1,h2,hk=>by show bindC kindOf ((p,w)::P.zip vs) m x=_;unfold bindC;exact DD (i:=i) (je.mp nd).2 (by simpa using h1) (by simpa using h2) hk
def start (N:List Str) (vs:List V):St:=vs.map some++uh (N.length - vs.length) none
def eG (CX:kQ) (P:bf) (w:cg) (K:ao) (mg:Str->Option af) (base:ck) (N:List Str) (qual:Str) (scope:gn) (f:ah) (cd:af) (A:cf) (outer:List Env) (s:ag) (H:Hp) (E:XK):Cx where
 prog:=P
 w:=w
 K:=K
 mg:=mg
 base:=base
 A:=A.deeper (envOfC qual scope s.heap.objs.size f cd)
 N:=N
 s₀:=s
 H₀:=H
 env:=envOfC qual scope s.heap.objs.size f cd
 outer:=outer
 stack:=envOfC qual scope s.heap.objs.size f cd::outer
 ex:=[]
 calm:=true
 fn:=λ_=>true
 pn:=[]
 xe:=λe s'=>wpAny (model P w) (A.deeper (envOfC qual scope s.heap.objs.size f cd)) (leaving (envOfC qual scope s.heap.objs.size f cd) e) (λ_ s''=>CX outer H s E e s'') (λe' s''=>CX outer H s E e' s'') s'
theorem DE {sc:gn}{n:Nat}{x:Str}(h:sc.names.lookup x=some .cell):∃c,(cellsFrom n sc.names []).lookup x=some c:=by have q:=vm sc.names n [] (.inl h);exact ui.mp q
theorem N5 {CX:kQ}{P:bf}{w:cg}{K:ao}{mg:Str->Option af}{base:ck}{N ps:List Str}{qual:Str}{scope:gn}{f:ah}{cd:af}{A:cf}{outer:List Env}{s s1:ag}{H:Hp}{E:XK}{us:List af}{vs:List V}
  (S:FnScope N ps scope) (hd:A.handled=none) (e0:Env0 P w K mg base A outer s H) (hl:vs.length=ps.length) (r:Vals vs us)
  (x:InCallC s s.heap.objs.size (bindL (envOfC qual scope s.heap.objs.size f cd).kindOf (ps.zip us) λ_=>none) (cellsFrom (s.heap.objs.size+1) scope.names []) (bindC (envOfC qual scope s.heap.objs.size f cd).kindOf (ps.zip us) λ_=>none) s1):
  Inv (eG CX P w K mg base N qual scope f cd A outer s H E) [] (start N vs) H s1:=by
 have hpl:ps.length<=N.length:=by have:=congrArg ka S.pre;rw[iz]at this;omega
 obtain⟨h1,tk,rfl,hk⟩:=x.done;have noA:∀b:ah,b∉(eG CX P w K mg base N qual scope f cd A outer s H E).ex:=λb z=>absurd (show b∈([]:List ah) from z) (by simp);refine⟨⟨e0.mod,S.kind,rfl,rfl,ak _,λy z c h1 h2=>?_,λy hy=>?_,λy c _ h=>?_,λ_=>hd,ye e0.frames,.inr ⟨rfl,rfl⟩,λb z=>absurd z (noA b),e0.bs,e0.bsz,λb _ _=>noA b,λb z=>absurd z (noA b),e0.funs,e0.frf⟩,
  rfl,e0.bare,Un.kept hk,⟨_,x.toInCall.ns,λi y v h1 h2 h3=>?_⟩,λy c h=>⟨_,x.cell y c h⟩,e0.hok.fresh (ak _),λy c h=>?_,λp hp=>absurd (show p∈([]:List (ah×Obj)) from hp) (by simp),e0.hok.kept hk, ?_⟩
 ·exact name_of_addr x.apart (dw h1) (dw h2)
 ·have hy:scope.names.lookup y=some .cell∨scope.names.lookup y=some .free:=hy
  rcases hy with hy|hy
  ·exact DE hy
  ·exact absurd rfl (S.nofree _ (dw hy))
 ·exact gp (x.above y c (dw h))
 ·have hi:i<vs.length:=by
   unfold start at h2
   by_cases hi:i<vs.length
   ·exact hi
   ·rw[dk (by simpa using hi)]at h2;rw[p7]at h2
    split at h2 <;> cases h2
  have ha:vs[i]?=some v:=by
   unfold start at h2;rw[dh (by simpa using hi),dj]at h2
   cases e:vs[i]? with
   |none=>rw[e]at h2;cases h2
   |some a=>rw[e]at h2;cases h2;rfl
  obtain⟨u,hu,rv⟩:=r.get ha;have hp:ps[i]?=some y:=by rw[<-S.pre,xj (by omega)];exact h1
  have ndP:ps.Nodup:=by rw[<-S.pre];exact S.nd.sublist (List.take_sublist _ _)
  refine⟨u,rv, ?_⟩
  rcases S.par y (br hp)with k|k
  ·exact .inl ⟨k,DC ndP hp hu k⟩
  ·obtain⟨c,e⟩:=DE (n:=s.heap.objs.size+1) k;refine .inr ⟨.inl k,c,e, ?_⟩;have q:=x.cell y c e;rw[DD ndP hp hu (by show scope.names.lookup y≠_;rw[k];decide)]at q;exact q
 ·exact e0.hok.fresh (gp (x.above y c (dw h)))
 ·unfold start;show _=N.length;rw[bw,bh,List.length_replicate];omega
theorem xJ {CX:kQ}{P:bf}{w:cg}{K:ao}{mg:Str->Option af}{base:ck}{k:Nat}{f:ah}{name qual:Str}{params:jz}{body:List gy}{scope:gn}{dV kV doc pm cdv ct oc:af}{an od:Option ah}
  {osl:Array (Option af)}{N ps:List Str}{sp:Sp}(lk:K.lookup f=some ⟨oc,od,.func (mw name qual params body scope dV kV doc pm an cdv ct),osl⟩) (hcd:tq K cdv qual=true) (S:FnScope N ps scope)
  (len:∀vs H Q E,sp vs H Q E->vs.length=ps.length)
  (hbody:∀(A:cf) (outer:List Env) (s:ag) (H:Hp) (vs:List V) (Q:VK) (E:XK),Room k (A.deeper (envOfC qual scope s.heap.objs.size f cdv))->sp vs H Q E->
   ∃t,PSs (eG CX P w K mg base N qual scope f cdv A outer s H E) body t/\t { nx:=λ_ H'=>Q .non H',rt:=Q } (start N vs) H):
  FnOk P w K mg base CX (k+1) f (mw name qual params body scope dV kV doc pm an cdv ct) ps sp:=by
 refine⟨len,λA outer s H args us vs Q E hr e0 hb r hsp=>?_⟩;have hl:=len _ _ _ _ hsp;have KX:K.In s.heap:=e0.mod.kin.keeps λb o e=>(e0.bs b o e).1;have lim:s.heap.NoLimit:=e0.mod.nolimit.keeps λb o e=>(e0.bs b o e).1;have hkind:∀y∈ps.zip us,scope.names.lookup y.1=some .local∨(scope.names.lookup y.1=some .cell/\((cellsFrom (s.heap.objs.size+1) scope.names []).lookup y.1).isSome=true):=λ⟨n,v⟩ hy=>by
  rcases S.par n (u0 hy).1 with q|q
  ·exact .inl q
  ·exact .inr ⟨q,vm _ _ _ (.inl q)⟩
 refine codeAny_call_function hr.depth (KX _ _ lk) rfl S.co S.gen rfl (PySem.W.codeRec_of KX hcd) (hb _ _ _ _ ?_);refine wpAny_newFunctionEnv_cells S.kind hkind λenv he s1 x=>?_;subst he;refine⟨lim.keeps x.toInCall.keep,codeAny_func ?_⟩;obtain⟨t,ht,hq⟩:=hbody A outer s H vs Q E (hr.deeper _) hsp;have I:Inv (eG CX P w K mg base N qual scope f cdv A outer s H E) [] (start N vs) H s1:=N5 S hr.hd e0 hl r x;refine js (ht [] s1 (start N vs) H _ I hq) (λfl s' hs=>?_) λe s' hs=>hs;have fin:∀{σ':St}{H':Hp}{v:V}{u:af},Inv (eG CX P w K mg base N qual scope f cdv A outer s H E) [] σ' H' s'->RelV v u->Q v H'->CE outer P w H s Q u s':=λ{σ' H' v u} J rv q=>⟨v,H',J.os,J.bare,J.base,J.hok,rv,q⟩
 cases fl with
 |ret u=>obtain⟨v,σ',H',J,rv,q⟩:=hs;exact fin J rv q
 |next=>obtain⟨σ',H',J,q⟩:=hs;exact fin (v:=V.non) (u:=jb) J rfl q
 |brk=>obtain⟨_,_,_,q⟩:=hs;exact gb q
 |cont=>obtain⟨_,_,_,q⟩:=hs;exact gb q
section
variable{X:Cx}{x:Str}{p pos:Pos}{e:bj}{es:List bj}{t:TA}{id T:String}{r:List V->Hp->VK->Prop}
def sT (r:List V->Hp->VK->Prop) (t:TA):TE:=λσ H Q=>t σ H λvs H1=>r vs H1 Q
theorem pO (hc:CallR X (.builtin id) r) (hg:Gl X x) (hm:X.mg x=none) (hv:cx x=some (.builtin id)) (ha:PA X (e::es) t) (hn:x ≠ "__name__" := by decide) (hdb:(x==("__debug__" : Str))=false:=by decide)
  (he:aq (e::es) X.env=(false,eval e X.env)::aq es X.env:=by rfl) (hpl:(backTo pos (aq es X.env)).any (·.1)=false:=by rfl):PE X (.Call (.Name x p) (e::es) [] pos) (sT r t):=by
 intro pins s σ H Q I h;refine lg (mO I hg hm hv ?_ hn hdb);exact PyProof.Rows.callWith_builtin1 (aR (ha pos pins s σ H _ I h) λus s1 ⟨vs,H1,I1,r1,q1⟩=>hc pins s1 σ H1 vs us Q I1 r1 q1) he hpl
theorem pP (hc:CallR X (.type T) r) (hg:Gl X x) (hm:X.mg x=none) (hv:cx x=some (.type T)) (ha:PA X (e::es) t) (hn:x ≠ "__name__" := by decide) (hdb:(x==("__debug__" : Str))=false:=by decide)
  (he:aq (e::es) X.env=(false,eval e X.env)::aq es X.env:=by rfl) (hpl:(backTo pos (aq es X.env)).any (·.1)=false:=by rfl):PE X (.Call (.Name x p) (e::es) [] pos) (sT r t):=by
 intro pins s σ H Q I h;refine lg (mO I hg hm hv ?_ hn hdb);exact ik (aR (ha pos pins s σ H _ I h) λus s1 ⟨vs,H1,I1,r1,q1⟩=>hc pins s1 σ H1 vs us Q I1 r1 q1) he hpl
end
end L2
namespace HT
open PySem PyProof.Rows
def lexLt:List Int->List Int->Bool
 | [],[]=>false
 | [],_::_=>true
 |_::_,[]=>false
 |x::xs,y::ys=>if x=y then lexLt xs ys else decide (x<y)
theorem lexLt_cons (x y:Int) (xs ys:List Int):lexLt (x::xs) (y::ys)=if x=y then lexLt xs ys else decide (x<y):=rfl
theorem N6:lexLt [] []=false:=rfl
theorem N7 (y:Int) (ys:List Int):lexLt [] (y::ys)=true:=rfl
theorem N8 (x:Int) (xs:List Int):lexLt (x::xs) []=false:=rfl
theorem N9 (A:cf) (s:ag) (a:Int) (t:Tok) (c:Int) (u:Tok):∃e,qt A s (.int a t) (.int c u) e/\(e=true↔a=c):=⟨(a==c),qd a t c u,by simp⟩
theorem OA (A:cf) (s:ag) (a:Int) (t:Tok) (c:Int) (u:Tok) (prog:bf) (w:cg) (E:af->ag->Prop) (Q:af->ag->Prop) (h:Q (.bool (decide (a<c))) s):
  wpAny (model prog w) A (richCompare .Lt (.int a t) (.int c u)) Q E s:=
 (u9 h:wpAny (model prog w) A (compareOp .Lt (.int a t) (.int c u)) Q E s)
section
open PySem.SeqAt
open PySem.AutoSeq1 (wpAny_loadPart')
open PySem.MeetsSeq PySem.MeetsSeq2 PySem.MeetsSeq3
theorem OB (l b:ah) (items items2:Array af) (n n2:Nat) (dd dd2:Option ah) (sl sl2:Array (Option af)) (ns ms:List Int) (hi:kv items.toList ns) (hj:kv items2.toList ms):
  Meets (kz.«tuple.__lt__» ⟨[.ref l,.ref b],[]⟩)
   (λ_ R s=>s.heap.get? l=some { cls:=.type "tuple",dict:=dd,data:=.seq items n,slots:=sl }/\s.heap.get? b=some { cls:=.type "tuple",dict:=dd2,data:=.seq items2 n2,slots:=sl2 } /\
    R (.ok (.ret (.bool (lexLt ns ms)))) s):=
 .of_wp λprog w A R s h=>by
  obtain⟨hp,g,d,tk,os⟩:=s;obtain⟨hl,hb,h⟩:=h;have f2:=AutoSeq1.sub_tuple_tuple;have z1:items.size=ns.length:=by rw[<-hi.length];simp
  have z2:items2.size=ms.length:=by rw[<-hj.length];simp
  wp_walk using wpAny_loadPart' hl,wpAny_loadPart' hb,qe _ (λrest b s'=>b.1=none/\s'=⟨hp,g,d,tk,os⟩/\∃(vs ws:List af) (ns' ms':List Int),rest=vs.zip ws /\
   kv vs ns'/\kv ws ms'/\ns'.length+items2.size=ms'.length+items.size/\R (.ok (.ret (.bool (lexLt ns' ms')))) ⟨hp,g,d,tk,os⟩) _
  case turn=>
   rintro ⟨y,x⟩ rest b s' ⟨hb',rfl,vs,ws,ns',ms',hz,hvi,hwi,hlen,hR⟩
   cases hvi with
   |nil=>rw[List.zip_nil_left]at hz;cases hz
   |cons a t hvi'=>
    cases hwi with
    |nil=>rw[List.zip_nil_right]at hz;cases hz
    |cons c u hwi'=>
     rw[List.zip_cons_cons]at hz;injection hz with hyx hrest;injection hyx with hy hx;subst hy hx;rw[lexLt_cons]at hR;simp only[cp]at hlen;obtain⟨e,he,hiff⟩:=N9 A.in1 ⟨hp,g,d,tk,os⟩ a t c u;refine aa (he prog w _ _ ?_)
     cases e with
     |true=>
      rw[if_pos (hiff.mp rfl)]at hR
      wp_walk
      exact⟨rfl,rfl,_,_,_,_,hrest,hvi',hwi',by omega,hR⟩
     |false=>
      rw[if_neg (λq=>absurd (hiff.mpr q) ib)]at hR;have hri:=OA A.in1 ⟨hp,g,d,tk,os⟩ a t c u prog w
      wp_walk using hri
      exact⟨_,rfl,by simpa using hR⟩
  case fin=>
   rintro ⟨b1,b2⟩ s' ⟨hb',rfl,vs,ws,ns',ms',hz,hvi,hwi,hlen,hR⟩
   simp only at hb';subst hb';have hv:lexLt ns' ms'=decide (items.size<items2.size):=by
    cases hvi with
    |nil=>
     cases hwi with
     |nil=>simp only[jo]at hlen;rw[N6];exact(decide_eq_false (by omega)).symm
     |cons c u hw=>simp only[jo,cp]at hlen;rw[N7];exact(decide_eq_true (by omega)).symm
    |cons a t hv=>
     cases hwi with
     |nil=>simp only[jo,cp]at hlen;rw[N8];exact(decide_eq_false (by omega)).symm
     |cons c u hw=>rw[List.zip_cons_cons]at hz;cases hz
   rw[hv]at hR
   wp_walk
   exact⟨_,rfl,by simpa[Builtin.Tuple.tupleCompareSizes]using hR⟩
  case h=>exact⟨rfl,rfl,items.toList,items2.toList,ns,ms,rfl,hi,hj,by omega,h⟩
end
section
variable{prog:bf}{w:cg}{A:cf}{E:af->ag->Prop}{s:ag}
theorem lt_tupInts {l b:ah}{items items2:Array af}{ns ms:List Int}{Q:af->ag->Prop}(hl:IsTup s.heap l items) (hb:IsTup s.heap b items2) (hi:kv items.toList ns) (hj:kv items2.toList ms)
  (hu:A.units<cLine) (h:Q (.bool (lexLt ns ms)) s):wpAny (model prog w) A (compareOp .Lt (.ref l) (.ref b)) Q E s:=by
 obtain⟨⟨cls,dd,data,sl⟩,ho,hc,n,hd⟩:=id hl;obtain⟨⟨cls2,dd2,data2,sl2⟩,ho2,hc2,n2,hd2⟩:=id hb;simp only at hc hd hc2 hd2;subst hc hd hc2 hd2;exact richCompare_meets_room (op:=.Lt) ⟨_,ho,rfl⟩ ⟨_,ho2,rfl⟩ PySem.F.slot_tuple_lt PySem.F.entry_tuple_lt (PySem.F.args_tuple_lt_2 _ _) (OB l b items items2 n n2 dd dd2 sl sl2 ns ms hi hj)
  ⟨ho,ho2,show zc (lexLt ns ms)≠Value.notImplemented/\Q (.bool (lexLt ns ms)) s from⟨(λx=>nomatch x),h⟩⟩ hu
theorem cat_tup {t b:ah}{vs ws:List af}{Q:af->ag->Prop}(ht:IsTup s.heap t vs.toArray) (hb:IsTup s.heap b ws.toArray) (hv:vs≠[])
  (h1:ws=[]->Q (.ref t) s) (h2:ws≠[]->Q (.ref s.heap.objs.size) { s with heap:=s.heap.push { cls:=.type "tuple",data:=.seq (vs++ws).toArray } })
  (hsz:vs.length+ws.length<=bq):wpAny (model prog w) A (binaryOp .Add (.ref t) (.ref b)) Q E s:=by
 obtain⟨⟨cls,dd,data,sl⟩,ho,hc,n,hd⟩:=id ht;obtain⟨⟨cls2,dd2,data2,sl2⟩,ho2,hc2,n2,hd2⟩:=id hb;simp only at hc hd hc2 hd2;subst hc hd hc2 hd2;have e:vs.toArray++ws.toArray=(vs++ws).toArray:=by simp
 by_cases hw:ws=[]
 ·exact concat_meets ⟨_,ho,rfl⟩ ⟨_,ho2,rfl⟩ vn ze p6 oi (nu _ _)
   (tuple_addW1 t b vs.toArray ws.toArray n n2 dd dd2 sl sl2 (by simpa using hv) (by simp[hw])) ⟨ho,ho2,h1 hw⟩
 ·refine concat_meets ⟨_,ho,rfl⟩ ⟨_,ho2,rfl⟩ vn ze p6 oi (nu _ _)
   (tuple_addW2 t b vs.toArray ws.toArray n n2 dd dd2 sl sl2 (by simpa using hv) (by simpa using hw) (by rw[ar,ar];exact hsz)) ⟨ho,ho2, ?_⟩
  rw[e];exact h2 hw
def sIx (n d:Nat):Option Int->Nat
 |none=>d
 |some v=>if v<0 then(v+(n:Int)).toNat else min v.toNat n
theorem sIx_none (n d:Nat):sIx n d none=d:=rfl
theorem sIx_nat (n d k:Nat):sIx n d (some (k:Int))=min k n:=by show(if(k:Int)<0 then((k:Int)+(n:Int)).toNat else min (k:Int).toNat n)=min k n;rw[if_neg (by omega),fh]
theorem OC (n d:Nat) (hd:d<=n) (o:Option Int):sIx n d o<=n:=by
 cases o with
 |none=>exact hd
 |some v=>
  show(if v<0 then(v+(n:Int)).toNat else min v.toNat n)<=n
  by_cases hv:v<0
  ·rw[if_pos hv];omega
  ·rw[if_neg hv];exact Nat.min_le_right _ _
theorem DF (v:Int) (n d:Nat):(if v<0 then max (v+(n:Int)) 0 else min v (n:Int))=((sIx n d (some v):Nat):Int):=by
 show(if v<0 then max (v+(n:Int)) 0 else min v (n:Int))=(((if v<0 then(v+(n:Int)).toNat else min v.toNat n):Nat):Int)
 by_cases hv:v<0
 ·simp only[if_pos hv];omega
 ·simp only[if_neg hv];omega
theorem OD (lo hi:Option Int) (n:Nat):mf lo hi 1 (n:Int)=(((sIx n 0 lo:Nat):Int),((sIx n n hi:Nat):Int)):=by
 have h1:¬ ((1:Int)<0):=by omega
 unfold mf;simp only[h1,if_false];refine Prod.ext ?_ ?_
 ·cases lo with
  |none=>rfl
  |some v=>exact DF v n 0
 ·cases hi with
  |none=>rfl
  |some v=>exact DF v n n
theorem OE (i j:Nat):jq (i:Int) (j:Int) 1=j - i:=by
 unfold jq;have h1:(1:Int)>0:=by omega
 simp only[h1,if_true,Int.ediv_one]
 split <;> omega
theorem DG {v:af}{o:Option Int}{Q:Option Int->ag->Prop}(p:r8 v o) (h:Q o s):wpAny (model prog w) A (Builtin.Slice.slicePartIndex v) Q E s:=by
 cases p with
 |none=>exact slicePart_none h
 |int i t=>exact slicePart_int h
theorem sliceApplied_gen {sl:ah}{vl vu:af}{lo hi:Option Int}{n:Nat}{Q:Int×Int×Nat->ag->Prop}(hs:s.heap.IsSliceOf sl vl vu .none) (pl:r8 vl lo) (pu:r8 vu hi)
  (h:Q (((sIx n 0 lo:Nat):Int),1,sIx n n hi - sIx n 0 lo) s):wpAny (model prog w) A (qu (.ref sl) (pure (n:Int))) Q E s:=by
 obtain⟨os,hos,hcs,hds⟩:=id hs;unfold qu Builtin.Slice.sliceFields;refine aa (aa (ff hos hds (x:=vl) rfl (aa (ff hos hds (x:=vu) rfl (aa (ff hos hds (x:=.none) rfl (ai ?_)))))));refine aa (slicePart_none ?_);show wpAny _ _ (if((1:Int)==0)=true then _ else _) _ _ s;rw[if_neg (by decide)];refine aa (DG pl (aa (DG pu (aa (ai ?_)))));show wpAny _ _ (match mf lo hi 1 (n:Int)with|(lo,hi)=>pure (lo,(1:Int),jq lo hi 1)) _ _ s;rw[OD lo hi n];show wpAny _ _ (pure (((sIx n 0 lo:Nat):Int),(1:Int),jq ((sIx n 0 lo:Nat):Int) ((sIx n n hi:Nat):Int) 1)) _ _ s;rw[OE];exact ai h
theorem OF (xs:Array af) (i k:Nat):((bo k).filterMap λ(m:Nat)=>xs[((i:Int)+(m:Int)*1).toNat]?).toArray=((xs.toList.drop i).take k).toArray:=by
 have e:(λ(m:Nat)=>xs[((i:Int)+(m:Int)*1).toNat]?)=λm=>xs[i+m]?:=by
  funext m
  have:((i:Int)+(m:Int)*1).toNat=i+m:=by omega
  rw[this]
 rw[e];have:=pick_run xs i k;rw[List.filterMap_map]at this;have e2:((λx=>xs[x]?)∘λx=>i+x)=λm=>xs[i+m]?:=rfl;rw[e2]at this;rw[this]
theorem getItem_tuple_cut {t sl:ah}{items:Array af}{vl vu:af}{lo hi:Option Int}{Q:af->ag->Prop}(ht:IsTup s.heap t items) (hs:s.heap.IsSliceOf sl vl vu .none) (pl:r8 vl lo) (pu:r8 vu hi)
  (hw:¬ (sIx items.size 0 lo=0/\sIx items.size items.size hi=items.size))
  (h:Q (.ref s.heap.objs.size) { s with heap:=s.heap.push { cls:=.type "tuple",data:=.seq ((items.toList.drop (sIx items.size 0 lo)).take (sIx items.size items.size hi - sIx items.size 0 lo)).toArray } })
  (hsz:items.size<=bq):wpAny (model prog w) A (getItem (.ref t) (.ref sl)) Q E s:=by
 have htake:sizeOk (.seq ((items.toList.drop (sIx items.size 0 lo)).take (sIx items.size items.size hi - sIx items.size 0 lo)).toArray):=by show((items.toList.drop (sIx items.size 0 lo)).take (sIx items.size items.size hi - sIx items.size 0 lo)).toArray.size<=bq;rw[ar,iz,ly,kg];omega
 have hj:sIx items.size items.size hi<=items.size:=OC _ _ (ak _) hi;obtain⟨os,hos,hcs,hds⟩:=id hs;have hTs:s.TypeIs (.ref sl) "slice" := ⟨os,hos,hcs⟩;unfold getItem
 try with_reducible refine gr ?_
 first|refine aa (ai ?_)|skip
 refine aa (wpAny_sequenceKey ht.typeIs (by decide) ?_);refine aa (fv (name:=ie "__getitem__") ht.typeIs fg
  (gg fg ht.typeIs entry_tuple_getitem ?_ (args_tuple_getitem _ _)))
 show wpAny _ _ (Builtin.Tuple.tupleItemsOf (.ref t) >>= _) _ _ s;refine aa (tupleItemsOf_ ht ?_);refine aa (oj hTs ?_);rw[if_pos (by decide)];refine aa (sliceApplied_gen hs pl pu ?_);have hno:¬ ((((sIx items.size 0 lo:Nat):Int)==0&&(1:Int)==1&&(sIx items.size items.size hi - sIx items.size 0 lo)==items.size)=true):=by intro q;rw[cy,cy]at q;have q1:((sIx items.size 0 lo:Nat):Int)=0:=eq_of_beq q.1.1;have q2:sIx items.size items.size hi - sIx items.size 0 lo=items.size:=eq_of_beq q.2;exact hw ⟨by omega,by omega⟩
 show wpAny _ _ (if(((sIx items.size 0 lo:Nat):Int)==0&&(1:Int)==1&&(sIx items.size items.size hi - sIx items.size 0 lo)==items.size)=true then _ else _) _ _ s;rw[if_neg hno,OF]
 first
  |exact aa (m:=ju _) (fj (ai ⟨_,rfl,ai h⟩) htake)
  |exact aa (m:=ju _) (fj (aa (ai (ai ⟨_,rfl,ai h⟩))) htake)
  |exact aa (aa (m:=ju _) (fj (ai (ai ⟨_,rfl,ai h⟩)) htake))
  |exact aa (aa (m:=ju _) (fj (ai ⟨_,rfl,ai h⟩) htake))
end
end HT
namespace L2
open PySem PySem.Spec PyProof.Rows
abbrev TO:=St->Hp->(Option Int->Hp->Prop)->Prop
def PO (X:Cx) (e:Option bj) (t:TO):Prop:=
 ∀(pins:List (ah×Obj)) (s:ag) (σ:St) (H:Hp) (Q:Option Int->Hp->Prop),Inv X pins σ H s->t σ H Q->
  wpAny (model X.prog X.w) X.A (evalPart e X.env) (λu s'=>∃o H',Inv X pins σ H' s'/\r8 u o/\Q o H') X.xe s
def OG:TO:=λ_ H Q=>Q none H
def OH (t:TE):TO:=λσ H Q=>t σ H λx H1=>∃i,x=.int i/\Q (some i) H1
theorem DH {ns:List Int}:∀{us:List af},Vals (ns.map V.int) us->kv us ns:=by
 induction ns with
 |nil=>intro us r;rw[List.map_nil]at r;cases r;exact .nil
 |cons n ns ih=>
  intro us r;rw[da]at r
  cases r with
  |cons r1 r2=>obtain⟨t,e⟩:=r1;subst e;exact .cons n t (ih r2)
section
variable{X:Cx}{e:bj}{te:TE}{lo hi:Option bj}{tl th:TO}{pos p2:Pos}
theorem OI:PO X none OG:=by intro pins s σ H Q I h;rw[evalPart_none];exact ai ⟨none,H,I,.none,h⟩
theorem OJ (h:PE X e te):PO X (some e) (OH te):=by intro pins s σ H Q I hw;rw[evalPart_some];refine aR (h pins s σ H _ I hw) λu s1 ⟨x,H1,I1,r1,q1⟩=>?_;obtain⟨i,rfl,q⟩:=q1;obtain⟨t,rfl⟩:=r1;exact⟨some i,H1,I1,.int i t,q⟩
def SlR (X:Cx) (r:V->Option Int->Option Int->Hp->VK->Prop):Prop:=
 ∀(pins:List (ah×Obj)) (s:ag) (σ:St) (H:Hp) (x:V) (v vl vu:af) (lo hi:Option Int) (sl:ah) (Q:VK),Inv X pins σ H s->RelV x v->s.heap.IsSliceOf sl vl vu .none->r8 vl lo->r8 vu hi->r x lo hi H Q->
  ∃T id,typeLookup (.type T) "__getitem__" = pure (some (.builtin id))/\s.TypeIs v T/\wpAny (model X.prog X.w) X.A (getItem v (.ref sl)) (EP X pins σ Q) X.xe s
theorem SlR.or {r r':V->Option Int->Option Int->Hp->VK->Prop}(h:SlR X r) (h':SlR X r'):SlR X (λx lo hi H Q=>r x lo hi H Q∨r' x lo hi H Q):=by
 intro pins s σ H x v vl vu lo hi sl Q I rx hs pl pu q
 rcases q with q|q
 ·exact h pins s σ H x v vl vu lo hi sl Q I rx hs pl pu q
 ·exact h' pins s σ H x v vl vu lo hi sl Q I rx hs pl pu q
def OK (r:V->Option Int->Option Int->Hp->VK->Prop) (te:TE) (tl th:TO):TE:=λσ H Q=>te σ H λx H1=>tl σ H1 λl H2=>th σ H2 λu H3=>r x l u H3 Q
theorem OL {r:V->Option Int->Option Int->Hp->VK->Prop}(hr:SlR X r) (he:PE X e te) (hl:PO X lo tl) (hu:PO X hi th):PE X (.Subscript e (.Slice lo hi none p2) pos) (OK r te tl th):=by intro pins s σ H Q I h;refine Subscript_ (aR (he pins s σ H _ I h) λv s1 ⟨x,H1,I1,r1,q1⟩=>?_);refine wpAny_Slice (aR (hl pins s1 σ H1 _ I1 q1) λvl s2 ⟨l,H2,I2,pl,q2⟩=>aR (hu pins s2 σ H2 _ I2 q2) λvu s3 ⟨u,H3,I3,pu,q3⟩=>?_);rw[evalPart_none];refine ai ?_;have I4:Inv X pins σ H3 { s3 with heap:=s3.heap.push { cls:=.type "slice",data:=.fields #[vl,vu,.none] } }:=I3.kept (t':=s3.toks) λb ob q=>aj _ q;obtain⟨T,id,hT,ht,hg⟩:=hr pins { s3 with heap:=s3.heap.push { cls:=.type "slice",data:=.fields #[vl,vu,.none] } } σ H3 x v vl vu l u s3.heap.objs.size Q I4 r1 (Heap.IsSliceOf.new ..) pl pu q3;show wpAny (model X.prog X.w) X.A (subscriptTail e (.Slice lo hi none p2) v (.ref s3.heap.objs.size)) (EP X pins σ Q) X.xe { s3 with heap:=s3.heap.push { cls:=.type "slice",data:=.fields #[vl,vu,.none] } };exact tail_any (ops:=[.ref s3.heap.objs.size,v]) ht hT hg (by with_unfolding_all rfl)
def lN (xs:List V) (lo hi:Option Int):List V:=(xs.drop (HT.sIx xs.length 0 lo)).take (HT.sIx xs.length xs.length hi - HT.sIx xs.length 0 lo)
theorem DI (xs:List V) (lo hi:Option Int):(lN xs lo hi).length<=xs.length:=by unfold lN;rw[iz,ly];omega
def OM (K:ao):V->Option Int->Option Int->Hp->VK->Prop:=λx lo hi H Q=>∃a xs,x=.ref a/\SqT K H a xs /\
 ¬ (HT.sIx xs.length 0 lo=0/\HT.sIx xs.length xs.length hi=xs.length)/\∀p,H p=none->Q (.ref p) (aM H p (.tup (lN xs lo hi)))
theorem ON:SlR X (OM X.K):=by
 intro pins s σ H x v vl vu lo hi sl Q I rx hs pl pu h;obtain⟨a,xs,rfl,hx,hw,q⟩:=h;cases rx;obtain⟨its,r,ht,hz⟩:=I.tuple hx;have hlen:its.toArray.size=xs.length:=by rw[ar];exact r.length.symm
 refine⟨"tuple",_,fg.lookup,ht.typeIs, ?_⟩;refine HT.getItem_tuple_cut ht hs pl pu (by rw[hlen];exact hw) ?_ (by rw[hlen];exact hz);rw[hlen];refine⟨.ref s.heap.objs.size,_,I.laid (t':=s.toks) (o:=.tup (lN xs lo hi)) (λb ob q=>aj _ q) (ak _) ?_,rfl,q _ (I.hok.fresh (ak _))⟩;exact⟨dm (DI xs lo hi) hz,_,(r.drop (HT.sIx xs.length 0 lo)).take (HT.sIx xs.length xs.length hi - HT.sIx xs.length 0 lo),IsTupX.new _ _⟩
def DJ (K:ao):R2:=λx y H Q=>∃a b ns ms,x=.ref a/\y=.ref b/\SqT K H a (ns.map V.int)/\SqT K H b (ms.map V.int)/\Q (.bl (HT.lexLt ns ms)) H
theorem DK (hu:X.A.units<cLine):OpR X (compareOp .Lt) (DJ X.K):=by intro pins s σ H x y v u Q I rx ry h;obtain⟨a,b,ns,ms,rfl,rfl,ha,hb,q⟩:=h;cases rx;cases ry;obtain⟨its,r1,p1,_⟩:=I.tuple ha;obtain⟨its2,r2,p2,_⟩:=I.tuple hb;have i1:kv its.toArray.toList ns:=DH r1;have i2:kv its2.toArray.toList ms:=DH r2;exact HT.lt_tupInts p1 p2 i1 i2 hu ⟨.bl (HT.lexLt ns ms),H,I,rfl,q⟩
def DL (K:ao):R2:=λx y H Q=>∃a b xs ys,x=.ref a/\y=.ref b/\SqT K H a xs/\SqT K H b ys/\xs≠[]/\xs.length+ys.length<=bq /\
 (ys=[]->Q (.ref a) H)/\(ys≠[]->∀p,H p=none->Q (.ref p) (aM H p (.tup (xs++ys))))
theorem Vals.nil_iff {xs:List V}{us:List af}(r:Vals xs us):us=[]↔xs=[]:=by
 cases r with
 |nil=>simp
 |cons _ _=>simp
theorem OO:OpR X (binaryOp .Add) (DL X.K):=by intro pins s σ H x y v u Q I rx ry h;obtain⟨a,b,xs,ys,rfl,rfl,ha,hb,hx,hz,q1,q2⟩:=h;cases rx;cases ry;obtain⟨its,r1,p1,_⟩:=I.tuple ha;obtain⟨its2,r2,p2,_⟩:=I.tuple hb;refine HT.cat_tup p1 p2 (λz=>hx (r1.nil_iff.mp z)) (λz=>⟨.ref a,H,I,rfl,q1 (r2.nil_iff.mp z)⟩) (λz=>?_) (by rw[<-r1.length,<-r2.length];exact hz);refine⟨.ref s.heap.objs.size,_,I.laid (t':=s.toks) (o:=.tup (xs++ys)) (λb ob q=>aj _ q) (ak _) ?_,rfl,q2 (λw=>z (r2.nil_iff.mpr w)) _ (I.hok.fresh (ak _))⟩;exact⟨by rw[bw];exact hz,_,r1.append r2,IsTupX.new _ _⟩
end
def dN (n:Nat) (i:Int):Option Nat:=if 0<=i then(if i<n then some i.toNat else none)else if -(n:Int)<=i then some (i+n).toNat else none
def dW {α:Type}(xs:List α) (i:Int):Option α:=(dN xs.length i).bind λj=>xs[j]?
theorem xK {n:Nat}{i:Int}{j:Nat}(h:dN n i=some j):seqIndex? i n=some j/\j<n/\-(n:Int)<=i/\i<n:=by
 unfold dN at h
 by_cases h0:0<=i
 ·rw[if_pos h0]at h
  by_cases h1:i<n
  ·rw[if_pos h1]at h;have e:i.toNat=j:=cn h;exact⟨by rw[seqIndex_of h0 h1,e],by omega,by omega,h1⟩
  ·rw[if_neg h1]at h;cases h
 ·rw[if_neg h0]at h
  by_cases h1 : -(n:Int)<=i
  ·rw[if_pos h1]at h;have e:(i+n).toNat=j:=cn h;exact⟨by rw[seqIndex_neg (by omega) h1,e],by omega,h1,by omega⟩
  ·rw[if_neg h1]at h;cases h
theorem xM {α:Type}{xs:List α}{i:Int}{v:α}(h:dW xs i=some v):∃j,seqIndex? i xs.length=some j/\xs[j]?=some v/\j<xs.length/\-(xs.length:Int)<=i/\i<xs.length:=by
 unfold dW at h
 cases e:dN xs.length i with
 |none=>rw[e]at h;cases h
 |some j=>rw[e]at h;obtain⟨h1,h2,h3,h4⟩:=xK e;exact⟨j,h1,h,h2,h3,h4⟩
def sU (b:bj):Prop:=∀o i,subscripted b false o i=operate [o,i] (getItem o i)
def IxR (X:Cx) (r:R2):Prop:=
 ∀(value slice:bj) (pins:List (ah×Obj)) (s:ag) (σ:St) (H:Hp) (x y:V) (v u:af) (Q:VK),Inv X pins σ H s->RelV x v->RelV y u->r x y H Q->
  subscripted slice false v u=operate [v,u] (getItem v u)->wpAny (model X.prog X.w) X.A (subscriptTail value slice v u) (EP X pins σ Q) X.xe s
def sV (X:Cx) (id:String) (r:V->List V->Hp->VK->Prop):Prop:=
 ∀(pins:List (ah×Obj)) (s:ag) (σ:St) (H:Hp) (x:V) (xs:List V) (v:af) (us:List af) (Q:VK),Inv X pins σ H s->RelV x v->Vals xs us->r x xs H Q->
  wpAny (model X.prog X.w) X.A (call (.builtin id) (v::us)) (EP X pins σ Q) X.xe s
section
variable{X:Cx}{a b:bj}{ta tb:TE}{pos:Pos}
theorem IxR.or {r r':R2}(h:IxR X r) (h':IxR X r'):IxR X (λx y H Q=>r x y H Q∨r' x y H Q):=by
 intro value slice pins s σ H x y v u Q I rx ry q hs
 rcases q with q|q
 ·exact h value slice pins s σ H x y v u Q I rx ry q hs
 ·exact h' value slice pins s σ H x y v u Q I rx ry q hs
theorem xN {r:R2}(hr:IxR X r) (ha:PE X a ta) (hb:PE X b tb) (hs:sU b):PE X (.Subscript a b pos) (pM r ta tb):=by intro pins s σ H Q I h;exact Subscript_ (xG ha hb I h λv u s2 x y H2 I2 rx ry q=>hr a b pins s2 σ H2 x y v u Q I2 rx ry q (hs _ _))
def DM (K:ao):R2:=λx y H Q=>∃p xs i v,x=.ref p/\y=.int i/\SqL K H p xs/\dW xs i=some v/\Q v H
def DN (K:ao):R2:=λx y H Q=>∃p xs i v,x=.ref p/\y=.int i/\SqT K H p xs/\dW xs i=some v/\Q v H
def xO:R2:=λx y H Q=>∃z i c,x=.str z/\y=.int i/\z.length<=bq/\dW z.cps.toList i=some c/\Q (.str ⟨#[c]⟩) H
theorem ix_list:IxR X (DM X.K):=by
 intro value slice pins s σ H x y v u Q I rx ry h hs;obtain⟨p,xs,i,z,rfl,rfl,hq,he,q⟩:=h;cases rx;obtain⟨t,rfl⟩:=ry;obtain⟨its,r,pl,hz⟩:=I.list hq;obtain⟨j,h1,h2,h3,h4,h5⟩:=xM he;obtain⟨w,ew,rw'⟩:=r.get h2;have hl:=r.length;have hn:=mQ;have fin:EP X pins σ Q w s:=⟨z,H,I,rw',q⟩
 by_cases h0:0<=i
 ·have hj:i.toNat=j:=by rw[seqIndex_of h0 h5]at h1;exact cn h1
  exact item_listR pl.isList h0 (by omega) (by rw[hj];simpa using ew) fin hs
 ·have hj:(i+(its.toArray.size:Int)).toNat=j:=by rw[seqIndex_neg (by omega) h4]at h1;rw[ar,<-hl];exact cn h1
  exact subscriptTail_builtinR (x:=w) pl.isList.typeIs slot_list_getitem.lookup
   (wpAny_getItem_list_neg (Q:=λr s'=>r=w/\EP X pins σ Q r s') pl.isList (by omega) (by rw[ar] <;> omega) (by omega) (by rw[hj];simpa using ew) ⟨rfl,fin⟩) hs
theorem ix_tup:IxR X (DN X.K):=by
 intro value slice pins s σ H x y v u Q I rx ry h hs;obtain⟨p,xs,i,z,rfl,rfl,hq,he,q⟩:=h;cases rx;obtain⟨t,rfl⟩:=ry;obtain⟨its,r,pl,hz⟩:=I.tuple hq;obtain⟨j,h1,h2,h3,h4,h5⟩:=xM he;obtain⟨w,ew,rw'⟩:=r.get h2;have hl:=r.length;have hn:=mQ;have fin:EP X pins σ Q w s:=⟨z,H,I,rw',q⟩
 exact subscriptTail_builtinR (x:=w) pl.typeIs slot_tuple_getitem.lookup
  (getItem_tuple (j:=j) (Q:=λr s'=>r=w/\EP X pins σ Q r s') pl (by omega) (by omega) (by rw[ar,<-hl];exact h1) (by simpa using ew) ⟨rfl,fin⟩) hs
theorem DO:IxR X xO:=by
 intro value slice pins s σ H x y v u Q I rx ry h hs;obtain⟨z,i,c,rfl,rfl,hz,he,q⟩:=h;obtain⟨t,rfl⟩:=rx;obtain⟨t',rfl⟩:=ry;obtain⟨j,h1,h2,h3,h4,h5⟩:=xM he;have hl:z.cps.toList.length=z.length:=by simp[Str.length]
 rw[hl]at h1 h4 h5;have hn:=mQ;exact tail_any (typeIs_str s z t) slot_str_getitem.lookup (getItem_str (c:=c) (by have e1:decide (i < -(2 ^ 63:Int))=false:=decide_eq_false (by omega);have e2:decide (i>=2 ^ 63)=false:=decide_eq_false (by omega);rw[e1,e2,Bool.or_false]) (by rw[h1];simpa using h2) ⟨.str ⟨#[c]⟩,H,I.tok _,⟨_,rfl⟩,q⟩) hs
def xP (K:ao):R2:=λx y H Q=>DM K x y H Q∨DN K x y H Q∨xO x y H Q
theorem DP:IxR X (xP X.K):=ix_list.or (ix_tup.or DO)
theorem OP (its:List af) (n j:Nat) (u:af):mm (·.setIfInBounds j u) { cls:=.type "list",data:=.seq its.toArray n }={ cls:=.type "list",data:=.seq (its.set j u).toArray n }:=by simp[mm]
theorem Inv.lst {pins:List (ah×Obj)}{σ:St}{H:Hp}{s:ag}{p:ah}{xs:List V}(I:Inv X pins σ H s) (h:H p=some (.lst xs)):
  ∃(its:List af) (n:Nat),Vals xs its/\s.heap.get? p=some { cls:=.type "list",data:=.seq its.toArray n }/\xs.length<=bq:=by
 obtain⟨z,its,n,r,e⟩:=I.hok p _ h;exact⟨its,n,r,e,z⟩
theorem Inv.lstUpd {pins:List (ah×Obj)}{σ:St}{H:Hp}{s:ag}{p:ah}{xs ys:List V}{its its':List af}{n n':Nat}{f:Obj->Obj}(I:Inv X pins σ H s) (h:H p=some (.lst xs))
  (ho:s.heap.get? p=some { cls:=.type "list",data:=.seq its.toArray n }) (hf:f { cls:=.type "list",data:=.seq its.toArray n }={ cls:=.type "list",data:=.seq its'.toArray n' }) (r:Vals ys its') (hz:ys.length<=bq) (t:Nat):
  Inv X pins σ (aM H p (.lst ys)) { s with heap:=s.heap.update p f,toks:=t }:=by
 have e:(s.heap.update p f).get? p=some { cls:=.type "list",data:=.seq its'.toArray n' }:=by rw[lx f ho (by rw[hf] <;> rfl),hf]
 refine I.write (x:=p) (e:=p) (by rw[h];trivial) (.inl rfl) (λb u hb q=>(lb _ _ (cz hb)).trans q) ⟨_,e⟩ ?_;exact⟨hz,its',n',r,e⟩
def OQ:V->V->V->Hp->(Hp->Prop)->Prop:=λo i v H Q=>∃p xs k j,o=.ref p/\i=.int k/\H p=some (.lst xs)/\dN xs.length k=some j/\Q (aM H p (.lst (xs.set j v)))
theorem OR:CH X OQ:=by
 intro pins s σ H o i v ov iv u Q I ro ri rv h;obtain⟨p,xs,k,j,rfl,rfl,hp,hj,q⟩:=h;cases ro;obtain⟨t,rfl⟩:=ri;obtain⟨its,n,r,ho,hz⟩:=I.lst hp;obtain⟨h1,h2,h3,h4⟩:=xK hj;have hl:=r.length;have hn:=mQ;have I':Inv X pins σ (aM H p (.lst (xs.set j v))) { s with heap:=s.heap.update p (mm (·.setIfInBounds j u)) }:=I.lstUpd hp ho (OP its n j u) (r.set rv j) (by rw[jr];exact hz) s.toks
 by_cases h0:0<=k
 ·have hk:k.toNat=j:=by rw[seqIndex_of h0 h4]at h1;exact cn h1
  exact PySem.W.ki_setAt ho h0 (by omega) (by rw[ar,<-hl];exact h4) (by rw[hk];exact⟨_,I',q⟩)
 ·have hk:(k+(its.toArray.size:Int)).toNat=j:=by rw[seqIndex_neg (by omega) h3]at h1;rw[ar,<-hl];exact cn h1
  exact PySem.W.ki_setBack ho (by omega) (by rw[ar,<-hl];exact h3) (by omega) (by rw[hk];exact⟨_,I',q⟩)
theorem OS (lo hi:Option Int) (n:Nat):(sliceBounds lo hi none n).1=((HT.sIx n 0 lo:Nat):Int)/\(sliceBounds lo hi none n).2.1=((HT.sIx n n hi:Nat):Int)/\(sliceBounds lo hi none n).2.2=1:=by
 refine⟨?_, ?_,rfl⟩
 ·cases lo with
  |none=>simp[sliceBounds,HT.sIx]
  |some i=>
   simp only[sliceBounds,HT.sIx,Option.getD_none,show(1:Int)>0 by decide,if_true]
   by_cases h:i<0
   ·simp only[h,if_true] <;> omega
   ·simp only[h,if_false] <;> omega
 ·cases hi with
  |none=>simp[sliceBounds,HT.sIx]
  |some i=>
   simp only[sliceBounds,HT.sIx,Option.getD_none,show(1:Int)>0 by decide,if_true]
   by_cases h:i<0
   ·simp only[h,if_true] <;> omega
   ·simp only[h,if_false] <;> omega
theorem OT (its:List af) (lo hi:Option Int):slicePick its.toArray lo hi none=((its.drop (HT.sIx its.length 0 lo)).take (HT.sIx its.length its.length hi - HT.sIx its.length 0 lo)).toArray:=by obtain⟨h1,h2,h3⟩:=OS lo hi its.toArray.size;unfold slicePick;rw[h1,h2,h3];simp only[sliceRange_one,pick_run,ar] <;> rfl
def OU (K:ao):V->Option Int->Option Int->Hp->VK->Prop:=λx lo hi H Q=>∃a xs,x=.ref a/\SqL K H a xs/\∀p,H p=none->Q (.ref p) (aM H p (.lst (lN xs lo hi)))
theorem OV:SlR X (OU X.K):=by intro pins s σ H x v vl vu lo hi sl Q I rx hs pl pu h;obtain⟨a,xs,rfl,hx,q⟩:=h;cases rx;obtain⟨its,r,ht,hz⟩:=I.list hx;have hlen:=r.length;refine⟨"list",_,slot_list_getitem.lookup,ht.isList.typeIs, ?_⟩;refine wpAny_getItem_list_slice ht.isList hs pl pu .none (by simp) ?_ (by rw[ar] <;> omega);rw[OT,<-hlen];refine⟨.ref s.heap.objs.size,_,I.laid (t':=s.toks) (o:=.lst (lN xs lo hi)) (λb ob q=>aj _ q) (ak _) ?_,rfl,q _ (I.hok.fresh (ak _))⟩;exact⟨dm (DI xs lo hi) hz,_,0,(r.drop (HT.sIx xs.length 0 lo)).take (HT.sIx xs.length xs.length hi - HT.sIx xs.length 0 lo),ay _ rfl⟩
theorem DQ:CallR X (.builtin "len") (λxs H Q=>∃p ys,xs=[.ref p]/\(SqL X.K H p ys∨SqT X.K H p ys)/\Q (.int ys.length) H):=by
 intro pins s σ H xs us Q I r h;obtain⟨p,ys,rfl,hq,q⟩:=h;obtain⟨u,rfl,rx⟩:=gI r;cases rx;have hn:=mQ
 rcases hq with hq|hq
 ·obtain⟨its,r',pl,hz⟩:=I.list hq;have hlen:=r'.length;exact yy pl.isList (by simp only[ar] <;> omega) ⟨.int ys.length,H,I.tok _,⟨s.toks+1,by rw[ar,hlen]⟩,q⟩
 ·obtain⟨its,r',pl,hz⟩:=I.tuple hq;have hlen:=r'.length;exact len_tuple pl (by simp only[ar] <;> omega) ⟨.int ys.length,H,I.tok _,⟨s.toks+1,by rw[ar,hlen]⟩,q⟩
theorem OW:CallR X (.type "list") (λxs H Q=>∃p ys,xs=[.ref p]/\(SqL X.K H p ys∨SqT X.K H p ys)/\∀l,H l=none->Q (.ref l) (aM H l (.lst ys))):=by
 intro pins s σ H xs us Q I r h;obtain⟨p,ys,rfl,hq,q⟩:=h;obtain⟨u,rfl,rx⟩:=gI r;cases rx;have fin:∀(its:List af),Vals ys its->ys.length<=bq->∀(h':ck) (c':Nat),(∀b o',s.heap.get? b=some o'->h'.get? b=some o')->
   h'.get? s.heap.objs.size=some { cls:=.type "list",dict:=none,data:=.seq its.toArray c',slots:=#[] }->EP X pins σ Q (.ref s.heap.objs.size) { s with heap:=h' }:=λits r' hz h' c' kp e=>
  ⟨.ref s.heap.objs.size,_,I.laid (t':=s.toks) kp (ak _) (show ObjOk X.prog X.w _ h' _ (.lst ys) from⟨hz,its,c',r',e⟩),rfl,q _ (I.hok.fresh (ak _))⟩
 rcases hq with hq|hq
 ·obtain⟨its,r',pl,hz⟩:=I.list hq;have hlen:=r'.length;obtain⟨o,ho,hc,n,hd⟩:=pl.isList;exact call_list_seq p (.inl rfl) ho hc hd (λh' c' kp e=>fin its r' hz h' c' kp e) (by simp only[ar] <;> omega)
 ·obtain⟨its,r',pl,hz⟩:=I.tuple hq;have hlen:=r'.length;obtain⟨o,ho,hc,n,hd⟩:=pl;exact call_list_seq p (.inr rfl) ho hc hd (λh' c' kp e=>fin its r' hz h' c' kp e) (by simp only[ar] <;> omega)
theorem DR:CallR X (.type "tuple") (λxs H Q=>∃p ys,xs=[.ref p]/\((SqL X.K H p ys/\∀l,H l=none->Q (.ref l) (aM H l (.tup ys)))∨(SqT X.K H p ys/\Q (.ref p) H))):=by
 intro pins s σ H xs us Q I r h;obtain⟨p,ys,rfl,h⟩:=h;obtain⟨u,rfl,rx⟩:=gI r;cases rx
 rcases h with⟨hq,q⟩|⟨hq,q⟩
 ·obtain⟨its,r',pl,hz⟩:=I.list hq;have hlen:=r'.length;refine call_tuple_list pl.isList (λh' kp=>?_) (by simp only[ar] <;> omega);have I1:Inv X pins σ H { s with heap:=h' }:=I.kept (t':=s.toks) kp;have I2:Inv X pins σ (aM H h'.objs.size (.tup ys)) { s with heap:=h'.push { cls:=.type "tuple",data:=.seq its.toArray } }:=I1.laid (t':=s.toks) (λb o e=>aj _ e) (ak _) (show ObjOk X.prog X.w _ _ _ (.tup ys) from⟨hz,its,r',IsTupX.new _ _⟩);exact⟨.ref h'.objs.size,_,I2,rfl,q _ (I1.hok.fresh (ak _))⟩
 ·obtain⟨its,r',pl,hz⟩:=I.tuple hq;exact call_tuple_same pl ⟨.ref p,H,I,rfl,q⟩
def sW (K:ao) (T:String) (x:V) (H:Hp):Prop:=match x with
 | .str _=>T = "str"
 | .int _=>T = "int"
 | .ref p=>(T = "list"/\∃xs,SqL K H p xs)∨(T = "tuple"/\∃o,K.lookup p=some o/\o.cls=.type "tuple"/\o.dict=none) ∨
   (T = "dict"/\((∃kvs,H p=some (.dK kvs))∨∃kvs,H p=some (.dT kvs)))∨(T = "set"/\∃S n,H p=some (.set S n))
 |_=>False
theorem OX {pins:List (ah×Obj)}{σ:St}{H:Hp}{s:ag}{T:String}{x:V}{v:af}(I:Inv X pins σ H s) (r:RelV x v) (ty:sW X.K T x H):
  s.TypeIs v T/\∀a,v=.ref a->∃ob,s.heap.get? a=some ob/\ob.dict=none:=by
 cases x with
 |str z=>
  obtain⟨t,rfl⟩:=r
  cases (show T = "str" from ty)
  exact⟨typeIs_str s z t,λ_ e=>nomatch e⟩
 |int i=>
  obtain⟨t,rfl⟩:=r
  cases (show T = "int" from ty)
  exact⟨typeIs_int s i t,λ_ e=>nomatch e⟩
 |ref p=>
  cases r
  rcases ty with⟨rfl,xs,hq⟩|⟨rfl,o,hk,hc,hd⟩|⟨rfl,hk⟩|⟨rfl,S,n,hk⟩
  ·obtain⟨its,_,pl,_⟩:=I.list hq;refine⟨pl.isList.typeIs,λa e=>?_⟩;cases e;obtain⟨o,n,e,c,hd,_⟩:=pl;exact⟨o,e,hd⟩
  ·refine⟨⟨o,I.kIn p o hk,hc⟩,λa e=>?_⟩;cases e;exact⟨o,I.kIn _ o hk,hd⟩
  ·have z:∃o,s.heap.get? p=some o/\o.ExactDict:=by
    rcases hk with⟨kvs,hk⟩|⟨kvs,hk⟩
    ·obtain⟨_,_,_,_,o,_,_,e,ex,_⟩:=I.hok p _ hk;exact⟨o,e,ex⟩
    ·obtain⟨_,_,_,_,o,_,_,e,ex,_⟩:=I.hok p _ hk;exact⟨o,e,ex⟩
   obtain⟨o,e,ex⟩:=z;refine⟨⟨o,e,ex.1⟩,λa e2=>?_⟩;cases e2;exact⟨o,e,ex.2.1⟩
  ·obtain⟨o,_,_,_,e,ex,_⟩:=I.hok p _ hk;refine⟨⟨o,e,ex.1⟩,λa e2=>?_⟩;cases e2;exact⟨o,e,ex.2.1⟩
 |_=>exact gb ty
def OY (K:ao) (T:String) (r:V->List V->Hp->VK->Prop) (to:TE) (t:TA):TE:=λσ H Q=>to σ H λx H1=>sW K T x H1/\t σ H1 λxs H2=>r x xs H2 Q
variable{o e:bj}{es:List bj}{to:TE}{t:TA}{name:Str}{apos cpos:Pos}{T id:String}{r:V->List V->Hp->VK->Prop}
theorem xQ (pa:PlainAttrs T) (slot:Slot T name id) (hty:typeOf (.builtin id)=pure (.type "method_descriptor")) (hm:sV X id r) (ho:PE X o to) (ha:PA X (e::es) t)
  (hbase:attributeBase o name X.env (eval o X.env)=eval o X.env:=by rfl)
  (hfew:((backTo cpos (aq (e::es) X.env)).all (λx=>!x.1)&&(backToKw cpos (keywordEach [] X.env)).all (λx=>x.1.isSome)
   && decide ((e::es).length+([]:List Keyword).length+(if([]:List Keyword).isEmpty then 0 else 1)<30))=true:=by rfl)
  (hline:(apos.endLine==cpos.line)=true:=by rfl) (hs:aq (e::es) X.env=(false,eval e X.env)::aq es X.env:=by rfl) (hplain:(backTo cpos (aq es X.env)).any (·.1)=false:=by rfl):
  PE X (.Call (.Attribute o name apos) (e::es) [] cpos) (OY X.K T r to t):=by
 intro pins s σ H Q I h;refine wpAny_Call_method_late hbase hfew hline rfl (aR (ho pins s σ H _ I h) λv s1 ⟨x,H1,I1,r1,ty,q1⟩=>?_);obtain⟨h1,h2⟩:=OX I1 r1 ty;refine⟨T,id,pa,slot,hty,h1,h2, ?_⟩;have hA:=ha cpos pins s1 σ H1 _ I1 q1;rw[hs]at hA ⊢;refine yb (by show(false||(backTo cpos (aq es X.env)).any (·.1))=false;rw[hplain] <;> rfl) (qf ?_);exact aR hA λus s2 ⟨vs,H2,I2,r2,q2⟩=>hm pins s2 σ H2 x vs v us Q I2 r1 r2 q2
end
def xR (X:Cx) (id:String) (r:V->List V->Hp->VK->Prop):Prop:=
 ∀(pins:List (ah×Obj)) (s:ag) (σ:St) (H:Hp) (x:V) (xs:List V) (v:af) (us:List af) (Q:VK),Inv X pins σ H s->RelV x v->Vals xs us->r x xs H Q->
  wpAny (model X.prog X.w) X.A (call (.builtin id) (v::us)) (EP X pins σ Q) X.xe s
theorem Vals.one:∀{x:V}{us:List af},Vals [x] us->∃u,us=[u]/\RelV x u
 |_,_,.cons r .nil=>⟨_,rfl,r⟩
theorem Vals.eraseIdx:∀{xs:List V}{us:List af}(i:Nat),Vals xs us->Vals (xs.eraseIdx i) (us.eraseIdx i)
 |_,_,_,.nil=>.nil
 |_,_,0,.cons _ t=>t
 |_,_,i+1,.cons r t=>.cons r (Vals.eraseIdx i t)
theorem DS {α:Type}:∀(l:List α) (i:Nat),(l.eraseIdx i).length<=l.length
 | [],_=>ak _
 |_::_,0=>Nat.le_succ _
 |_::r,i+1=>Nat.succ_le_succ (DS r i)
section
variable{X:Cx}{pins:List (ah×Obj)}{σ:St}{H:Hp}{s:ag}{l b:ah}{xs ys zs:List V}
theorem Inv.lset {its its':List af}{n:Nat}{f:Array af->Array af}{t':Nat}(I:Inv X pins σ H s) (hH:H l=some (.lst xs))
  (e:s.heap.get? l=some { cls:=.type "list",data:=.seq its.toArray n }) (hf:f its.toArray=its'.toArray) (hv:Vals ys its') (hz:ys.length<=bq):
  Inv X pins σ (aM H l (.lst ys)) { s with heap:=s.heap.update l (mm f),toks:=t' }:=by
 have q:=yn e f;rw[hf]at q;refine I.write (x:=l) (e:=l) (by rw[hH];exact trivial) (.inl rfl) (λb' u hb hu=>(lb s.heap (mm f) (cz hb)).trans hu) ⟨_,q⟩ ?_;exact⟨hz,its',_,hv,q⟩
theorem Inv.lnew {its:List af}{t':Nat}(I:Inv X pins σ H s) (hv:Vals ys its) (hz:ys.length<=bq):
  Inv X pins σ (aM H s.heap.objs.size (.lst ys)) { s with heap:=s.heap.push { cls:=.type "list",data:=.seq its.toArray },toks:=t' }:=
 I.laid (λ_ _ q=>aj _ q) (ak _) ⟨hz,its,0,hv,ay _ rfl⟩
theorem Inv.fresh (I:Inv X pins σ H s):H s.heap.objs.size=none:=I.hok.fresh (ak _)
theorem Inv.lstM (I:Inv X pins σ H s) (hH:H l=some (.lst xs)):xs.length<=bq/\∃(its:List af) (n:Nat),Vals xs its/\xs.length=its.length/\s.heap.get? l=some { cls:=.type "list",data:=.seq its.toArray n }:=by obtain⟨z,its,n,r,e⟩:=I.hok l _ hH;exact⟨z,its,n,r,r.length,e⟩
theorem OZ {n:Nat}(h:n<=bq):mz n=false:=by unfold mz;exact decide_eq_false (by omega)
end
section
variable{X:Cx}
def O2:V->List V->Hp->VK->Prop:=λx vs H Q=>∃l xs y,x=.ref l/\vs=[y]/\H l=some (.lst xs)/\xs.length<bq/\Q .non (aM H l (.lst (xs++[y])))
theorem O3:xR X "list.append" O2:=by intro pins s σ H x vs v us Q I rx rv h;obtain⟨l,xs,y,rfl,rfl,hH,hz,q⟩:=h;cases rx;obtain⟨u,rfl,ru⟩:=rv.one;obtain⟨z,its,n,r,hl,e⟩:=I.lstM hH;refine yo F.slot_list_append ⟨_,e,rfl⟩ F.entry_list_append (F.args_list_append_2 _ _) (PySem.list_append l its.toArray n u (by rw[ar];omega)) ⟨e, ?_⟩;refine⟨.non,_,I.lset (its':=its++[u]) hH e (by simp) (r.append (.cons ru .nil)) ?_,rfl,q⟩;rw[bw,yp];omega
def O4:V->List V->Hp->VK->Prop:=λx vs H Q=>∃l b xs zs,x=.ref l/\vs=[.ref b]/\H l=some (.lst xs)/\H b=some (.lst zs)/\xs.length+zs.length<=bq/\Q .non (aM H l (.lst (xs++zs)))
theorem O5:xR X "list.extend" O4:=by
 intro pins s σ H x vs v us Q I rx rv h;obtain⟨l,b,xs,zs,rfl,rfl,hH,hB,hz,q⟩:=h;cases rx;obtain⟨u,rfl,ru⟩:=rv.one;cases ru;obtain⟨z,its,n,r,hl,e⟩:=I.lstM hH;obtain⟨z2,its2,n2,r2,hl2,e2⟩:=I.lstM hB;have hsz:its.toArray.size+its2.toArray.size<=bq:=by rw[ar,ar];omega
 have hlong:¬ (!its.toArray.isEmpty&&mz (its.toArray.size+its2.toArray.size))=true:=by rw[OZ hsz,nq];exact ib
 refine yo F.slot_list_extend ⟨_,e,rfl⟩ F.entry_list_extend (F.args_list_extend_2 _ _)
  (AutoSeq1.list_extend_list_list_0 l its.toArray n b its2.toArray n2 hlong (by rw[ar];omega) (by omega)) ⟨e,e2, ?_⟩
 refine⟨.non,_,I.lset (its':=its++its2) hH e (by simp) (r.append r2) ?_,rfl,q⟩;rw[bw];omega
def O6:V->List V->Hp->VK->Prop:=λx vs H Q=>∃l xs i k y,x=.ref l/\vs=[.int i]/\H l=some (.lst xs)/\-(2 ^ 63)<=i/\i<2 ^ 63/\seqIndex? i xs.length=some k/\xs[k]?=some y/\Q y (aM H l (.lst (xs.eraseIdx k)))
theorem O7:xR X "list.pop" O6:=by
 intro pins s σ H x vs v us Q I rx rv h;obtain⟨l,xs,i,k,y,rfl,rfl,hH,h1,h2,hk,hy,q⟩:=h;cases rx;obtain⟨u,rfl,ru⟩:=rv.one;obtain⟨t,rfl⟩:=ru;obtain⟨z,its,n,r,hl,e⟩:=I.lstM hH;obtain⟨w,hw,rw'⟩:=r.get hy;refine yo F.slot_list_pop ⟨_,e,rfl⟩ F.entry_list_pop (F.args_list_pop_2 _ _)
  (MeetsSeq.list_pop_at l its.toArray n i t k w (fitsIndex_both h1 h2) (by rw[ar,<-hl];exact hk) (by rw[<-lr];exact hw) (by rw[ar];omega)) ⟨e, ?_⟩
 refine⟨y,_,I.lset (its':=its.eraseIdx k) hH e ?_ (r.eraseIdx k) ?_,rw',q⟩
 ·show its.toArray.eraseIdxIfInBounds k=(its.eraseIdx k).toArray;rw[List.eraseIdxIfInBounds_toArray]
 ·have:=DS xs k;omega
def DT:R2:=λx y H Q=>∃l b xs zs,x=.ref l/\y=.ref b/\H l=some (.lst xs)/\H b=some (.lst zs)/\xs.length+zs.length<=bq/\∀p,H p=none->Q (.ref p) (aM H p (.lst (xs++zs)))
theorem op_cat:OpR X (binaryOp .Add) DT:=by
 intro pins s σ H x y v u Q I rx ry h;obtain⟨l,b,xs,zs,rfl,rfl,hH,hB,hz,q⟩:=h;cases rx;cases ry;obtain⟨z,its,n,r,hl,e⟩:=I.lstM hH;obtain⟨z2,its2,n2,r2,hl2,e2⟩:=I.lstM hB;refine PySem.P.add_list e e2 ?_ (by rw[ar,ar];omega);have ea:its.toArray++its2.toArray=(its++its2).toArray:=by simp
 rw[ea];exact⟨.ref _,_,I.lnew (t':=s.toks) (r.append r2) (by rw[bw];omega),rfl,q _ I.fresh⟩
end
section
variable{prog:bf}{w:cg}{A:cf}{E:af->ag->Prop}{s:ag}
set_option maxRecDepth 100000 in
end
section
variable{X:Cx}
end
end L2
namespace Att
open PySem PySem.W PySem.Calls PyProof.Rows
theorem O8 {P:Params}{h:ck}:∀(ns:List Int) (vs:List af),WellAll P h vs (ns.map WData.int)->kv vs ns:=by
 intro ns
 induction ns with
 |nil=>intro vs w;rw[List.map_nil]at w;cases w;exact .nil
 |cons n ns ih=>
  intro vs w;rw[da]at w
  cases w with
  |cons a b=>cases a;exact .cons _ _ (ih _ b)
theorem O9 {l:OpenLaw}{n:Nat}(hn:l.most=some n) {P:Params}{h:ck}{args:List WData}{vals:List af}
  (hpre:l.row.toRowW.claim.pre args=true) (hwl:WellAll P h vals args):
  ∃a vs ns,vals=[gh a]/\args=[WData.list (ns.map WData.int)]/\h.get? a=some { cls:=.type "list",data:=.seq vs.toArray }/\kv vs ns/\ns.length<=n:=by
 have hsh:WShape.hasAll [] args [.list .int]=true:=(pre_splitW hpre).1;have hc:l.pre.holds [] { args:=args }=true:=(pre_splitW hpre).2;obtain⟨d,r,rfl,h1,h2⟩:=hasAllW_cons hsh;obtain rfl:=hasAllW_nil h2;obtain⟨xs,rfl,h3⟩:=hasW_list h1;obtain⟨ns,rfl⟩:=items_int h3;have hlen:ns.length<=n:=by
  unfold OpenLaw.pre at hc;have h4:(WTm.not (.lt (.lit (.int (n:Int))) (.len (.arg 0)))).holds [] { args:=[.list (ns.map .int)] }=true:=by have h4:=(holds_andW hc).1;rw[hn]at h4;exact h4
  have h5:=condW_of h4 (w_not (w_lt w_lit (w_len_list (w_arg rfl))));rw[bh]at h5;refine Nat.le_of_not_lt λq=>?_;have q':(n:Int)<((ns.length:Nat):Int):=by omega
  first
   |(rw[decide_eq_true q']at h5;exact absurd h5 (by decide))
   |(simp at h5;omega)
 cases hwl with
 |cons w1 w2=>
  cases w2
  cases w1 with
  |list ho hall=>exact⟨_,_,ns,rfl,rfl,ho,O8 ns _ hall,hlen⟩
theorem PB (l:OpenLaw) (args:List WData):l.row.toRowW.claim.post args (.bool true) args=true:=
 postW_of (r:=l.row.toRowW) (X:=(true==true))
  (show WShape.has [] (.bool true) .bool=true by first|rfl|decide|simp[WShape.has,WShape.arms,WShape.armsAll])
  (show(WTm.eq .res (.lit (.bool true))).value [] { args:=args,res:=some (.bool true),after:=args }=some (.bool (true==true)) from w_eq_bool (w_res rfl) w_lit) rfl
theorem attach_call {l:OpenLaw}{n:Nat}{q:bf}{loose:List Str}{XP:(Str->Option af)->ck->Prop}{YP:cg->ck->Prop}{d:DefRec}
  (hn:l.most=some n) (hdf:d.params.defaults=[])
  (call:∀(w:cg) (s₀ s₁:ag) (mg mb:Str->Option af) (fa:ah) (o:Obj) (pm cd doc:af) (a:ah) (vs:List af) (ns:List Int),
   Ground q loose [] XP w s₀ mg mb s₁.heap->YP w s₁.heap->
   s₁.heap.get? fa=some o->o.data=.func (docDef d.name d.params d.body d.scope pm cd doc)->s₁.heap.CodeRec cd d.name->mg d.name=some (.ref fa)->
   s₁.heap.get? a=some { cls:=.type "list",data:=.seq vs.toArray }->kv vs ns->ns.length<=n->s₁.gens=#[]->
   codeAny (model l.prog w) callerA (.call (.ref fa) ⟨[.ref a],[]⟩) (λr s'=>r=.ok (.ret (.bool true))/\OldK s₁.heap s'.heap/\s'.os=s₁.os/\ph s'.gens) s₁):
  WalkO q loose XP YP l.row.toRowW d [] (λf vs=>PySem.call f vs):=by
 intro w s₀ s₁ mg mb G Y fa o pm cd doc dV kV ho hd hcd hD hmg hg args vals as hpre hlay hrd hwl hlo;obtain rfl:dV=.none:=Dflts.none hD hdf;obtain rfl:kV=.none:=Dflts.noKw hD;obtain⟨a,vs,ns,rfl,rfl,hobj,hints,hlen⟩:=O9 hn hpre hwl;refine enter_call (md (call w s₀ s₁ mg mb fa o pm cd doc a vs ns G Y ho (fd_plain hd) hcd hmg hobj hints hlen hg) λr s' hq=>?_);obtain⟨rfl,h2,h3,h4⟩:=hq;exact⟨.inl ⟨.bool true,.bool true,[],rfl,λ_=>rfl,.bool true,PB l _,λ_=>⟨uj,λ_ hm=>(nomatch hm)⟩⟩,h2,h3,h4⟩
section
variable{prog:bf}{w:cg}{A:cf}{E:af->ag->Prop}{s:ag}{K:Frag}
end
end Att
namespace L2
open PySem PySem.Spec PyProof.Rows
theorem DU:∀{vs:List af}{ns:List Int},kv vs ns->Vals (ns.map V.int) vs
 |_,_,.nil=>.nil
 |_,_,.cons n t h=>.cons ⟨t,rfl⟩ (DU h)
def lO (s:gy):jz:=match s with
 | .FunctionDef _ a _ _ _ _ _ _ _ _=>a
 |_=>{ posonlyargs:=[],args:=[],vararg:=none,kwonlyargs:=[],kw_defaults:=[],kwarg:=none,defaults:=[] }
def gU (s:gy):List gy:=match s with
 | .FunctionDef _ _ b _ _ _ _ _ _ _=>b
 |_=>[]
def aT (s:gy):gn:=match s with
 | .FunctionDef _ _ _ _ _ _ sc _ _ _=>sc
 |_=>{ kind:=.function,names:=[],isGenerator:=false,isCoroutine:=false }
abbrev E0:XK:=λ_ _ _=>False
structure Fun (K:ao) (x qual:Str) (st:gy) (f:ah) (fd:bp):Prop where
 ex:∃(oc:af) (od:Option ah) (kV doc pm:af) (an:Option ah) (cdv ct:af) (osl:Array (Option af)),
  fd=mw x qual (lO st) (gU st) (aT st) .none kV doc pm an cdv ct/\K.lookup f=some ⟨oc,od,.func fd,osl⟩/\tq K cdv qual=true
 kp:jt K (.ref f)=true
section
variable{P:bf}{w:cg}{K:ao}{mg:Str->Option af}{base:ck}
theorem Fun.binds {x qual:Str}{st:gy}{f:ah}{fd:bp}{ps:List Str}(F:Fun K x qual st f fd)
  (h:∀(kV doc pm:af) (an:Option ah) (cdv ct:af) (us:List af),us.length=ps.length->bindArgs (mw x qual (lO st) (gU st) (aT st) .none kV doc pm an cdv ct) ⟨us,[]⟩=pure (ps.zip us)):Binds K fd ps []:=by
 obtain⟨oc,od,kV,doc,pm,an,cdv,ct,osl,rfl,lk,hcd⟩:=F.ex;exact .all (h kV doc pm an cdv ct)
theorem DV {x qual:Str}{st:gy}{f:ah}{oc:af}{od an:Option ah}{osl:Array (Option af)}{kV doc pm cdv ct:af}(l:K.lookup f=some ⟨oc,od,.func (mw x qual (lO st) (gU st) (aT st) .none kV doc pm an cdv ct),osl⟩)
  (c:tq K cdv qual=true) (k:jt K (.ref f)=true):Fun K x qual st f (mw x qual (lO st) (gU st) (aT st) .none kV doc pm an cdv ct):=⟨⟨oc,od,kV,doc,pm,an,cdv,ct,osl,rfl,l,c⟩,k⟩
end
section
variable{X:Cx}
end
theorem DW {A B:Prop}(h:B):if false=true then A else B:=by rw[if_neg ib];exact h
theorem DX {A B:Prop}(h:A):if true=true then A else B:=by rw[if_pos rfl];exact h
def Same (H H':Hp):Prop:=∀b o,H b=some o->H' b=some o
theorem Same.refl (H:Hp):Same H H:=λ_ _ h=>h
theorem sX {β:Type}(x y:Str) (c:β) (acc:List (Str×β)):((y,c)::acc).lookup x=if x=y then some c else acc.lookup x:=by
 rw[gu]
 by_cases e:x=y
 ·have hb:(x==y)=true:=beq_iff_eq.mpr e;rw[hb,if_pos e]
 ·have hb:(x==y)=false:=beq_eq_false_iff_ne.mpr e;rw[hb,if_neg e]
def cD (env:Env):List (Str×jn)->List (Str×ah)->List (Str×ah)
 | [],acc=>acc
 |(x,k)::r,acc=>cD env r (if k==.free then(x,(env.cells.lookup x).getD 0)::acc else acc)
theorem xS {env:Env}:∀(l:List (Str×jn)) (acc:List (Str×ah)),(∀x,(x,bu)∈l->∃c,env.cells.lookup x=some c)->
  (forIn l acc (λ(x:Str×jn) (r:List (Str×ah))=>match x with
   |(name,kind)=>if(kind==bu)=true then(do let a <-cellOf env name;pure (ow ((name,a)::r)))else(pure (ow r):Sem (ForInStep (List (Str×ah))))))=(pure (cD env l acc):Sem (List (Str×ah)))
 | [],acc,_=>rfl
 |(x,k)::l,acc,h=>by
  rw[n9];dsimp only
  cases hk:k==bu with
  |true=>
   have e:k=.free:=by cases k <;> first|rfl|cases hk
   subst e;obtain⟨c,hc⟩:=h x (ba ..);rw[if_pos rfl,show cD env ((x,bu)::l) acc=cD env l ((x,c)::acc)by rw[cD,if_pos hk,hc];rfl,<-xS l ((x,c)::acc) λy hy=>h y (aw _ hy)];unfold cellOf;rw[hc];rfl
  |false=>rw[if_neg (by simp),show cD env ((x,k)::l) acc=cD env l acc by rw[cD,hk];rfl,<-xS l acc λy hy=>h y (aw _ hy)];rfl
theorem DY {env:Env}{scope:gn}(h:∀x,(x,bu)∈scope.names->∃c,env.cells.lookup x=some c):closureFor scope env=pure (cD env scope.names []):=by unfold closureFor;have:=xS (env:=env) scope.names [] h;show(forIn scope.names [] _ >>= λcs=>pure cs)=_;exact(congrArg (λ(m:Sem (List (Str×ah)))=>m >>= λcs=>pure cs) this)
theorem pQ {env:Env}{x:Str}:∀(l:List (Str×jn)) (acc:List (Str×ah)),((x,bu)∈l∨acc.lookup x=some ((env.cells.lookup x).getD 0))->(cD env l acc).lookup x=some ((env.cells.lookup x).getD 0)
 | [],acc,h=>h.elim (λz=>nomatch z) id
 |(y,k)::l,acc,h=>by
  rw[cD]
  cases hk:k==bu with
  |true=>
   refine pQ l _ ?_;rw[if_pos rfl]
   by_cases e:x=y
   ·subst e;right;rw[sX,if_pos rfl]
   ·rcases h with h|h
    ·rcases bg.mp h with h|h
     ·cases h;exact absurd rfl e
     ·exact .inl h
    ·right;rw[sX,if_neg e];exact h
  |false=>
   refine pQ l _ ?_
   rcases h with h|h
   ·rcases bg.mp h with h|h
    ·cases h;simp at hk
    ·exact .inl h
   ·exact .inr h
structure BlkCells (h h':ck) (names:List (Str×jn)) (acc cs:List (Str×ah)):Prop where
 cases:∀x c,cs.lookup x=some c->acc.lookup x=some c∨(h.objs.size<=c/\h'.IsCell c none/\(x,df)∈names)
 own:∀x,(x,df)∈names->∃c,cs.lookup x=some c
 old:∀x,(x,df)∉names->cs.lookup x=acc.lookup x
 inj:(∀x y c,acc.lookup x=some c->acc.lookup y=some c->x=y)->(∀x c,acc.lookup x=some c->c<h.objs.size)->∀x y c,cs.lookup x=some c->cs.lookup y=some c->x=y
theorem pR:∀(names:List (Str×jn)) (h:ck) (acc:List (Str×ah)),BlkCells h (pushCells h names) names acc (cellsFrom h.objs.size names acc)
 | [],h,acc=>{ cases:=λ_ _ e=>.inl e,own:=λ_ z=>(nomatch z),old:=λ_ _=>rfl,inj:=λa _=>a }
 |(y,k)::r,h,acc=>by
  cases hk:k==df with
  |true=>
   have ek:k=.cell:=by cases k <;> first|rfl|cases hk
   subst ek;have ih:=pR r (h.push { cls:=.type "cell",data:=.cell none }) ((y,h.objs.size)::acc);have e1:pushCells h ((y,df)::r)=pushCells (h.push { cls:=.type "cell",data:=.cell none }) r:=rfl;have e2:cellsFrom h.objs.size ((y,df)::r) acc=cellsFrom (h.push { cls:=.type "cell",data:=.cell none }).objs.size r ((y,h.objs.size)::acc):=by rw[dz];rfl
   rw[e1,e2];have look:∀x,((y,h.objs.size)::acc).lookup x=if x=y then some h.objs.size else acc.lookup x:=λx=>sX ..
   refine⟨λx c e=>?_,λx hx=>?_,λx hx=>?_,λh1 h2 x z c ex ez=>?_⟩
   ·rcases ih.cases x c e with q|⟨q1,q2,q3⟩
    ·rw[look]at q
     by_cases exy:x=y
     ·rw[if_pos exy]at q;cases q;refine .inr ⟨ak _,⟨_,nv r _ _ _ (ay _ rfl),rfl⟩,by rw[exy];exact ba ..⟩
     ·rw[if_neg exy]at q;exact .inl q
    ·rw[dz]at q1;exact .inr ⟨Nat.le_of_succ_le q1,q2,aw _ q3⟩
   ·by_cases hr:(x,df)∈r
    ·exact ih.own x hr
    ·rw[ih.old x hr,look]
     rcases bg.mp hx with z|z
     ·cases z;exact⟨_,if_pos rfl⟩
     ·exact absurd z hr
   ·rw[ih.old x λz=>hx (aw _ z),look,if_neg]
    rintro rfl
    exact hx (ba ..)
   ·refine ih.inj ?_ ?_ x z c ex ez
    ·intro a b c ea eb;rw[look]at ea eb
     by_cases qa:a=y
     ·rw[if_pos qa]at ea;cases ea
      by_cases qb:b=y
      ·exact qa.trans qb.symm
      ·rw[if_neg qb]at eb;exact absurd (h2 b _ eb) (fq _)
     ·rw[if_neg qa]at ea
      by_cases qb:b=y
      ·rw[if_pos qb]at eb;cases eb;exact absurd (h2 a _ ea) (fq _)
      ·rw[if_neg qb]at eb;exact h1 a b c ea eb
    ·intro a c ea;rw[dz];rw[look]at ea
     by_cases qa:a=y
     ·rw[if_pos qa]at ea;cases ea;exact kh _
     ·rw[if_neg qa]at ea;exact jx (h2 a c ea)
  |false=>
   have ih:=pR r h acc;have e1:pushCells h ((y,k)::r)=pushCells h r:=by rw[pushCells,hk];rfl
   have e2:cellsFrom h.objs.size ((y,k)::r) acc=cellsFrom h.objs.size r acc:=by rw[cellsFrom,hk];rfl
   rw[e1,e2];have nk:∀x,(x,df)∈(y,k)::r->(x,df)∈r:=λx z=>by
    rcases bg.mp z with z|z
    ·cases z;simp at hk
    ·exact z
   exact⟨λx c e=>(ih.cases x c e).imp id λ⟨a,b,c⟩=>⟨a,b,aw _ c⟩,λx hx=>ih.own x (nk x hx),λx hx=>ih.old x λz=>hx (aw _ z),ih.inj⟩
def DZ (scope:gn) (env:Env) (L:ah):Env:={ scope:=relabel scope env,locals:=L,globals:=env.globals,cells:=cellsFrom (L+1) scope.names (cD env scope.names []),qual:=env.qual,func:=none,code:=env.code,frame:=env.frame,builtins:=env.builtins }
theorem PC {M:xh}{A:cf}{E:af->ag->Prop}{s:ag}{scope:gn}{env:Env}{cl:List (Str×ah)}{qual:Str}{g:ah}{Q:Env->ag->Prop}
  (h:Q { scope:=scope,locals:=s.heap.objs.size,globals:=g,cells:=cellsFrom (s.heap.objs.size+1) scope.names cl,qual:=qual,func:=none,code:=env.code,frame:=env.frame,builtins:=env.builtins }
   { s with heap:=pushCells (s.heap.push { cls:=.type "dict",data:=.dict #[] }) scope.names }):
  wpAny M A (newFunctionEnv scope g cl [] qual none .none (some env)) Q E s:=by
 simp only[newFunctionEnv,Option.isSome_some,if_true];refine aa (wpAny_alloc ?_);refine aa (wpAny_layCells _ (λname kind cells=>by cases hkc:kind==df <;> simp[hkc]) _ _ _ _ ?_);rw[show({ s with heap:=s.heap.push { cls:=.type "dict",data:=.dict #[] } }:ag).heap.objs.size=s.heap.objs.size+1 from dz ..];exact aa (ai (ai h))
def cY (X:Cx) (scope:gn) (N:List Str) (s:ag) (H:Hp) (ex:List ah):Cx:={ X with N:=N,s₀:=s,H₀:=H,env:=DZ scope X.env s.heap.objs.size,outer:=X.stack,stack:=X.stack,ex:=ex,fn:=λx=>scope.names.lookup x==some .cell,xe:=λ_ _=>False }
def nY (cap:List (Option Nat)) (σ:St):St:=cap.map λo=>match o with|some j=>(σ[j]?).getD none|none=>none
structure CapOk (X:Cx) (scope:gn) (N:List Str) (cap:List (Option Nat)):Prop where
 kind:scope.kind=.function
 nd:∀x∈scope.names,x.2=.local->scope.names.lookup x.1=some .local
 len:cap.length=N.length
 free:∀x,(x,bu)∈scope.names->X.env.kindOf x=some .cell∨X.env.kindOf x=some .free
 apart:∀x,(x,bu)∈scope.names->(x,df)∉scope.names
 cap:∀(i j:Nat) (x:Str),cap[i]?=some (some j)->N[i]?=some x->X.N[j]?=some x/\(x,bu)∈scope.names/\(relabel scope X.env).names.lookup x≠some .local
theorem xT {scope:gn}{env:Env}{x:Str}:∀{l:List (Str×jn)}{k:jn},(l.map λ(n,k)=>if(k==bu&&env.scope.kind==.function&&env.kindOf n==some .cell)then(n,df)else(n,k)).lookup x=some k->
  (x,k)∈l∨(k=.cell/\(x,bu)∈l)
 | [],_,h=>by simp at h
 |(n,q)::r,k,h=>by
  have ih:=@xT scope env x r k;rw[da]at h
  by_cases hc:(q==bu&&env.scope.kind==.function&&env.kindOf n==some .cell)=true
  ·have hq:q=.free:=by
    have:(q==bu)=true:=by
     cases z:q==bu with
     |true=>rfl
     |false=>rw[z]at hc;simp at hc
    cases q <;> first|rfl|cases this
   dsimp only at h;rw[if_pos hc,gu]at h
   cases e:x==n with
   |true=>rw[e]at h;have h':df=k:=cn h;subst h';have ex:=beq_iff_eq.mp e;subst ex;subst hq;exact .inr ⟨rfl,ba ..⟩
   |false=>rw[e]at h;exact(ih h).imp (aw _) λ⟨a,b⟩=>⟨a,aw _ b⟩
  ·dsimp only at h;rw[if_neg hc,gu]at h
   cases e:x==n with
   |true=>rw[e]at h;have h':q=k:=cn h;subst h';have ex:=beq_iff_eq.mp e;subst ex;exact .inl (ba ..)
   |false=>rw[e]at h;exact(ih h).imp (aw _) λ⟨a,b⟩=>⟨a,aw _ b⟩
theorem sY {env:Env}{x:Str}{c:ah}:∀(l:List (Str×jn)) (acc:List (Str×ah)),(cD env l acc).lookup x=some c->acc.lookup x=some c∨((x,bu)∈l/\c=(env.cells.lookup x).getD 0)
 | [],acc,h=>.inl h
 |(y,k)::l,acc,h=>by
  rw[cD]at h
  cases hk:k==bu with
  |true=>
   have ek:k=.free:=by cases k <;> first|rfl|cases hk
   subst ek;rw[if_pos hk]at h
   rcases sY l _ h with q|⟨q1,q2⟩
   ·rw[sX]at q
    by_cases e:x=y
    ·rw[if_pos e]at q;subst e;exact .inr ⟨ba ..,(cn q).symm⟩
    ·rw[if_neg e]at q;exact .inl q
   ·exact .inr ⟨aw _ q1,q2⟩
  |false=>rw[if_neg (by rw[hk];exact ib)]at h;exact(sY l _ h).imp id λ⟨a,b⟩=>⟨aw _ a,b⟩
section
variable{X:Cx}{pins:List (ah×Obj)}{σ:St}{H:Hp}{s:ag}{scope:gn}{N:List Str}{cap:List (Option Nat)}{ex:List ah}
theorem sZ (I:Inv X pins σ H s) (C:CapOk X scope N cap) {x:Str}{c:ah}(e:(cD X.env scope.names []).lookup x=some c):(x,bu)∈scope.names/\X.env.cells.lookup x=some c:=by
 rcases sY _ _ e with q|⟨q1,q2⟩
 ·cases q
 ·obtain⟨c',h'⟩:=I.ok.has x (C.free x q1);rw[h']at q2;subst q2;exact⟨q1,h'⟩
theorem tD (I:Inv X pins σ H s) (C:CapOk X scope N cap) {x:Str}{c:ah}(e:(DZ scope X.env s.heap.objs.size).cells.lookup x=some c):
  (X.env.cells.lookup x=some c/\(x,bu)∈scope.names)∨(s.heap.objs.size<c/\(pushCells (s.heap.push { cls:=.type "dict",data:=.dict #[] }) scope.names).IsCell c none/\(x,df)∈scope.names):=by
 have B:=pR scope.names (s.heap.push { cls:=.type "dict",data:=.dict #[] }) (cD X.env scope.names []);rw[dz]at B
 rcases B.cases x c e with q|⟨q1,q2,q3⟩
 ·obtain⟨a,b⟩:=sZ I C q;exact .inl ⟨b,a⟩
 ·rw[dz]at q1;exact .inr ⟨q1,q2,q3⟩
theorem EA (I:Inv X pins σ H s) (C:CapOk X scope N cap) (hex:∀b∈ex,cI X pins H b/\b<s.heap.objs.size):(cY X scope N s H ex).Ok:=by
 have B:=pR scope.names (s.heap.push { cls:=.type "dict",data:=.dict #[] }) (cD X.env scope.names []);rw[dz]at B;have kf:∀x,(x,bu)∈scope.names->∃c,X.env.cells.lookup x=some c:=λx hx=>I.ok.has x (C.free x hx);refine⟨I.ok.mod,C.kind,I.ok.glob,I.ok.blt,ak _, ?_, ?_, ?_,I.ok.hd,I.ok.frames,.inl rfl, ?_,I.bs,dm I.ok.bsz I.sz, ?_, ?_,I.stack,I.stkFree⟩
 ·refine B.inj (λx y c e1 e2=>?_) λx c e=>?_
  ·exact I.ok.inj x y c (sZ I C e1).2 (sZ I C e2).2
  ·obtain⟨v,q⟩:=I.cell x c (sZ I C e).2;rw[dz];exact jx q.lt
 ·intro x hx;have hx':(relabel scope X.env).names.lookup x=some .cell∨(relabel scope X.env).names.lookup x=some .free:=hx;have mem:(x,df)∈scope.names∨(x,bu)∈scope.names:=by
   rcases hx' with h|h
   ·rcases xT (scope:=scope) h with q|⟨_,q⟩
    ·exact .inl q
    ·exact .inr q
   ·rcases xT (scope:=scope) h with q|⟨z,q⟩
    ·exact .inr q
    ·exact .inr q
  by_cases hc:(x,df)∈scope.names
  ·exact B.own x hc
  ·rcases mem with h|h
   ·exact absurd h hc
   ·exact⟨_,(B.old x hc).trans (pQ _ _ (.inl h))⟩
 ·intro x c hf e;have hf':(scope.names.lookup x==some .cell)=true:=hf;have hm:(x,df)∈scope.names:=dw (eq_of_beq hf')
  rcases tD I C e with⟨_,q⟩|⟨q,_⟩
  ·exact absurd hm (C.apart x q)
  ·exact gp q
 ·intro b hb;obtain⟨⟨f0,f1,f2,f3,f4,f5⟩,hlt⟩:=hex b hb;refine⟨bc hlt,λx c e z=>?_⟩
  rcases tD I C e with⟨q,_⟩|⟨q,_⟩
  ·exact f4 x c q z
  ·subst z;exact fq _ (Nat.lt_trans q hlt)
 ·intro b o e hb;obtain⟨⟨f0,f1,f2,f3,f4,f5⟩,hlt⟩:=hex b hb
  rcases f3 with q|q
  ·exact I.ok.noex b o e q
  ·exact fq _ (av (au e) (dm I.ok.bsz q))
 ·intro b hb z;obtain⟨⟨f0,f1,f2,f3,f4,f5⟩,hlt⟩:=hex b hb
  rcases bg.mp (I.stkSub b z)with q|q
  ·exact f1 q
  ·exact f2 q
theorem PD (I:Inv X pins σ H s) (C:CapOk X scope N cap) (hex:∀b∈ex,cI X pins H b/\b<s.heap.objs.size):
  Inv (cY X scope N s H ex) pins (nY cap σ) H { s with heap:=pushCells (s.heap.push { cls:=.type "dict",data:=.dict #[] }) scope.names }:=by
 have B:=pR scope.names (s.heap.push { cls:=.type "dict",data:=.dict #[] }) (cD X.env scope.names []);rw[dz]at B;have kp:∀b o,s.heap.get? b=some o->(pushCells (s.heap.push { cls:=.type "dict",data:=.dict #[] }) scope.names).get? b=some o:=λb o e=>nv _ _ _ _ (aj _ e);have ns:(pushCells (s.heap.push { cls:=.type "dict",data:=.dict #[] }) scope.names).Ns s.heap.objs.size (λ_=>none):=⟨_,#[],_,nv _ _ _ _ (ay _ rfl),rfl,(λe he=>absurd he (by simp)),λ_=>rfl⟩
 obtain⟨m,hn,hl⟩:=I.loc;refine⟨EA I C hex,rfl,I.bare,Un.kept kp,⟨_,ns,λi x v h1 h2 h3=>?_⟩,λx c e=>?_,I.hok.fresh (ak _),λx c e=>?_,λp hp=>?_,I.hok.kept kp, ?_⟩
 ·have h2':(cap.map λo=>match o with|some j=>(σ[j]?).getD none|none=>none)[i]?=some (some v):=h2;rw[dj]at h2'
  cases q:cap[i]? with
  |none=>rw[q]at h2';cases h2'
  |some o=>
   rw[q]at h2'
   cases o with
   |none=>cases h2'
   |some j=>
    have e1:(σ[j]?).getD none=some v:=cn h2';have e2:σ[j]?=some (some v):=by
     cases z:σ[j]? with
     |none=>rw[z]at e1;cases e1
     |some w=>rw[z]at e1;exact congrArg some e1
    obtain⟨c1,c2,c3⟩:=C.cap i j x q h1;have vis:nW X.env.scope x:=by
     rcases C.free x c2 with z|z
     ·exact .inr (.inl z)
     ·exact .inr (.inr z)
    obtain⟨u,r,l⟩:=hl j x v c1 e2 vis;refine⟨u,r, ?_⟩
    rcases l with⟨hk,hm⟩|⟨hk,c,hc,hcell⟩
    ·rcases C.free x c2 with z|z
     ·rw[z]at hk;cases hk
     ·rw[z]at hk;cases hk
    ·refine .inr ⟨?_,c, ?_, ?_⟩
     ·have h3':nW (relabel scope X.env) x:=h3
      rcases h3' with z|z|z
      ·exact absurd z c3
      ·exact .inl z
      ·exact .inr z
     ·have:=(B.old x (C.apart x c2)).trans (pQ _ _ (.inl c2));rw[hc]at this;exact this
     ·obtain⟨o,ho,hd⟩:=hcell;exact⟨o,kp _ _ ho,hd⟩
 ·rcases tD I C e with⟨q,_⟩|⟨_,q,_⟩
  ·obtain⟨v,o,ho,hd⟩:=I.cell x c q;exact⟨v,o,kp _ _ ho,hd⟩
  ·exact⟨none,q⟩
 ·rcases tD I C e with⟨q,_⟩|⟨q,_⟩
  ·exact I.freeC x c q
  ·exact I.hok.fresh (gp q)
 ·obtain⟨a1,a2,a3,a4,a5⟩:=I.pin p hp;refine⟨kp _ _ a1,a2,bc (au a1),λz=>?_,a5⟩
  rcases bg.mp (I.stkSub _ z)with q|q
  ·exact a3 q
  ·exact a4 q
 ·show(cap.map _).length=N.length;rw[bh];exact C.len
theorem PF (I:Inv X pins σ H s) (C:CapOk X scope N cap) (hex:∀b∈ex,cI X pins H b/\b<s.heap.objs.size):∀b∈ex,cI (cY X scope N s H ex) pins H b:=by intro b hb;obtain⟨⟨f0,f1,f2,f3,f4,f5⟩,hlt⟩:=hex b hb;have ok:=EA (N:=N) I C hex;exact⟨f0,(ok.exf b hb).1,ok.exfs b hb,.inl hb,(ok.exf b hb).2,f5⟩
theorem PH {σ':St}{H':Hp}{s':ag}{h':ck}(I:Inv X pins σ H s) (hex:∀b∈ex,cI X pins H b/\b<s.heap.objs.size) (I':Inv (cY X scope N s H ex) pins σ' H' s') (hh:gv s.heap.objs.size s'.heap h'):
  Inv X pins σ H' { s' with heap:=h' }:=by
 have u:Un (cM X.stack) ex H H' s.heap s'.heap:=I'.base;have up:∀b o o',s.heap.get? b=some o->s'.heap.get? b=some o'->h'.get? b=some o':=λb o o' e e'=>(hh.2 b (bc (au e))).trans e';have hL:H' s.heap.objs.size=none:=I'.free;refine I.call' (s':={ s' with heap:=h' }) (ch:=ex) I'.os ⟨λb o q n hb hx=>up b o o q (u.keep b o q n hb hx),λb o q n hb hx=>?_,u.free,λb o q hx=>?_,u.tups,u.frzs,u.tbls⟩ (λb o e=>?_) I'.bare λb hb=>?_
 ·obtain⟨sl,e⟩:=u.slot b o q n hb hx;exact⟨sl,up b o _ q e⟩
 ·obtain⟨o',e⟩:=u.there b o q hx;exact⟨o',up b o _ q e⟩
 ·refine(I'.hok b o e).stay (λc v hc q=>(hh.2 c ?_).trans q) (λ_ q=>q) λ_ _ q=>q
  rcases hc with z|z
  ·rw[z];rintro rfl;rw[hL]at e;cases e
  ·rintro rfl;rw[hL]at z;cases z
 ·obtain⟨⟨f0,f1,f2,f3,f4,f5⟩,hlt⟩:=hex b hb;exact⟨f3,f1,f4,f5⟩
theorem Inv.adopt {a:ah}{o:HO}(I:Inv X pins σ H s) (f:cI X pins H a) (ha:X.s₀.heap.objs.size<=a) (new:ObjOk X.prog X.w (aM H a o) s.heap a o):Inv X pins σ (aM H a o) s:=by
 obtain⟨f0,f1,f2,f3,f4,f5⟩:=f;have ne0:∀b ob,X.s₀.heap.get? b=some ob->b≠a:=λb ob e z=>by subst z;exact fq _ (av (au e) ha)
 refine⟨I.ok,I.os,I.bare,⟨I.base.keep,I.base.slot,λb ob e n hx=>by rw[aZ (ne0 b ob e)];exact I.base.free b ob e n hx,I.base.there,λb xs e=>?_,λb ob u e=>?_,λb ps e=>?_⟩,I.loc,I.cell,by rw[aZ (cz f1)];exact I.free,
  λx c e=>by rw[aZ (f4 x c e)];exact I.freeC x c e,λp hp=>?_,λb u e=>?_,I.len⟩
 ·have:=I.base.tups b xs e;rw[aZ (dU this f0)];exact this
 ·have:=I.base.frzs b ob u e;rw[aZ (dU this f0)];exact this
 ·obtain⟨more,this⟩:=I.base.tbls b ps e;exact⟨more,by rw[aZ (dU this f0)];exact this⟩
 ·obtain⟨a1,a2,a3,a4,a5⟩:=I.pin p hp;exact⟨a1,by rw[aZ (f5 p hp)];exact a2,a3,a4,a5⟩
 ·by_cases hb:b=a
  ·subst hb;rw[bX]at e;cases e;exact new
  ·rw[aZ hb]at e;exact(I.hok b u e).stay (λ_ _ _ q=>q) (λc q=>by rw[aZ (dU q f0)];exact q) λc xs q=>by rw[aZ (dU q f0)];exact q
end
def AccAt (s:ag) (D:ah) (xs:List V):Prop:=xs.length<=bq/\∃(its:List af) (n:Nat),Vals xs its/\s.heap.get? D=some { cls:=.type "list",data:=.seq its.toArray n }
abbrev TC:=St->Hp->List V->(St->Hp->List V->Prop)->Prop
def PCl (X:Cx) (D:ah) (m:Sem Unit) (t:TC):Prop:=
 ∀(pins:List (ah×Obj)) (s:ag) (σ:St) (H:Hp) (xs:List V) (K:St->Hp->List V->Prop),Inv X pins σ H s->AccAt s D xs->cI X pins H D->t σ H xs K->
  wpAny (model X.prog X.w) X.A m (λ_ s'=>∃σ' H' xs',Inv X pins σ' H' s'/\AccAt s' D xs'/\H' D=none/\K σ' H' xs') X.xe s
section
variable{X:Cx}{D:ah}
theorem AccAt.obj {s:ag}{xs:List V}(a:AccAt s D xs):∃o,s.heap.get? D=some o/\∀v,o.data≠.cell v:=by obtain⟨_,its,n,_,e⟩:=a;exact⟨_,e,λv z=>nomatch z⟩
theorem Inv.pinD {pins:List (ah×Obj)}{s:ag}{σ:St}{H:Hp}{xs:List V}(I:Inv X pins σ H s) (a:AccAt s D xs) (f:cI X pins H D):Inv X (pins++iE [D] s.heap) σ H s:=
 I.pinned (λb hb=>by (have e:b=D:=by simpa using hb);subst e;exact f) λb hb=>by
  have e:b=D:=by simpa using hb
  subst e;exact a.obj
theorem Inv.atD {pins:List (ah×Obj)}{s s':ag}{σ':St}{H':Hp}{xs:List V}(a:AccAt s D xs) (I:Inv X (pins++iE [D] s.heap) σ' H' s'):AccAt s' D xs/\H' D=none:=by obtain⟨z,its,n,r,e⟩:=a;have:=I.pin (D,_) (cb _ (cb _ (nX (by simp) e)));exact⟨⟨z,its,n,r,this.1⟩,this.2.1⟩
def EC (te:TE):TC:=λσ H xs K=>te σ H λv H1=>xs.length<bq/\K σ H1 (xs++[v])
theorem ED {elt:bj}{te:TE}(he:PE X elt te):PCl X D (do let x <-eval elt X.env;let _ <-call (.builtin "list.append") [.ref D,x];pure ()) (EC te):=by
 intro pins s σ H xs K I a f h;refine aa (aR (he _ s σ H _ (I.pinD a f) h) λu s1 ⟨v,H1,I1,r1,hz,q1⟩=>?_);obtain⟨a1,n1⟩:=Inv.atD a I1;have I1':=I1.unpinned;obtain⟨z,its,n,r,e⟩:=a1;have hl:=r.length;refine aa (yo F.slot_list_append ⟨_,e,rfl⟩ F.entry_list_append (F.args_list_append_2 _ _) (PySem.list_append D its.toArray n u (by rw[ar];omega)) ⟨e, ?_⟩);have q:=yn e (·.push u);have e2:its.toArray.push u=(its++[u]).toArray:=by simp
 rw[e2]at q;refine ai ⟨σ,H1,xs++[v], ?_,⟨by rw[bw,yp];omega,its++[u],_,r.append (.cons r1 .nil),q⟩,n1,q1⟩;obtain⟨f0,f1,f2,f3,f4,f5⟩:=f;exact I1'.turned (t':=s1.toks) (λb o hb z=>(lb s1.heap _ (cz hb)).trans z) n1 f1 f3 f4 f5
def EE (ifs:List bj) (env:Env):Sem Bool:=forIn ifs true λc r=>if r=true then do let ok <-isTrue c env (eval c env);pure (ow ok)else pure (ow r)
def PTs (X:Cx) (ifs:List bj) (t:TT):Prop:=∀(pins:List (ah×Obj)) (s:ag) (σ:St) (H:Hp) (Q:Bool->Hp->Prop),Inv X pins σ H s->t σ H Q->wpAny (model X.prog X.w) X.A (EE ifs X.env) (TP X pins σ Q) X.xe s
def PK:TT:=λ_ H Q=>Q true H
theorem PL:PTs X [] PK:=λpins s σ H Q I h=>wpAny_tests_nil ⟨H,I,h⟩
theorem PM {c:bj}{t:TT}(h:PT X c t):PTs X [c] t:=λpins s σ H Q I q=>wpAny_tests_one (h pins s σ H Q I q)
def kR (p:Pos) (it:af) (tg:bj) (ifs:List bj) (env:Env) (inner:Sem Unit) (c:Code):Sem PySem.Fin:=do
 standAt p
 match <-pyNext it with
 |none=>pure (.done .next)
 |some v=>do
  letOwnedTupleGo tg it v
  assign tg env v
  let ok <-EE ifs env
  if ok=true then do inner;again c
  else again c
def pS (J:It) (g:TG) (tt:TT) (inner:TC) (K:St->Hp->List V->Prop) (σ:St) (H:Hp) (xs:List V):Prop:=
 ∃W:Nat->Nat->St->Hp->List V->Prop,(∃m,W 0 m σ H xs)/\∀i m σ H xs,W i m σ H xs->
  (J.stop i H/\K σ H xs)∨(J.go i H/\∃N:St->Hp->List V->Prop,(∀σ' H' xs',N σ' H' xs'->∃m',m'<m/\W (i+1) m' σ' H' xs') /\
   ∀x H',J.yld i H x H'->g x σ H' λσ2 H2=>tt σ2 H2 λb H3=>if b=true then inner σ2 H3 xs N else N σ2 H3 xs)
theorem EF {elt:bj}{gens:List kr}{sc:gn}{ps:Pos}{d:Nat}{it:ah}{tg:bj}{ifs:List bj}{p:Pos}{inner:Sem Unit}{g:TG}{tt:TT}{ti:TC}{J:It}{fp:List ah}{tn:Nat->ck->Prop}
  (hx:X.xe=λ_ _=>False) (hc:X.calm=true)
  (ht:compTurn (.ListComp elt gens sc ps) d (.ref it) (.ref D) X.env=kR p (.ref it) tg ifs X.env inner (.compLoop (.ListComp elt gens sc ps) d (.ref it) (.ref D) X.env))
  (hg:PG X tg g) (htt:PTs X ifs tt) (hi:PCl X D inner ti) (T:Turn X.prog X.w X.K tg J fp it tn)
  {pins:List (ah×Obj)}{s:ag}{σ:St}{H:Hp}{xs:List V}{K:St->Hp->List V->Prop}{R:vk->ag->Prop}(I:Inv X pins σ H s) (a:AccAt s D xs) (f:cI X pins H D) (st:tn 0 s.heap) (hf:∀b∈fp,cI X pins H b) (hD:D∉fp)
  (h:pS J g tt ti K σ H xs) (hR:∀σ' H' xs' s',Inv X pins σ' H' s'->AccAt s' D xs'->H' D=none->K σ' H' xs'->R (.ok .next) s'):
  codeAny (model X.prog X.w) X.A (.compLoop (.ListComp elt gens sc ps) d (.ref it) (.ref D) X.env) R s:=by
 obtain⟨W,⟨m0,w0⟩,turn⟩:=h;have stat:∀{H':Hp},(∀b∈fp,H' b=none)->∀b∈fp,cI X pins H' b:=λhn b hb=>⟨hn b hb,(hf b hb).2⟩
 have statD:∀{H':Hp},H' D=none->cI X pins H' D:=λhn=>⟨hn,f.2⟩
 refine codeAny_loop rfl (λn s'=>∃i σ' H' xs',Inv X pins σ' H' s'/\AccAt s' D xs'/\H' D=none/\tn i s'.heap/\(∀b∈fp,H' b=none)/\W i n σ' H' xs') ?_ m0 ⟨0,σ,H,xs,I,a,f.1,st,λb hb=>(hf b hb).1,w0⟩
 rintro n s3 ⟨i,σ3,H3,xs3,I3,a3,n3,st3,fr3,w3⟩
 show wpAny _ X.A ((compTurn (.ListComp elt gens sc ps) d (.ref it) (.ref D) X.env).onRaise (λx=>do noteFrame x X.env;theTreesLotGoes x)) _ _ s3;rw[ht];refine pz (js (Q:=λfin s'=>match fin with | .done f=>R (.ok f) s' | .again c'=>c'=.compLoop (.ListComp elt gens sc ps) d (.ref it) (.ref D) X.env/\∃m,m<n/\∃i σ' H' xs',Inv X pins σ' H' s'/\AccAt s' D xs'/\H' D=none/\tn i s'.heap/\(∀b∈fp,H' b=none)/\W i m σ' H' xs') (E:=λ_ _=>False) ?_ (λ_ _ z=>z) λ_ _ z=>z.elim);unfold kR;refine aa (sr (aa ?_));have xe':∀{α:Type}{m:Sem α}{Q:α->ag->Prop}{s:ag},wpAny (model X.prog X.w) X.A m Q X.xe s->wpAny (model X.prog X.w) X.A m Q (λ_ _=>False) s:=λ{α m Q s} z=>by rw[hx]at z;exact z
 have I3':=I3.pinD a3 (statD n3);have fr3':∀b∈fp,cI X (pins++iE [D] s3.heap) H3 b:=λb hb=>by
  obtain⟨g0,g1,g2,g3,g4,g5⟩:=stat fr3 b hb;refine⟨g0,g1,g2,g3,g4,λp hp=>?_⟩
  rcases dy.mp hp with z|z
  ·exact g5 p (jh _ z)
  ·rcases dy.mp z with z|z
   ·exact g5 p (cb _ z)
   ·have:=(xF z).1;have e:p.1=D:=by simpa using this
    rw[e];rintro rfl;exact hD hb
 rcases turn i n σ3 H3 xs3 w3 with⟨stop,qn⟩|⟨go,N,hN,step⟩
 ·refine aR (T.done X rfl rfl rfl hc i _ s3 σ3 H3 (λ_ _=>False) I3' fr3' st3 stop) λr s4 ⟨hr,I4⟩=>?_;subst hr;obtain⟨a4,n4⟩:=Inv.atD a3 I4;exact ai (hR σ3 H3 xs3 s4 I4.unpinned a4 n4 qn)
 ·refine aR (T.item X rfl rfl rfl hc i _ s3 σ3 H3 (λ_ _=>False) I3' fr3' st3 go) λr s4 ⟨u,hr,h4⟩=>?_;subst hr;refine aa (aR h4 λ_ s5 ⟨x,H5,I5,r5,y5,st5,fr5⟩=>?_);obtain⟨a5,n5⟩:=Inv.atD a3 I5;have I5u:=I5.unpinned;have I5p:=I5u.pinned (stat fr5) (T.obj _ _ st5);have fD5:cI X (pins++iE fp s5.heap) H5 D:=by
   obtain⟨g0,g1,g2,g3,g4,g5⟩:=statD n5;refine⟨g0,g1,g2,g3,g4,λp hp=>?_⟩
   rcases dy.mp hp with z|z
   ·exact g5 p (jh _ z)
   ·rcases dy.mp z with z|z
    ·exact g5 p (cb _ z)
    ·rintro rfl;exact hD (xF z).1
  have I5':=I5p.pinD a5 fD5;refine aa (xe' (aR (hg _ s5 σ3 H5 x u _ I5' r5 (step x H5 y5)) λ_ s6 ⟨σ6,H6,I6,q6⟩=>?_));obtain⟨a6,n6⟩:=Inv.atD a5 I6;have pin':∀{s σ H},Inv X (pins++iE fp s5.heap) σ H s->tn (i+1) s.heap/\∀b∈fp,H b=none:=λ{s σ H} J=>by refine⟨T.keep _ _ _ st5 λb hb o e=>(J.pin (b,o) (cb _ (cb _ (nX hb e)))).1,λb hb=>?_⟩;obtain⟨o,e,d⟩:=T.obj _ _ st5 b hb;exact(J.pin (b,o) (cb _ (cb _ (nX hb e)))).2.1
  have fD6:cI X (pins++iE fp s5.heap) H6 D:=⟨n6,fD5.2⟩
  have I6u:=I6.unpinned;have I6p:=I6u.pinD a6 fD6;refine aa (xe' (aR (htt _ s6 σ6 H6 _ I6p q6) λb s7 ⟨H7,I7,q7⟩=>?_));obtain⟨a7,n7⟩:=Inv.atD a6 I7;have I7u:=I7.unpinned;have fin:∀{s8 σ8 H8 xs8},Inv X (pins++iE fp s5.heap) σ8 H8 s8->AccAt s8 D xs8->H8 D=none->N σ8 H8 xs8->
    ∃m,m<n/\∃i σ' H' xs',Inv X pins σ' H' s8/\AccAt s8 D xs'/\H' D=none/\tn i s8.heap/\(∀b∈fp,H' b=none)/\W i m σ' H' xs':=λ{s8 σ8 H8 xs8} J a8 n8 q8=>by
   obtain⟨m',hm,w8⟩:=hN σ8 H8 xs8 q8;obtain⟨t8,fr8⟩:=pin' J;exact⟨m',hm,i+1,σ8,H8,xs8,J.unpinned,a8,n8,t8,fr8,w8⟩
  cases b with
  |true=>
   rw[if_pos rfl]at q7 ⊢;have fD7:cI X (pins++iE fp s5.heap) H7 D:=⟨n7,fD5.2⟩
   refine aa (xe' (aR (hi _ s7 σ6 H7 xs3 N I7u a7 fD7 q7) λ_ s8 ⟨σ8,H8,xs8,I8,a8,n8,q8⟩=>?_));exact ai ⟨rfl,fin I8 a8 n8 q8⟩
  |false=>rw[if_neg ib]at q7 ⊢;exact ai ⟨rfl,fin I7u a7 n7 q7⟩
end
theorem PN (elt tg iter:bj) (ifs:List bj) (sc:gn) (ps:Pos) (it:af) (D:ah) (env:Env):
  compTurn (.ListComp elt [⟨tg,iter,ifs,0⟩] sc ps) 0 it (.ref D) env =
   kR iter.pos it tg ifs env (do let x <-eval elt env;let _ <-call (.builtin "list.append") [.ref D,x];pure ()) (.compLoop (.ListComp elt [⟨tg,iter,ifs,0⟩] sc ps) 0 it (.ref D) env):=by rfl
def pT (iter:bj) (e:bj) (d:Nat) (D:ah) (env:Env):Sem Unit:=do
 let x <-eval iter env
 standAt iter.pos
 let x <-foldedSetIterable iter env x
 let it <-holding [x] (pyIter x)
 let _ <-runOwn (.compStart e d it (.ref D) env) env
 pure ()
theorem PQ (elt tg iter tg' iter':bj) (ifs ifs':List bj) (sc:gn) (ps:Pos) (it:af) (D:ah) (env:Env):
  compTurn (.ListComp elt [⟨tg,iter,ifs,0⟩,⟨tg',iter',ifs',0⟩] sc ps) 0 it (.ref D) env =
   kR iter.pos it tg ifs env (pT iter' (.ListComp elt [⟨tg,iter,ifs,0⟩,⟨tg',iter',ifs',0⟩] sc ps) 1 D env) (.compLoop (.ListComp elt [⟨tg,iter,ifs,0⟩,⟨tg',iter',ifs',0⟩] sc ps) 0 it (.ref D) env):=by
 unfold kR pT;simp only[bind_assoc,pure_bind];rfl
theorem PR (elt tg iter tg' iter':bj) (ifs ifs':List bj) (sc:gn) (ps:Pos) (it:af) (D:ah) (env:Env):
  compTurn (.ListComp elt [⟨tg,iter,ifs,0⟩,⟨tg',iter',ifs',0⟩] sc ps) 1 it (.ref D) env =
   kR iter'.pos it tg' ifs' env (do let x <-eval elt env;let _ <-call (.builtin "list.append") [.ref D,x];pure ()) (.compLoop (.ListComp elt [⟨tg,iter,ifs,0⟩,⟨tg',iter',ifs',0⟩] sc ps) 1 it (.ref D) env):=by rfl
section
variable{X:Cx}{D:ah}
theorem EG {prog:bf}{w:cg}{A:cf}{R:vk->ag->Prop}{s:ag}{elt:bj}{gens:List kr}{sc:gn}{ps:Pos}{d:Nat}{it acc:af}{env:Env}(ha:((gens)[d]?).elim false (·.is_async != 0)=false)
  (h0:codeAny (model prog w) A (.compLoop (.ListComp elt gens sc ps) d it acc env) R s)
  (h:wpAny (model prog w) A (pyIter it) (λit' s'=>codeAny (model prog w) A (.compLoop (.ListComp elt gens sc ps) d it' acc env) R s') (λ_ _=>False) s):
  codeAny (model prog w) A (.compStart (.ListComp elt gens sc ps) d it acc env) R s:=by
 refine codeAny_of_tree ?_;show wpAny _ _ ((compStart (.ListComp elt gens sc ps) d it acc env).onRaise (λx=>do noteFrame x env;standAt theWindowsPlace)) _ _ s;refine wpAny_notedAt (js (E:=λ_ _=>False) ?_ (λ_ _ z=>z) λ_ _ z=>z.elim);unfold compStart;rw[show((clausesOf (.ListComp elt gens sc ps))[d]?).elim false (·.is_async != 0)=false from ha];simp only[cj,if_false];refine aa (km (wpAny_ite ?_))
 split
 ·first
   |exact aa (ai (ai (And.intro rfl h0)))
   |exact ai (And.intro rfl h0)
 ·have fin:∀s:ag,wpAny (model prog w) A (pyIter it) (λit' s'=>codeAny (model prog w) A (.compLoop (.ListComp elt gens sc ps) d it' acc env) R s') (λ_ _=>False) s->
    wpAny (model prog w) A (do let it' <-pyIter it;again (.compLoop (.ListComp elt gens sc ps) d it' acc env)) (λfin s'=>match fin with | .done f=>R (.ok f) s' | .again c=>c.quiet=true/\codeAny (model prog w) A c R s') (λ_ _=>False) s:=λs h=>aa (js h (λit' s' h'=>ai ⟨rfl,h'⟩) λ_ _ x=>x)
  refine aa (qj ?_);have ec:clausesOf (.ListComp elt gens sc ps)=gens:=rfl;rw[ec]
  cases q:gens[d]? with
  |none=>exact fin s h
  |some g=>exact aa (sr (fin s h))
def EH (wi:TI) (g:TG) (tt:TT) (inner:TC):TC:=λσ H xs K=>wi σ H λJ H1=>pS J g tt inner K σ H1 xs
theorem PU {elt:bj}{gens:List kr}{sc:gn}{ps:Pos}{d:Nat}{tg iter:bj}{ifs:List bj}{inner:Sem Unit}{wi:TI}{g:TG}{tt:TT}{ti:TC}
  (hx:X.xe=λ_ _=>False) (hc:X.calm=true) (ha:((gens)[d]?).elim false (·.is_async != 0)=false)
  (ht:∀it,compTurn (.ListComp elt gens sc ps) d (.ref it) (.ref D) X.env=kR iter.pos (.ref it) tg ifs X.env inner (.compLoop (.ListComp elt gens sc ps) d (.ref it) (.ref D) X.env))
  (hi:PI X tg iter wi) (hg:PG X tg g) (htt:PTs X ifs tt) (hin:PCl X D inner ti) (hs:∀x,foldedSetIterable iter X.env x=pure x):
  PCl X D (pT iter (.ListComp elt gens sc ps) d D X.env) (EH wi g tt ti):=by
 intro pins s σ H xs K I a f h;unfold pT;refine aa (aR (hi _ s σ H _ (I.pinD a f) h) λv s1 h1=>aa (sr (aa (xk (hs v) (aa (gr (aR h1 λitv s2 h2=>?_)))))));obtain⟨it,fp,tn,J,H2,e,I2,T,st2,f2,lp⟩:=h2;subst e;obtain⟨a2,n2⟩:=Inv.atD a I2;have I2u:=I2.unpinned;have hpD:∀b∈fp,b≠D:=λb hb z=>by subst z;obtain⟨_,its,n,_,eo⟩:=a;exact(f2 b hb).2.2.2.2.2 (b,_) (cb _ (cb _ (nX (by simp) eo))) rfl
 have f2u:∀b∈fp,cI X pins H2 b:=λb hb=>by
  obtain⟨g0,g1,g2,g3,g4,g5⟩:=f2 b hb;exact⟨g0,g1,g2,g3,g4,λp hp=>g5 p (by
   rcases dy.mp hp with z|z
   ·exact jh _ z
   ·exact cb _ (jh _ z))⟩
 have fD:cI X pins H2 D:=⟨n2,f.2⟩
 refine aa (wpAny_runOwn ?_);have loop:codeAny (model X.prog X.w) X.A (.compLoop (.ListComp elt gens sc ps) d (.ref it) (.ref D) X.env) (λr s'=>match r with
   | .ok f=>wpAny (model X.prog X.w) X.A (pure ():Sem Unit) (λ_ s'=>∃σ' H' xs',Inv X pins σ' H' s'/\AccAt s' D xs'/\H' D=none/\K σ' H' xs') X.xe s'
   | .error e=>cameBackBy (model X.prog X.w) X.A X.env X.xe e s') s2:=
  EF hx hc (ht it) hg htt hin T I2u a2 fD st2 f2u (λz=>hpD D z rfl) lp λσ' H' xs' s' I' a' n' k'=>ai ⟨σ',H',xs',I',a',n',k'⟩
 exact EG ha loop (T.self _ 0 s2 _ _ st2 loop)
end
def EI (wi:TI) (cap:List (Option Nat)) (g:TG) (tt:TT) (inner:TC):TE:=λσ H Q=>wi σ H λJ H1=>pS J g tt inner (λ_ H' xs=>∀p,H' p=none->Q (.ref p) (aM H' p (.lst xs))) (nY cap σ) H1 []
section
variable{X:Cx}
theorem PV {elt:bj}{gens:List kr}{sc:gn}{ps:Pos}{tg iter:bj}{ifs:List bj}{rest:List kr}{inner:ah->Env->Sem Unit}{g:TG}{tt:TT}{ti:TC}{N:List Str}{cap:List (Option Nat)}{E:af->ag->Prop}
  (hc:X.calm=true) (C:CapOk X sc N cap) (eg:gens=⟨tg,iter,ifs,0⟩::rest)
  (ht:∀it D env,compTurn (.ListComp elt gens sc ps) 0 (.ref it) (.ref D) env=kR iter.pos (.ref it) tg ifs env (inner D env) (.compLoop (.ListComp elt gens sc ps) 0 (.ref it) (.ref D) env))
  (hg:∀s H ex,PG (cY X sc N s H ex) tg g) (htt:∀s H ex,PTs (cY X sc N s H ex) ifs tt) (hin:∀s H ex D,PCl (cY X sc N s H ex) D (inner D (cY X sc N s H ex).env) ti)
  {pins:List (ah×Obj)}{s2:ag}{σ:St}{H2:Hp}{K:St->Hp->List V->Prop}{it:ah}{fp:List ah}{tn:Nat->ck->Prop}{J:It}(I2:Inv X pins σ H2 s2) (T:Turn X.prog X.w X.K tg J fp it tn) (st2:tn 0 s2.heap) (f2:∀b∈fp,cI X pins H2 b)
  (lp:pS J g tt ti K (nY cap σ) H2 []) {R:af->ah->vk->ag->Prop}
  (hR:∀σ' H' xs (s3 s':ag) (C D:ah),X.s₀.heap.objs.size<=D->C=s3.heap.objs.size->(∃m,s'.heap.Ns C m)->AccAt s' D xs->cI X pins H' D->cI X pins H' C->D<C->(∀h',gv C s'.heap h'->Inv X pins σ H' { s' with heap:=h' })->K σ' H' xs->R (.ref D) C (.ok .next) s'):
  wpAny (model X.prog X.w) X.A (newList []) (λacc s3=>wpAny (model X.prog X.w) X.A (newFunctionEnv sc X.env.globals (cD X.env sc.names []) [] X.env.qual none .none (some X.env)) (λcenv s4=>codeAny (model X.prog X.w) X.A (.compStart (.ListComp elt gens sc ps) 0 (.ref it) acc { cenv with scope:=relabel sc X.env }) (R acc cenv.locals) s4) E s3) E s2:=by
 refine fj (PC ?_);dsimp only;generalize hs3:({ s2 with heap:=s2.heap.push { cls:=.type "list",dict:=none,data:=.seq ([]:List af).toArray } }:ag)=s3;have kp:∀b o,s2.heap.get? b=some o->s3.heap.get? b=some o:=λb o e=>by rw[<-hs3];exact aj _ e
 have I3:Inv X pins σ H2 s3:=by rw[<-hs3];exact I2.kept (t':=s2.toks) λb o e=>aj _ e
 have eD:s3.heap.get? s2.heap.objs.size=some { cls:=.type "list",data:=.seq ([]:List af).toArray 0 }:=by rw[<-hs3];exact ay _ rfl
 have nD:H2 s2.heap.objs.size=none:=I2.hok.fresh (ak _);have fD:cI X pins H2 s2.heap.objs.size:=I2.fpOk (ak _) nD;have hlt:s2.heap.objs.size<s3.heap.objs.size:=au eD;have hex:∀b∈s2.heap.objs.size::fp,cI X pins H2 b/\b<s3.heap.objs.size:=λb hb=>by
  rcases bg.mp hb with rfl|hb
  ·exact⟨fD,hlt⟩
  ·obtain⟨o,e,_⟩:=T.obj 0 _ st2 b hb;exact⟨f2 b hb,au (kp b o e)⟩
 have hDfp:s2.heap.objs.size∉fp:=λz=>by obtain⟨o,e,_⟩:=T.obj 0 _ st2 _ z;exact fq _ (au e)
 have I4:=PD (N:=N) (ex:=s2.heap.objs.size::fp) I3 C hex;have F4:=PF (N:=N) I3 C hex;have st4:tn 0 (pushCells (s3.heap.push { cls:=.type "dict",data:=.dict #[] }) sc.names):=T.keep 0 _ _ st2 λb hb o e=>nv _ _ _ _ (aj _ (kp b o e));have a4:AccAt { s3 with heap:=pushCells (s3.heap.push { cls:=.type "dict",data:=.dict #[] }) sc.names } s2.heap.objs.size []:=⟨ja _,[],0,.nil,nv _ _ _ _ (aj _ eD)⟩
 have loop:codeAny (model X.prog X.w) X.A (.compLoop (.ListComp elt gens sc ps) 0 (.ref it) (.ref s2.heap.objs.size) (cY X sc N s3 H2 (s2.heap.objs.size::fp)).env) (R (.ref s2.heap.objs.size) s3.heap.objs.size)
   { s3 with heap:=pushCells (s3.heap.push { cls:=.type "dict",data:=.dict #[] }) sc.names }:=by
  refine EF (X:=cY X sc N s3 H2 (s2.heap.objs.size::fp)) rfl hc (ht it _ _) (hg _ _ _) (htt _ _ _) (hin _ _ _ _) T I4 a4 (F4 _ (ba ..)) st4 (λb hb=>F4 b (aw _ hb)) hDfp lp λσ' H' xs' s' I' a' n' k'=>?_;obtain⟨m,hn,_⟩:=I'.loc;exact hR σ' H' xs' s3 s' _ _ (dm I2.sz (ak _)) rfl ⟨m,hn⟩ a' ⟨n',fD.2⟩ (I3.fpOk (ak _) I'.free) hlt (λh' hh=>PH I3 hex I' hh) k'
 have ha:((gens)[0]?).elim false (·.is_async != 0)=false:=by rw[eg];rfl
 subst hs3;exact EG ha loop (T.self _ 0 _ _ _ st4 loop)
theorem EJ {elt:bj}{gens:List kr}{sc:gn}{ps:Pos}{tg iter:bj}{ifs:List bj}{rest:List kr}{inner:ah->Env->Sem Unit}{wi:TI}{g:TG}{tt:TT}{ti:TC}{N:List Str}{cap:List (Option Nat)}
  (hc:X.calm=true) (C:CapOk X sc N cap) (eg:gens=⟨tg,iter,ifs,0⟩::rest)
  (ht:∀it D env,compTurn (.ListComp elt gens sc ps) 0 (.ref it) (.ref D) env=kR iter.pos (.ref it) tg ifs env (inner D env) (.compLoop (.ListComp elt gens sc ps) 0 (.ref it) (.ref D) env))
  (hi:PI X tg iter wi) (hg:∀s H ex,PG (cY X sc N s H ex) tg g) (htt:∀s H ex,PTs (cY X sc N s H ex) ifs tt) (hin:∀s H ex D,PCl (cY X sc N s H ex) D (inner D (cY X sc N s H ex).env) ti)
  (hs:∀x,foldedSetIterable iter X.env x=pure x):PE X (.ListComp elt gens sc ps) (EI wi cap g tt ti):=by
 intro pins s σ H Q I h;rw[eval_ListComp];have hcl:closureFor sc X.env=pure (cD X.env sc.names []):=DY λx hx=>I.ok.has x (C.free x hx);have e1:firstAsync gens=false:=by rw[eg];rfl
 have e2:firstIter gens X.env=eval iter X.env:=by rw[eg];rfl
 rw[e1,e2];refine wpAny_comprehension_free (use:=none) (g:=⟨tg,iter,ifs,0⟩) (gs:=rest) (by rw[eg];rfl) hs hcl C.kind C.nd (aR (hi pins s σ H _ I h) λv s1 h1=>aR h1 λitv s2 h2=>?_);obtain⟨it,fp,tn,J,H2,e,I2,T,st2,f2,lp⟩:=h2;subst e;refine PV (N:=N) (inner:=inner) (R:=λacc C=>compPost (model X.prog X.w) X.A X.xe none (EP X pins σ Q) acc C) hc C eg ht hg htt hin I2 T st2 f2 lp ?_;intro σ' H' xs s3 s' C D hD0 hC hn a f fC hDC hout k;obtain⟨m,hn⟩:=hn;refine⟨m,hn,λh' hh=>?_⟩;have I5:=hout h' hh;obtain⟨hz,its,n,r,eD⟩:=a;have eD':h'.get? D=some { cls:=.type "list",data:=.seq its.toArray n }:=(hh.2 D (bc hDC)).trans eD;refine⟨.ref D,aM H' D (.lst xs),I5.adopt f hD0 ⟨hz,its,n,r,eD'⟩,rfl,k D f.1⟩
end
section
variable{X:Cx}
end
inductive Dt where
 |non|bl (b:Bool)|int (i:Int)|str (x:Str)|tup (xs:List Dt)|lst (xs:List Dt)|dct
mutual
def Den (P:ah->Prop) (H:Hp):Dt->V->Prop
 | .non,v=>v=.non
 | .bl b,v=>v=.bl b
 | .int i,v=>v=.int i
 | .str x,v=>v=.str x
 | .tup ds,v=>∃a vs,v=.ref a/\H a=some (.tup vs)/\DenL P H ds vs
 | .lst ds,v=>∃a vs,v=.ref a/\P a/\H a=some (.lst vs)/\DenL P H ds vs
 | .dct,v=>∃a,v=.ref a/\P a/\H a=some (.dK [])
def DenL (P:ah->Prop) (H:Hp):List Dt->List V->Prop
 | [],vs=>vs=[]
 |d::ds,vs=>∃v r,vs=v::r/\Den P H d v/\DenL P H ds r
end
theorem DenL.length {P:ah->Prop}{H:Hp}:∀{ds:List Dt}{vs:List V},DenL P H ds vs->vs.length=ds.length
 | [],vs,h=>by rw[DenL]at h;rw[h];rfl
 |d::ds,vs,h=>by rw[DenL]at h;obtain⟨v,r,rfl,_,h2⟩:=h;simp[DenL.length h2]
theorem DenL.get {P:ah->Prop}{H:Hp}:∀{ds:List Dt}{vs:List V}{i:Nat}{v:V},DenL P H ds vs->vs[i]?=some v->∃d,ds[i]?=some d/\Den P H d v
 | [],vs,i,v,h,e=>by rw[DenL]at h;rw[h]at e;simp at e
 |d::ds,vs,i,v,h,e=>by
  rw[DenL]at h;obtain⟨w,r,rfl,h1,h2⟩:=h
  cases i with
  |zero=>simp at e;subst e;exact⟨d,rfl,h1⟩
  |succ i=>simp at e;exact DenL.get (i:=i) h2 e
theorem DenL.nil {P:ah->Prop}{H:Hp}:DenL P H [] []:=by rw[DenL]
theorem DenL.cons {P:ah->Prop}{H:Hp}{d:Dt}{v:V}{ds:List Dt}{vs:List V}(h:Den P H d v) (t:DenL P H ds vs):DenL P H (d::ds) (v::vs):=by rw[DenL];exact⟨v,vs,rfl,h,t⟩
mutual
def bA:Dt->Dt->Bool
 | .non,.non=>true
 | .bl a,.bl b=>a==b
 | .bl a,.int j=>(if a then 1 else 0)==j
 | .int i,.bl b=>i==(if b then 1 else 0)
 | .int i,.int j=>i==j
 | .str x,.str y=>x==y
 | .tup xs,.tup ys=>fW xs ys
 | .lst xs,.lst ys=>fW xs ys
 |_,_=>false
def fW:List Dt->List Dt->Bool
 | [],[]=>true
 |x::xs,y::ys=>bA x y&&fW xs ys
 |_,_=>false
end
mutual
def dX:Dt->Nat
 | .tup xs=>jK xs+1
 | .lst xs=>jK xs+1
 |_=>0
def jK:List Dt->Nat
 | []=>0
 |x::xs=>max (dX x) (jK xs)
end
mutual
def nod:Dt->Bool
 | .tup xs=>gW xs
 | .lst xs=>gW xs
 | .dct=>false
 |_=>true
def gW:List Dt->Bool
 | []=>true
 |x::xs=>nod x&&gW xs
end
mutual
theorem xU:∀d:Dt,nod d=true->bA d d=true
 | .non,_=>rfl
 | .bl b,_=>by simp[bA]
 | .int i,_=>by simp[bA]
 | .str x,_=>by simp[bA]
 | .tup xs,h=>by rw[bA];exact xV xs (by rw[nod]at h;exact h)
 | .lst xs,h=>by rw[bA];exact xV xs (by rw[nod]at h;exact h)
 | .dct,h=>by simp[nod]at h
theorem xV:∀l:List Dt,gW l=true->fW l l=true
 | [],_=>rfl
 |x::xs,h=>by rw[gW,cy]at h;rw[fW,xU x h.1,xV xs h.2];rfl
end
theorem xW:∀{l:List Dt}{d:Dt},d∈l->dX d<=jK l
 |x::xs,d,h=>by
  rw[jK]
  rcases bg.mp h with rfl|h
  ·omega
  ·have:=xW h;omega
theorem pU:∀{l:List Dt}{d:Dt},gW l=true->d∈l->nod d=true
 |x::xs,d,h,hd=>by
  rw[gW,cy]at h
  rcases bg.mp hd with rfl|hd
  ·exact h.1
  ·exact pU h.2 hd
theorem pV:∀{xs ys:List Dt},xs.length=ys.length->fW xs ys=(bo xs.length).all λi=>bA (xs.getD i .non) (ys.getD i .non)
 | [],[],_=>rfl
 |x::xs,y::ys,h=>by rw[fW,pV (xs:=xs) (ys:=ys) (by simpa using h),cp,yf,List.all_cons,List.all_map];rfl
theorem pW:∀{xs ys:List Dt},xs.length≠ys.length->fW xs ys=false
 | [],[],h=>absurd rfl h
 | [],_::_,_=>rfl
 |_::_,[],_=>rfl
 |x::xs,y::ys,h=>by rw[fW,pW (xs:=xs) (ys:=ys) (by simpa using h),nq]
mutual
theorem Den.inj {P:ah->Prop}{H:Hp}:∀(d d':Dt) (v:V),Den P H d v->Den P H d' v->d=d'
 | .non,d',v,h,h'=>by
  rw[Den]at h;subst h
  cases d' <;> rw[Den]at h' <;> first|rfl|(obtain⟨_,_,e,_⟩:=h';cases e;done)|(obtain⟨_,e,_⟩:=h';cases e;done)|(cases h';done)
 | .bl b,d',v,h,h'=>by
  rw[Den]at h;subst h
  cases d' <;> rw[Den]at h' <;> first|(obtain⟨_,_,e,_⟩:=h';cases e;done)|(obtain⟨_,e,_⟩:=h';cases e;done)|(cases h';done)|(cases h';rfl)
 | .int b,d',v,h,h'=>by
  rw[Den]at h;subst h
  cases d' <;> rw[Den]at h' <;> first|(obtain⟨_,_,e,_⟩:=h';cases e;done)|(obtain⟨_,e,_⟩:=h';cases e;done)|(cases h';done)|(cases h';rfl)
 | .str b,d',v,h,h'=>by
  rw[Den]at h;subst h
  cases d' <;> rw[Den]at h' <;> first|(obtain⟨_,_,e,_⟩:=h';cases e;done)|(obtain⟨_,e,_⟩:=h';cases e;done)|(cases h';done)|(cases h';rfl)
 | .tup ds,d',v,h,h'=>by
  rw[Den]at h;obtain⟨a,vs,rfl,h1,h2⟩:=h
  cases d' with
  |tup ds'=>rw[Den]at h';obtain⟨a',vs',e,h1',h2'⟩:=h';cases e;rw[h1]at h1';cases h1';rw[DenL.inj ds ds' vs h2 h2']
  |lst ds'=>rw[Den]at h';obtain⟨a',vs',e,_,h1',h2'⟩:=h';cases e;rw[h1]at h1';cases h1'
  |dct=>rw[Den]at h';obtain⟨a',e,_,h1'⟩:=h';cases e;rw[h1]at h1';cases h1'
  |_=>rw[Den]at h';cases h'
 | .lst ds,d',v,h,h'=>by
  rw[Den]at h;obtain⟨a,vs,rfl,_,h1,h2⟩:=h
  cases d' with
  |tup ds'=>rw[Den]at h';obtain⟨a',vs',e,h1',h2'⟩:=h';cases e;rw[h1]at h1';cases h1'
  |lst ds'=>rw[Den]at h';obtain⟨a',vs',e,_,h1',h2'⟩:=h';cases e;rw[h1]at h1';cases h1';rw[DenL.inj ds ds' vs h2 h2']
  |dct=>rw[Den]at h';obtain⟨a',e,_,h1'⟩:=h';cases e;rw[h1]at h1';cases h1'
  |_=>rw[Den]at h';cases h'
 | .dct,d',v,h,h'=>by
  rw[Den]at h;obtain⟨a,rfl,_,h1⟩:=h
  cases d' with
  |tup ds'=>rw[Den]at h';obtain⟨a',vs',e,h1',h2'⟩:=h';cases e;rw[h1]at h1';cases h1'
  |lst ds'=>rw[Den]at h';obtain⟨a',vs',e,_,h1',h2'⟩:=h';cases e;rw[h1]at h1';cases h1'
  |dct=>rfl
  |_=>rw[Den]at h';cases h'
theorem DenL.inj {P:ah->Prop}{H:Hp}:∀(ds ds':List Dt) (vs:List V),DenL P H ds vs->DenL P H ds' vs->ds=ds'
 | [],ds',vs,h,h'=>by
  rw[DenL]at h;subst h
  cases ds' with
  |nil=>rfl
  |cons d ds'=>rw[DenL]at h';obtain⟨_,_,e,_⟩:=h';cases e
 |d::ds,ds',vs,h,h'=>by
  rw[DenL]at h;obtain⟨v,r,rfl,h1,h2⟩:=h
  cases ds' with
  |nil=>rw[DenL]at h';cases h'
  |cons d' ds'=>rw[DenL]at h';obtain⟨v',r',e,h1',h2'⟩:=h';cases e;rw[Den.inj d d' v h1 h1',DenL.inj ds ds' r h2 h2']
end
section
variable{Pg:bf}{w:cg}{P:ah->Prop}{H:Hp}{s:ag}
theorem eM (hok:HOk Pg w H s.heap) {a:ah}{vs:List V}(e:H a=some (.tup vs)):∃its:List af,Vals vs its/\s.heap.IsTuple a its.toArray:=by
 obtain⟨_,its,r,p⟩:=(show ObjOk Pg w H s.heap a (.tup vs) from hok a _ e)
 exact⟨its,r,p.tup⟩
theorem eO (hok:HOk Pg w H s.heap) {a:ah}{vs:List V}(e:H a=some (.lst vs)):∃its:List af,Vals vs its/\s.heap.IsList a its.toArray:=by
 obtain⟨_,its,n,r,p⟩:=(show ObjOk Pg w H s.heap a (.lst vs) from hok a _ e)
 exact⟨its,r,_,p,rfl,n,rfl⟩
theorem tE {vs:List V}{its:List af}(r:Vals vs its) {j:Nat}(h:j<its.toArray.size):∃v,vs[j]?=some v/\RelV v its.toArray[j]:=by
 have hl:=r.length;have h':j<its.length:=by simpa using h
 have hv:j<vs.length:=by omega
 obtain⟨u,e,q⟩:=r.get (i:=j) (x:=vs[j]) (az hv);refine⟨vs[j],az hv, ?_⟩;have:its.toArray[j]=u:=by have:its[j]?=some its[j]:=az h';rw[this]at e;simpa using e
 rw[this];exact q
theorem xX (hok:HOk Pg w H s.heap):∀(n:Nat) (A:cf) (d d':Dt) (v v':V) (u u':af),dX d<=n->A.units+n+1<cLine->nod d=true->nod d'=true->Den P H d v->Den P H d' v'->RelV v u->RelV v' u'->
  zf A s u u' (bA d d')/\qt A s u u' (bA d d'):=by
 intro n
 induction n with
 |zero=>
  intro A d d' v v' u u' hn hu n1 n2 h h' r r';have hu':A.units<cLine:=by omega
  cases d with
  |non=>
   rw[Den]at h;subst h;cases r
   cases d' with
   |non=>rw[Den]at h';subst h';cases r';exact⟨uk,om _⟩
   |bl b'=>rw[Den]at h';subst h';cases r';exact⟨um _,uq _⟩
   |int i'=>rw[Den]at h';subst h';obtain⟨t2,rfl⟩:=r';exact⟨vp _ _,vq _ _⟩
   |str x'=>rw[Den]at h';subst h';obtain⟨t2,rfl⟩:=r';exact⟨vt _ _,vv _ _⟩
   |tup ds'=>rw[Den]at h';obtain⟨a2,vs2,rfl,e2,g2⟩:=h';cases r';obtain⟨its2,q2,tp2⟩:=eM hok e2;exact⟨ua  tp2 hu',ub  tp2 hu'⟩
   |lst ds'=>rw[Den]at h';obtain⟨a2,vs2,rfl,_,e2,g2⟩:=h';cases r';obtain⟨its2,q2,tp2⟩:=eO hok e2;exact⟨ur  tp2 hu',uv  tp2 hu'⟩
   |dct=>simp[nod]at n2
  |bl b=>
   rw[Den]at h;subst h;cases r
   cases d' with
   |non=>rw[Den]at h';subst h';cases r';exact⟨uw _,ux _⟩
   |bl b'=>rw[Den]at h';subst h';cases r';exact⟨uy _ _,uz _ _⟩
   |int i'=>rw[Den]at h';subst h';obtain⟨t2,rfl⟩:=r';exact⟨vz _ _ _,wa _ _ _⟩
   |str x'=>rw[Den]at h';subst h';obtain⟨t2,rfl⟩:=r';exact⟨wb _ _ _,wc _ _ _⟩
   |tup ds'=>rw[Den]at h';obtain⟨a2,vs2,rfl,e2,g2⟩:=h';cases r';obtain⟨its2,q2,tp2⟩:=eM hok e2;exact⟨uc _ tp2 hu',ud _ tp2 hu'⟩
   |lst ds'=>rw[Den]at h';obtain⟨a2,vs2,rfl,_,e2,g2⟩:=h';cases r';obtain⟨its2,q2,tp2⟩:=eO hok e2;exact⟨v5 _ tp2 hu',v7 _ tp2 hu'⟩
   |dct=>simp[nod]at n2
  |int i=>
   rw[Den]at h;subst h;obtain⟨t1,rfl⟩:=r
   cases d' with
   |non=>rw[Den]at h';subst h';cases r';exact⟨wd _ _,we _ _⟩
   |bl b'=>rw[Den]at h';subst h';cases r';exact⟨wg _ _ _,wj _ _ _⟩
   |int i'=>rw[Den]at h';subst h';obtain⟨t2,rfl⟩:=r';exact⟨xl _ _ _ _,qd _ _ _ _⟩
   |str x'=>rw[Den]at h';subst h';obtain⟨t2,rfl⟩:=r';exact⟨xm _ _ _ _,q9 _ _ _ _⟩
   |tup ds'=>rw[Den]at h';obtain⟨a2,vs2,rfl,e2,g2⟩:=h';cases r';obtain⟨its2,q2,tp2⟩:=eM hok e2;exact⟨v8 _ _ tp2 hu',v9 _ _ tp2 hu'⟩
   |lst ds'=>rw[Den]at h';obtain⟨a2,vs2,rfl,_,e2,g2⟩:=h';cases r';obtain⟨its2,q2,tp2⟩:=eO hok e2;exact⟨wk _ _ tp2 hu',wm _ _ tp2 hu'⟩
   |dct=>simp[nod]at n2
  |str x=>
   rw[Den]at h;subst h;obtain⟨t1,rfl⟩:=r
   cases d' with
   |non=>rw[Den]at h';subst h';cases r';exact⟨wo _ _,wq _ _⟩
   |bl b'=>rw[Den]at h';subst h';cases r';exact⟨wt _ _ _,wu _ _ _⟩
   |int i'=>rw[Den]at h';subst h';obtain⟨t2,rfl⟩:=r';exact⟨xq _ _ _ _,qc _ _ _ _⟩
   |str x'=>rw[Den]at h';subst h';obtain⟨t2,rfl⟩:=r';exact⟨xr _ _ _ _,xu _ _ _ _⟩
   |tup ds'=>rw[Den]at h';obtain⟨a2,vs2,rfl,e2,g2⟩:=h';cases r';obtain⟨its2,q2,tp2⟩:=eM hok e2;exact⟨vc _ _ tp2 hu',ve _ _ tp2 hu'⟩
   |lst ds'=>rw[Den]at h';obtain⟨a2,vs2,rfl,_,e2,g2⟩:=h';cases r';obtain⟨its2,q2,tp2⟩:=eO hok e2;exact⟨wx _ _ tp2 hu',wy _ _ tp2 hu'⟩
   |dct=>simp[nod]at n2
  |tup ds=>rw[dX]at hn;omega
  |lst ds=>rw[dX]at hn;omega
  |dct=>simp[nod]at n1
 |succ n ih=>
  intro A d d' v v' u u' hn hu n1 n2 h h' r r';have hu':A.units<cLine:=by omega
  have hin:∀{vs vs':List V}{ds ds':List Dt}{its its':List af},jK ds<=n->gW ds=true->gW ds'=true->DenL P H ds vs->DenL P H ds' vs'->Vals vs its->Vals vs' its'->
    ∀j (h1:j<its.toArray.size) (h2:j<its'.toArray.size),qt A.in1 s its.toArray[j] its'.toArray[j] (bA (ds.getD j .non) (ds'.getD j .non)):=by
   intro vs vs' ds ds' its its' hd m1 m2 g g' q q' j h1 h2;obtain⟨x,ex,rx⟩:=tE q h1;obtain⟨x',ex',rx'⟩:=tE q' h2;obtain⟨dx,edx,gx⟩:=g.get ex;obtain⟨dx',edx',gx'⟩:=g'.get ex';have e1:ds.getD j .non=dx:=by simp[m8,edx]
   have e2:ds'.getD j .non=dx':=by simp[m8,edx']
   rw[e1,e2];have hm:=br edx;exact(ih A.in1 dx dx' x x' _ _ (dm (xW hm) hd) (by show A.units+1+n+1<cLine;omega) (pU m1 hm) (pU m2 (br edx')) gx gx' rx rx').2
  cases d with
  |non=>
   rw[Den]at h;subst h;cases r
   cases d' with
   |non=>rw[Den]at h';subst h';cases r';exact⟨uk,om _⟩
   |bl b'=>rw[Den]at h';subst h';cases r';exact⟨um _,uq _⟩
   |int i'=>rw[Den]at h';subst h';obtain⟨t2,rfl⟩:=r';exact⟨vp _ _,vq _ _⟩
   |str x'=>rw[Den]at h';subst h';obtain⟨t2,rfl⟩:=r';exact⟨vt _ _,vv _ _⟩
   |tup ds'=>rw[Den]at h';obtain⟨a2,vs2,rfl,e2,g2⟩:=h';cases r';obtain⟨its2,q2,tp2⟩:=eM hok e2;exact⟨ua  tp2 hu',ub  tp2 hu'⟩
   |lst ds'=>rw[Den]at h';obtain⟨a2,vs2,rfl,_,e2,g2⟩:=h';cases r';obtain⟨its2,q2,tp2⟩:=eO hok e2;exact⟨ur  tp2 hu',uv  tp2 hu'⟩
   |dct=>simp[nod]at n2
  |bl b=>
   rw[Den]at h;subst h;cases r
   cases d' with
   |non=>rw[Den]at h';subst h';cases r';exact⟨uw _,ux _⟩
   |bl b'=>rw[Den]at h';subst h';cases r';exact⟨uy _ _,uz _ _⟩
   |int i'=>rw[Den]at h';subst h';obtain⟨t2,rfl⟩:=r';exact⟨vz _ _ _,wa _ _ _⟩
   |str x'=>rw[Den]at h';subst h';obtain⟨t2,rfl⟩:=r';exact⟨wb _ _ _,wc _ _ _⟩
   |tup ds'=>rw[Den]at h';obtain⟨a2,vs2,rfl,e2,g2⟩:=h';cases r';obtain⟨its2,q2,tp2⟩:=eM hok e2;exact⟨uc _ tp2 hu',ud _ tp2 hu'⟩
   |lst ds'=>rw[Den]at h';obtain⟨a2,vs2,rfl,_,e2,g2⟩:=h';cases r';obtain⟨its2,q2,tp2⟩:=eO hok e2;exact⟨v5 _ tp2 hu',v7 _ tp2 hu'⟩
   |dct=>simp[nod]at n2
  |int i=>
   rw[Den]at h;subst h;obtain⟨t1,rfl⟩:=r
   cases d' with
   |non=>rw[Den]at h';subst h';cases r';exact⟨wd _ _,we _ _⟩
   |bl b'=>rw[Den]at h';subst h';cases r';exact⟨wg _ _ _,wj _ _ _⟩
   |int i'=>rw[Den]at h';subst h';obtain⟨t2,rfl⟩:=r';exact⟨xl _ _ _ _,qd _ _ _ _⟩
   |str x'=>rw[Den]at h';subst h';obtain⟨t2,rfl⟩:=r';exact⟨xm _ _ _ _,q9 _ _ _ _⟩
   |tup ds'=>rw[Den]at h';obtain⟨a2,vs2,rfl,e2,g2⟩:=h';cases r';obtain⟨its2,q2,tp2⟩:=eM hok e2;exact⟨v8 _ _ tp2 hu',v9 _ _ tp2 hu'⟩
   |lst ds'=>rw[Den]at h';obtain⟨a2,vs2,rfl,_,e2,g2⟩:=h';cases r';obtain⟨its2,q2,tp2⟩:=eO hok e2;exact⟨wk _ _ tp2 hu',wm _ _ tp2 hu'⟩
   |dct=>simp[nod]at n2
  |str x=>
   rw[Den]at h;subst h;obtain⟨t1,rfl⟩:=r
   cases d' with
   |non=>rw[Den]at h';subst h';cases r';exact⟨wo _ _,wq _ _⟩
   |bl b'=>rw[Den]at h';subst h';cases r';exact⟨wt _ _ _,wu _ _ _⟩
   |int i'=>rw[Den]at h';subst h';obtain⟨t2,rfl⟩:=r';exact⟨xq _ _ _ _,qc _ _ _ _⟩
   |str x'=>rw[Den]at h';subst h';obtain⟨t2,rfl⟩:=r';exact⟨xr _ _ _ _,xu _ _ _ _⟩
   |tup ds'=>rw[Den]at h';obtain⟨a2,vs2,rfl,e2,g2⟩:=h';cases r';obtain⟨its2,q2,tp2⟩:=eM hok e2;exact⟨vc _ _ tp2 hu',ve _ _ tp2 hu'⟩
   |lst ds'=>rw[Den]at h';obtain⟨a2,vs2,rfl,_,e2,g2⟩:=h';cases r';obtain⟨its2,q2,tp2⟩:=eO hok e2;exact⟨wx _ _ tp2 hu',wy _ _ tp2 hu'⟩
   |dct=>simp[nod]at n2
  |tup ds=>
   rw[Den]at h;obtain⟨a1,vs1,rfl,e1,g1⟩:=h;cases r;obtain⟨its1,q1,tp1⟩:=eM hok e1
   cases d' with
   |non=>rw[Den]at h';subst h';cases r';exact⟨SeqAt.RcAt.tuple_none  tp1 hu',SeqAt.EqAt.tuple_none  tp1 hu'⟩
   |bl b'=>rw[Den]at h';subst h';cases r';exact⟨SeqAt.RcAt.tuple_bool _ tp1 hu',SeqAt.EqAt.tuple_bool _ tp1 hu'⟩
   |int i'=>rw[Den]at h';subst h';obtain⟨t2,rfl⟩:=r';exact⟨SeqAt.RcAt.tuple_int _ _ tp1 hu',SeqAt.EqAt.tuple_int _ _ tp1 hu'⟩
   |str x'=>rw[Den]at h';subst h';obtain⟨t2,rfl⟩:=r';exact⟨SeqAt.RcAt.tuple_str _ _ tp1 hu',SeqAt.EqAt.tuple_str _ _ tp1 hu'⟩
   |tup ds'=>
    rw[Den]at h';obtain⟨a2,vs2,rfl,e2,g2⟩:=h';cases r';obtain⟨its2,q2,tp2⟩:=eM hok e2;rw[nod]at n1 n2;rw[dX]at hn;have hl1:=g1.length;have hl2:=g2.length;have hq1:=q1.length;have hq2:=q2.length;have key:zf A s (.ref a1) (.ref a2) (bA (.tup ds) (.tup ds')):=by
     rw[bA];have z:=SeqAt.RcAt.tuples (e:=λj=>bA (ds.getD j .non) (ds'.getD j .non)) tp1 tp2 hu' (hin (by omega) n1 n2 g1 g2 q1 q2);have s1:its1.toArray.size=ds.length:=by simp;omega
     have s2:its2.toArray.size=ds'.length:=by simp;omega
     rw[s1,s2]at z
     by_cases hlen:ds.length=ds'.length
     ·rw[pV hlen];rw[<-hlen,Nat.min_self]at z;simpa using z
     ·rw[pW hlen];rw[show(ds.length==ds'.length)=false from beq_eq_false_iff_ne.mpr hlen,nq]at z;exact z
    refine⟨key, ?_⟩
    by_cases hab:a1=a2
    ·subst hab;rw[e1]at e2;cases e2;rw[DenL.inj ds ds' _ g1 g2,xU _ (by rw[nod];exact n2)];exact om _
    ·exact xv hab key
   |lst ds'=>rw[Den]at h';obtain⟨a2,vs2,rfl,_,e2,g2⟩:=h';cases r';obtain⟨its2,q2,tp2⟩:=eO hok e2;exact⟨SeqAt.RcAt.tuple_list tp1 tp2 hu',SeqAt.EqAt.tuple_list tp1 tp2 hu'⟩
   |dct=>simp[nod]at n2
  |lst ds=>
   rw[Den]at h;obtain⟨a1,vs1,rfl,_,e1,g1⟩:=h;cases r;obtain⟨its1,q1,tp1⟩:=eO hok e1
   cases d' with
   |non=>rw[Den]at h';subst h';cases r';exact⟨SeqAt.RcAt.list_none  tp1 hu',SeqAt.EqAt.list_none  tp1 hu'⟩
   |bl b'=>rw[Den]at h';subst h';cases r';exact⟨SeqAt.RcAt.list_bool _ tp1 hu',SeqAt.EqAt.list_bool _ tp1 hu'⟩
   |int i'=>rw[Den]at h';subst h';obtain⟨t2,rfl⟩:=r';exact⟨SeqAt.RcAt.list_int _ _ tp1 hu',SeqAt.EqAt.list_int _ _ tp1 hu'⟩
   |str x'=>rw[Den]at h';subst h';obtain⟨t2,rfl⟩:=r';exact⟨SeqAt.RcAt.list_str _ _ tp1 hu',SeqAt.EqAt.list_str _ _ tp1 hu'⟩
   |tup ds'=>rw[Den]at h';obtain⟨a2,vs2,rfl,e2,g2⟩:=h';cases r';obtain⟨its2,q2,tp2⟩:=eM hok e2;exact⟨SeqAt.RcAt.list_tuple tp1 tp2 hu',SeqAt.EqAt.list_tuple tp1 tp2 hu'⟩
   |lst ds'=>
    rw[Den]at h';obtain⟨a2,vs2,rfl,_,e2,g2⟩:=h';cases r';obtain⟨its2,q2,tp2⟩:=eO hok e2;rw[nod]at n1 n2;rw[dX]at hn;have hl1:=g1.length;have hl2:=g2.length;have hq1:=q1.length;have hq2:=q2.length;have key:zf A s (.ref a1) (.ref a2) (bA (.lst ds) (.lst ds')):=by
     rw[bA]
     by_cases hlen:ds.length=ds'.length
     ·have z:=SeqAt.RcAt.lists (e:=λj=>bA (ds.getD j .non) (ds'.getD j .non)) tp1 tp2 (by simp;omega) hu' (hin (by omega) n1 n2 g1 g2 q1 q2);rw[pV hlen];simpa[hq1.symm,hl1]using z
     ·rw[pW hlen];exact SeqAt.RcAt.lists_lengths tp1 tp2 (by simp;omega) hu'
    refine⟨key, ?_⟩
    by_cases hab:a1=a2
    ·subst hab;rw[e1]at e2;cases e2;rw[DenL.inj ds ds' _ g1 g2,xU _ (by rw[nod];exact n2)];exact om _
    ·exact xv hab key
   |dct=>simp[nod]at n2
  |dct=>simp[nod]at n1
end
end L2
namespace L2.Mr
open PySem PySem.Spec PyProof.Rows
inductive Dv where
 |non|bl (b:Bool)|int (i:Int)|str (x:Str)|tup (xs:List Dv)|ref (i:Nat)|edc|exc (c:Nat)|scr
inductive Ob where
 |lst (xs:List Dv)
abbrev Hs:=List Ob
abbrev Ev:=List (Option Dv)
inductive Rs (α:Type) where
 |ok (a:α) (h:Hs)|ex (c:Nat) (h:Hs)|bad
def Rs.bind {α β:Type}(r:Rs α) (f:α->Hs->Rs β):Rs β:=match r with
 | .ok a h=>f a h
 | .ex c h=>.ex c h
 | .bad=>.bad
@[simp] theorem Rs.bind_ok {α β:Type}(a:α) (h:Hs) (f:α->Hs->Rs β):(Rs.ok a h).bind f=f a h:=rfl
@[simp] theorem Rs.bind_ex {α β:Type}(c:Nat) (h:Hs) (f:α->Hs->Rs β):(Rs.ex c h).bind f=.ex c h:=rfl
@[simp] theorem Rs.bind_bad {α β:Type}(f:α->Hs->Rs β):(Rs.bad).bind f=.bad:=rfl
abbrev M (α:Type):=Ev->Hs->Rs α
structure Cfg where
 K:ao
 cl:Nat->ah
 scr:List Int
 sa:ah
 tab:Option ah:=none
 lq:Str:=mn
def cN (C:af) (e T:ah) (a0:af) (h:ck):Prop:=∃oe vs,h.get? e=some oe/\oe.cls=C/\oe.data=.fields vs/\vs[0]?=some a0/\vs[1]?=some (.ref T)/\oe.dict=none
def tF (G:Cfg) (H:Hp) (c:Nat) (u:af):Prop:=∃e φ,u=.ref e/\H e=some (.ext φ)/\∀h,φ h->∃o,h.get? e=some o/\o.cls=.ref (G.cl c)
def xY:HO->Prop
 | .tup _=>True
 | .dK kvs=>kvs=[]
 | .frz _ _=>True
 |_=>False
def FzL (K:ao) (H:Hp) (a:ah) (xs:List V):Prop:=(∃o,H a=some (.frz o (.lst xs))) ∨
  ∃(o:Obj) (its:Array af) (n:Nat),K.lookup a=some o/\o.cls=.type "list"/\o.dict=none/\o.data=.seq its n/\its.size<=bq/\Vals xs its.toList
theorem FzL.sq {K:ao}{H:Hp}{a:ah}{xs:List V}(h:FzL K H a xs):SqL K H a xs:=by
 rcases h with⟨o,h⟩|h
 ·exact .inl (.inr ⟨o,h⟩)
 ·exact .inr h
theorem FzL.keep {K:ao}{H H':Hp}{a:ah}{xs:List V}(h:FzL K H a xs) (k:∀a o,xY o->H a=some o->H' a=some o):FzL K H' a xs:=by
 rcases h with⟨o,h⟩|h
 ·exact .inl ⟨o,k a _ trivial h⟩
 ·exact .inr h
mutual
def RelD (G:Cfg) (μ:Nat->ah) (n:Nat) (H:Hp):Dv->V->Prop
 | .non,v=>v=.non
 | .bl b,v=>v=.bl b
 | .int i,v=>v=.int i
 | .str x,v=>v=.str x
 | .tup ds,v=>∃a vs,v=.ref a/\H a=some (.tup vs)/\RelDL G μ n H ds vs
 | .ref i,v=>i<n/\v=.ref (μ i)
 | .edc,v=>∃a,v=.ref a/\H a=some (.dK [])
 | .exc c,v=>∃a o u,v=.ref a/\H a=some (.frz o u)/\o.cls=.ref (G.cl c)/\o.dict=none/\∃vs,o.data=.fields vs
 | .scr,v=>v=.ref G.sa/\FzL G.K H G.sa (G.scr.map V.int)
def RelDL (G:Cfg) (μ:Nat->ah) (n:Nat) (H:Hp):List Dv->List V->Prop
 | [],vs=>vs=[]
 |d::ds,vs=>∃v r,vs=v::r/\RelD G μ n H d v/\RelDL G μ n H ds r
end
structure Ext (μ:Nat->ah) (n:Nat) (H:Hp) (μ':Nat->ah) (n':Nat) (H':Hp):Prop where
 le:n<=n'
 mu:∀i,i<n->μ' i=μ i
 im:∀a o,xY o->H a=some o->H' a=some o
theorem Ext.refl {μ:Nat->ah}{n:Nat}{H:Hp}:Ext μ n H μ n H:=⟨ak _,λ_ _=>rfl,λ_ _ _ e=>e⟩
theorem Ext.trans {μ μ1 μ2:Nat->ah}{n n1 n2:Nat}{H H1 H2:Hp}(a:Ext μ n H μ1 n1 H1) (b:Ext μ1 n1 H1 μ2 n2 H2):Ext μ n H μ2 n2 H2:=⟨dm a.le b.le,λi hi=>(b.mu i (av hi a.le)).trans (a.mu i hi),λc o i e=>b.im c o i (a.im c o i e)⟩
section
variable{G:Cfg}{μ μ':Nat->ah}{n n':Nat}{H H':Hp}
mutual
theorem RelD.mono (x:Ext μ n H μ' n' H'):∀(d:Dv) (v:V),RelD G μ n H d v->RelD G μ' n' H' d v
 | .non,v,h=>h
 | .bl b,v,h=>h
 | .int i,v,h=>h
 | .str s,v,h=>h
 | .tup ds,v,h=>by obtain⟨a,vs,e,h1,h2⟩:=h;exact⟨a,vs,e,x.im a _ trivial h1,RelDL.mono x ds vs h2⟩
 | .ref i,v,h=>by obtain⟨h1,h2⟩:=h;exact⟨av h1 x.le,by rw[x.mu i h1];exact h2⟩
 | .edc,v,h=>by obtain⟨a,e,h1⟩:=h;exact⟨a,e,x.im a _ rfl h1⟩
 | .exc c,v,h=>by obtain⟨a,o,u,e,h1,h2⟩:=h;exact⟨a,o,u,e,x.im a _ trivial h1,h2⟩
 | .scr,v,h=>by obtain⟨h1,h2⟩:=h;exact⟨h1,h2.keep x.im⟩
theorem RelDL.mono (x:Ext μ n H μ' n' H'):∀(ds:List Dv) (vs:List V),RelDL G μ n H ds vs->RelDL G μ' n' H' ds vs
 | [],vs,h=>h
 |d::ds,vs,h=>by obtain⟨v,r,e,h1,h2⟩:=h;exact⟨v,r,e,RelD.mono x d v h1,RelDL.mono x ds r h2⟩
end
theorem RelDL.length:∀{ds:List Dv}{vs:List V},RelDL G μ n H ds vs->vs.length=ds.length
 | [],_,h=>by rw[RelDL]at h;subst h;rfl
 |d::ds,_,h=>by rw[RelDL]at h;obtain⟨v,r,rfl,_,h2⟩:=h;rw[cp,cp,RelDL.length h2]
theorem RelDL.get:∀{ds:List Dv}{vs:List V}{i:Nat}{d:Dv},RelDL G μ n H ds vs->ds[i]?=some d->∃v,vs[i]?=some v/\RelD G μ n H d v
 | [],_,_,_,_,e=>by simp at e
 |d::ds,_,0,d',h,e=>by rw[RelDL]at h;obtain⟨v,r,rfl,h1,_⟩:=h;simp at e;subst e;exact⟨v,rfl,h1⟩
 |d::ds,_,i+1,d',h,e=>by rw[RelDL]at h;obtain⟨v,r,rfl,_,h2⟩:=h;obtain⟨u,e1,h3⟩:=RelDL.get (i:=i) h2 (by simpa using e);exact⟨u,by simpa using e1,h3⟩
theorem RelDL.nil:RelDL G μ n H [] []:=by rw[RelDL]
theorem RelDL.cons {d:Dv}{v:V}{ds:List Dv}{vs:List V}(h:RelD G μ n H d v) (t:RelDL G μ n H ds vs):RelDL G μ n H (d::ds) (v::vs):=by rw[RelDL];exact⟨v,vs,rfl,h,t⟩
theorem RelDL.append:∀{ds es:List Dv}{vs ws:List V},RelDL G μ n H ds vs->RelDL G μ n H es ws->RelDL G μ n H (ds++es) (vs++ws)
 | [],_,_,_,h,h'=>by rw[RelDL]at h;subst h;exact h'
 |d::ds,_,_,_,h,h'=>by rw[RelDL]at h;obtain⟨v,r,rfl,h1,h2⟩:=h;exact RelDL.cons h1 (RelDL.append h2 h')
theorem RelDL.take:∀{ds:List Dv}{vs:List V}(k:Nat),RelDL G μ n H ds vs->RelDL G μ n H (ds.take k) (vs.take k)
 | [],_,k,h=>by rw[RelDL]at h;subst h;simp[RelDL.nil]
 |d::ds,_,0,h=>by simp[RelDL.nil]
 |d::ds,_,k+1,h=>by rw[RelDL]at h;obtain⟨v,r,rfl,h1,h2⟩:=h;exact RelDL.cons h1 (RelDL.take k h2)
theorem RelDL.drop:∀{ds:List Dv}{vs:List V}(k:Nat),RelDL G μ n H ds vs->RelDL G μ n H (ds.drop k) (vs.drop k)
 | [],_,k,h=>by rw[RelDL]at h;subst h;simp[RelDL.nil]
 |d::ds,_,0,h=>h
 |d::ds,_,k+1,h=>by rw[RelDL]at h;obtain⟨v,r,rfl,h1,h2⟩:=h;exact RelDL.drop k h2
theorem RelDL.set {x:Dv}{u:V}(hx:RelD G μ n H x u):∀{ds:List Dv}{vs:List V}(i:Nat),RelDL G μ n H ds vs->RelDL G μ n H (ds.set i x) (vs.set i u)
 | [],_,_,h=>by rw[RelDL]at h;subst h;exact RelDL.nil
 |d::ds,_,0,h=>by rw[RelDL]at h;obtain⟨v,r,rfl,h1,h2⟩:=h;exact RelDL.cons hx h2
 |d::ds,_,i+1,h=>by rw[RelDL]at h;obtain⟨v,r,rfl,h1,h2⟩:=h;exact RelDL.cons h1 (RelDL.set hx i h2)
end
def PX (G:Cfg) (μ:Nat->ah) (n:Nat) (H:Hp) (a:ah):Ob->Prop
 | .lst xs=>∃vs,H a=some (.lst vs)/\RelDL G μ n H xs vs
def tG (q:Str) (oc:Obj):Prop:=∃vs t,oc.data=.fields vs/\vs[1]?=some (.str q t)
def TabOk (G:Cfg) (H:Hp):Prop:=∀P,G.tab=some P->∃ps,H P=some (.tbl ps)/\rj ps.toList/\∀pos cv,codeAmong pos ps.toList=some cv->∃q oc,cv=.ref q/\H q=some (.frz oc (.own 0))/\tG G.lq oc
theorem TabOk.keep {G:Cfg}{H H':Hp}(t:TabOk G H) (k:∀a o,(∀xs,o≠.lst xs)->(∀φ,o≠.ext φ)->H a=some o->H' a=some o):TabOk G H':=λP e=>by obtain⟨ps,h1,h2,h3⟩:=t P e;refine⟨ps,k P _ (λ_ z=>by cases z) (λ_ z=>by cases z) h1,h2,λpos cv q=>?_⟩;obtain⟨a,oc,e1,e2,e3⟩:=h3 pos cv q;exact⟨a,oc,e1,k a _ (λ_ z=>by cases z) (λ_ z=>by cases z) e2,e3⟩
structure Sim (G:Cfg) (μ:Nat->ah) (h:Hs) (H:Hp):Prop where
 inj:∀i j,i<h.length->j<h.length->μ i=μ j->i=j
 ob:∀(i:Nat) (o:Ob),h[i]?=some o->PX G μ h.length H (μ i) o
 tab:TabOk G H
structure RelS (G:Cfg) (μ:Nat->ah) (n:Nat) (H:Hp) (ρ:Ev) (σ:St):Prop where
 len:ρ.length=σ.length
 at_:∀(i:Nat) (d:Dv),ρ[i]?=some (some d)->∃v,σ[i]?=some (some v)/\RelD G μ n H d v
theorem RelS.mono {G:Cfg}{μ μ':Nat->ah}{n n':Nat}{H H':Hp}{ρ:Ev}{σ:St}(r:RelS G μ n H ρ σ) (x:Ext μ n H μ' n' H'):RelS G μ' n' H' ρ σ:=⟨r.len,λi d e=>let ⟨v,e1,h⟩:=r.at_ i d e;⟨v,e1,RelD.mono x d v h⟩⟩
def Out {α β:Type}(G:Cfg) (E:XK) (μ:Nat->ah) (n:Nat) (H:Hp) (r:Rs α) (R:(Nat->ah)->Nat->Hp->α->β->Prop) (Q:β->Hp->Prop):Prop:=
 match r with
 | .ok d h'=>∀μ' H' v,Ext μ n H μ' h'.length H'->Sim G μ' h' H'->R μ' h'.length H' d v->Q v H'
 | .ex c h'=>∀μ' H' u,Ext μ n H μ' h'.length H'->Sim G μ' h' H'->tF G H' c u->E u none H'
 | .bad=>False
theorem Out.bind {α β γ δ:Type}{G:Cfg}{E:XK}{μ:Nat->ah}{n:Nat}{H:Hp}{r:Rs α}{f:α->Hs->Rs γ}{R:(Nat->ah)->Nat->Hp->γ->δ->Prop}{Q:δ->Hp->Prop}{R1:(Nat->ah)->Nat->Hp->α->β->Prop}
  (o:Out G E μ n H (r.bind f) R Q):Out G E μ n H r R1 λv H1=>∃μ1 d h1,Ext μ n H μ1 h1.length H1/\Sim G μ1 h1 H1/\R1 μ1 h1.length H1 d v/\Out G E μ1 h1.length H1 (f d h1) R Q:=by
 cases r with
 |bad=>exact o
 |ex c h'=>exact o
 |ok d h'=>
  intro μ1 H1 v x1 s1 r1;refine⟨μ1,d,h',x1,s1,r1, ?_⟩;have o':Out G E μ n H (f d h') R Q:=o
  cases e:f d h' with
  |bad=>rw[e]at o';exact o'
  |ex c h2=>rw[e]at o';exact λμ2 H2 u x2 s2 r2=>o' μ2 H2 u (x1.trans x2) s2 r2
  |ok d2 h2=>rw[e]at o';exact λμ2 H2 u x2 s2 r2=>o' μ2 H2 u (x1.trans x2) s2 r2
theorem Out.mono {α β:Type}{G:Cfg}{E:XK}{μ:Nat->ah}{n:Nat}{H:Hp}{r:Rs α}{R:(Nat->ah)->Nat->Hp->α->β->Prop}{Q Q':β->Hp->Prop}(o:Out G E μ n H r R Q) (h:∀v H',Q v H'->Q' v H'):Out G E μ n H r R Q':=by
 cases r with
 |bad=>exact o
 |ex c h'=>exact o
 |ok d h'=>exact λμ' H' v x s r=>h _ _ (o μ' H' v x s r)
abbrev RB:(Nat->ah)->Nat->Hp->Bool->Bool->Prop:=λ_ _ _ b b'=>b'=b
def eQ (G:Cfg) (E:XK) (m:M Dv):TE:=λσ H Q=>∃μ ρ h,RelS G μ h.length H ρ σ/\Sim G μ h H/\Out G E μ h.length H (m ρ h) (RelD G) Q
def iG (G:Cfg) (E:XK) (m:M Bool):TT:=λσ H Q=>∃μ ρ h,RelS G μ h.length H ρ σ/\Sim G μ h H/\Out G E μ h.length H (m ρ h) RB Q
def xZ (G:Cfg) (E:XK) (m:M (List Dv)):TA:=λσ H Q=>∃μ ρ h,RelS G μ h.length H ρ σ/\Sim G μ h H/\Out G E μ h.length H (m ρ h) (RelDL G) Q
def aG (X:Cx) (G:Cfg) (E:XK) (pe:bj) (m:M Dv):Prop:=X.K=G.K->PE X pe (eQ G E m)
def gK (X:Cx) (G:Cfg) (E:XK) (pe:bj) (m:M Bool):Prop:=X.K=G.K->PT X pe (iG G E m)
def cS (X:Cx) (G:Cfg) (E:XK) (pe:List bj) (m:M (List Dv)):Prop:=X.K=G.K->PA X pe (xZ G E m)
theorem PE.imp {X:Cx}{e:bj}{t t':TE}(h:PE X e t) (i:∀σ H Q,t' σ H Q->t σ H Q):PE X e t':=λpins s σ H Q I q=>h pins s σ H Q I (i σ H Q q)
theorem PT.imp {X:Cx}{e:bj}{t t':TT}(h:PT X e t) (i:∀σ H Q,t' σ H Q->t σ H Q):PT X e t':=λpins s σ H Q I q=>h pins s σ H Q I (i σ H Q q)
theorem PA.imp {X:Cx}{e:List bj}{t t':TA}(h:PA X e t) (i:∀σ H Q,t' σ H Q->t σ H Q):PA X e t':=λpos pins s σ H Q I q=>h pos pins s σ H Q I (i σ H Q q)
section
variable{G:Cfg}{E:XK}{σ:St}{H:Hp}
theorem cR {m:M Dv}{γ δ:Type}{f:Dv->Hs->Rs γ}{R:(Nat->ah)->Nat->Hp->γ->δ->Prop}{Q:δ->Hp->Prop}{Q1:V->Hp->Prop}{μ:Nat->ah}{ρ:Ev}{h:Hs}(rs:RelS G μ h.length H ρ σ) (s:Sim G μ h H) (o:Out G E μ h.length H ((m ρ h).bind f) R Q)
  (k:∀μ1 d h1 v H1,Ext μ h.length H μ1 h1.length H1->RelS G μ1 h1.length H1 ρ σ->Sim G μ1 h1 H1->RelD G μ1 h1.length H1 d v->Out G E μ1 h1.length H1 (f d h1) R Q->Q1 v H1):eQ G E m σ H Q1:=
 ⟨μ,ρ,h,rs,s,(o.bind (R1:=RelD G)).mono λv H1 ⟨μ1,d,h1,x,s1,r1,o1⟩=>k μ1 d h1 v H1 x (rs.mono x) s1 r1 o1⟩
theorem EK {m:M Bool}{γ δ:Type}{f:Bool->Hs->Rs γ}{R:(Nat->ah)->Nat->Hp->γ->δ->Prop}{Q:δ->Hp->Prop}{Q1:Bool->Hp->Prop}{μ:Nat->ah}{ρ:Ev}{h:Hs}(rs:RelS G μ h.length H ρ σ) (s:Sim G μ h H) (o:Out G E μ h.length H ((m ρ h).bind f) R Q)
  (k:∀μ1 b h1 H1,Ext μ h.length H μ1 h1.length H1->RelS G μ1 h1.length H1 ρ σ->Sim G μ1 h1 H1->Out G E μ1 h1.length H1 (f b h1) R Q->Q1 b H1):iG G E m σ H Q1:=
 ⟨μ,ρ,h,rs,s,(o.bind (R1:=RB)).mono λv H1 ⟨μ1,d,h1,x,s1,r1,o1⟩=>by have e:v=d:=r1;subst e;exact k μ1 v h1 H1 x (rs.mono x) s1 o1⟩
theorem iT {m:M (List Dv)}{γ δ:Type}{f:List Dv->Hs->Rs γ}{R:(Nat->ah)->Nat->Hp->γ->δ->Prop}{Q:δ->Hp->Prop}{Q1:List V->Hp->Prop}{μ:Nat->ah}{ρ:Ev}{h:Hs}(rs:RelS G μ h.length H ρ σ) (s:Sim G μ h H) (o:Out G E μ h.length H ((m ρ h).bind f) R Q)
  (k:∀μ1 d h1 v H1,Ext μ h.length H μ1 h1.length H1->RelS G μ1 h1.length H1 ρ σ->Sim G μ1 h1 H1->RelDL G μ1 h1.length H1 d v->Out G E μ1 h1.length H1 (f d h1) R Q->Q1 v H1):xZ G E m σ H Q1:=
 ⟨μ,ρ,h,rs,s,(o.bind (R1:=RelDL G)).mono λv H1 ⟨μ1,d,h1,x,s1,r1,o1⟩=>k μ1 d h1 v H1 x (rs.mono x) s1 r1 o1⟩
theorem Out.val {α β:Type}{μ:Nat->ah}{h:Hs}{d:α}{R:(Nat->ah)->Nat->Hp->α->β->Prop}{Q:β->Hp->Prop}{v:β}(s:Sim G μ h H) (o:Out G E μ h.length H (.ok d h) R Q) (r:R μ h.length H d v):Q v H:=o μ H v Ext.refl s r
end
section
variable{G:Cfg}{μ:Nat->ah}{h:Hs}{H H':Hp}{p:ah}{n:Nat}
theorem Ext.same (e:Same H H'):Ext μ n H μ n H':=⟨ak _,λ_ _=>rfl,λa o _ q=>e a o q⟩
theorem Sim.same (s:Sim G μ h H) (e:Same H H'):Sim G μ h H':=⟨s.inj,λi o q=>by
 have r:=s.ob i o q
 cases o with
 |lst xs=>obtain⟨vs,e1,r1⟩:=r;exact⟨vs,e _ _ e1,RelDL.mono (Ext.same e) _ _ r1⟩,s.tab.keep λa o _ _ q=>e a o q⟩
theorem bU {o:HO}(h:H p=none):Same H (aM H p o):=λb u e=>by rw[aZ (dU e h)];exact e
theorem Sim.not (s:Sim G μ h H) (hp:H p=none):∀(i:Nat),i<h.length->μ i≠p:=λi hi z=>by
 have q:h[i]?=some h[i]:=az hi;generalize h[i]=o at q
 cases o with
 |lst xs=>obtain⟨vs,e1,_⟩:=s.ob i _ q;rw[z,hp]at e1;cases e1
theorem Sim.alloc {ds:List Dv}{vs:List V}(s:Sim G μ h H) (hp:H p=none) (r:RelDL G μ h.length H ds vs):
  Ext μ h.length H (λi=>if i=h.length then p else μ i) (h++[Ob.lst ds]).length (aM H p (.lst vs))/\Sim G (λi=>if i=h.length then p else μ i) (h++[.lst ds]) (aM H p (.lst vs)):=by
 have hl:(h++[Ob.lst ds]).length=h.length+1:=by simp
 have hq:=s.not hp;have x:Ext μ h.length H (λi=>if i=h.length then p else μ i) (h++[Ob.lst ds]).length (aM H p (.lst vs)):=⟨by omega,λi hi=>if_neg (bc hi),λa o _ e=>bU hp a o e⟩
 refine⟨x,λi j hi hj e=>?_,λi o q=>?_,s.tab.keep λa o _ _ q=>bU hp a o q⟩
 ·rw[hl]at hi hj
  by_cases h1:i=h.length <;> by_cases h2:j=h.length
  ·omega
  ·rw[if_pos h1,if_neg h2]at e;exact absurd e.symm (hq j (by omega))
  ·rw[if_neg h1,if_pos h2]at e;exact absurd e (hq i (by omega))
  ·rw[if_neg h1,if_neg h2]at e;exact s.inj i j (by omega) (by omega) e
 ·by_cases h1:i<h.length
  ·rw[dh h1]at q;have r1:=s.ob i o q
   cases o with
   |lst xs=>obtain⟨ws,e1,r2⟩:=r1;exact⟨ws,by rw[if_neg (bc h1)];exact bU hp _ _ e1,RelDL.mono x _ _ r2⟩
  ·rw[dk (by omega)]at q;have h2:i=h.length:=by have:=(ax.mp q).1;simp at this;omega
   subst h2;simp at q;subst q;exact⟨vs,by rw[if_pos rfl];exact bX,RelDL.mono x _ _ r⟩
theorem Sim.write {xs ys:List Dv}{i:Nat}{vs:List V}(s:Sim G μ h H) (q:h[i]?=some (.lst xs)) (r:RelDL G μ h.length H ys vs):
  Ext μ h.length H μ (h.set i (.lst ys)).length (aM H (μ i) (.lst vs))/\Sim G μ (h.set i (.lst ys)) (aM H (μ i) (.lst vs)):=by
 obtain⟨us,e0,r0⟩:=s.ob i _ q;have hi:i<h.length:=(ax.mp q).1;have im:∀a o,xY o->H a=some o->aM H (μ i) (.lst vs) a=some o:=λa o m e=>by
  rw[aZ];exact e
  rintro rfl;rw[e0]at e;cases e;exact m
 have x:Ext μ h.length H μ (h.set i (.lst ys)).length (aM H (μ i) (.lst vs)):=⟨by simp,λ_ _=>rfl,im⟩
 refine⟨x,λa b ha hb=>?_,λj o e=>?_,s.tab.keep λa o n1 _ q=>?_⟩
 rotate_left 2
 ·rw[aZ];exact q
  rintro rfl;rw[e0]at q;cases q;exact n1 _ rfl
 ·rw[jr]at ha hb;exact s.inj a b ha hb
 ·by_cases hij:i=j
  ·subst hij;rw[di hi]at e;cases e;exact⟨vs,bX,RelDL.mono x _ _ r⟩
  ·rw[ed hij]at e;have hj:j<h.length:=(ax.mp e).1;have r1:=s.ob j o e;have ne:μ j≠μ i:=λz=>hij (s.inj j i hj hi z).symm
   cases o with
   |lst zs=>obtain⟨ws,e1,r2⟩:=r1;exact⟨ws,by rw[aZ ne];exact e1,RelDL.mono x _ _ r2⟩
end
def lim {α:Type}(n:Nat) (r:Rs α):Rs α:=if n<=1000000 then r else .bad
theorem jL {n:Nat}(h:n<=1000000):n<=bq:=dm h (by decide)
def getL (h:Hs) (i:Nat):Option (List Dv):=match h[i]? with
 |some (.lst xs)=>some xs
 |none=>none
theorem cT {h:Hs}{i:Nat}{xs:List Dv}(e:getL h i=some xs):h[i]?=some (.lst xs):=by
 unfold getL at e
 cases q:h[i]? with
 |none=>rw[q]at e;cases e
 |some o=>cases o;rw[q]at e;cases e;rfl
section
variable{X:Cx}{G:Cfg}{E:XK}{a b c:bj}{ma mb mc:M Dv}{pos:Pos}{es:List bj}{aQ:M (List Dv)}
def aB (i:Nat):M Dv:=λρ h=>match ρ[i]? with
 |some (some d)=>.ok d h
 |_=>.bad
theorem aE (i:Nat) {x:Str}(hN:X.N[i]?=some x:=by rfl) (hv:nW X.env.scope x:=by first|exact Or.inl rfl|exact Or.inr (Or.inl rfl)|exact Or.inr (Or.inr rfl))
  (hd:(x==("__debug__" : Str))=false:=by decide) (hcd:(x==("__classdict__" : Str))=false:=by decide):aG X G E (.Name x pos) (aB i):=λ_=>PE.imp (wZ hN hv hd hcd) λσ H Q ⟨μ,ρ,h,rs,s,o⟩=>by
 unfold aB at o
 split at o
 ·rename_i d e;obtain⟨v,e1,r⟩:=rs.at_ i d e;exact⟨v,e1,o.val s r⟩
 ·exact o.elim
def mC (d:Dv):M Dv:=λ_ h=>.ok d h
theorem aY {i j}:aG X G E (.Constant (.int i) j pos) (mC (.int i)):=λ_=>PE.imp LK λσ H Q ⟨μ,ρ,h,rs,s,o⟩=>o.val s (show RelD G μ _ H (.int i) (.int i) from rfl)
theorem iU {i j}:aG X G E (.Constant (.bool i) j pos) (mC (.bl i)):=λ_=>PE.imp LL λσ H Q ⟨μ,ρ,h,rs,s,o⟩=>o.val s (show RelD G μ _ H (.bl i) (.bl i) from rfl)
theorem EL {j}:aG X G E (.Constant .none j pos) (mC .non):=λ_=>PE.imp CD λσ H Q ⟨μ,ρ,h,rs,s,o⟩=>o.val s (show RelD G μ _ H .non .non from rfl)
theorem iH {x j}:aG X G E (.Constant (.str x) j pos) (mC (.str x)):=λ_=>PE.imp LM λσ H Q ⟨μ,ρ,h,rs,s,o⟩=>o.val s (show RelD G μ _ H (.str x) (.str x) from rfl)
def aC:M (List Dv):=λ_ h=>.ok [] h
def aA (m:M Dv) (ms:M (List Dv)):M (List Dv):=λρ h=>(m ρ h).bind λd h1=>(ms ρ h1).bind λds h2=>.ok (d::ds) h2
theorem aN:cS X G E [] aC:=λ_=>PA.imp gJ λσ H Q ⟨μ,ρ,h,rs,s,o⟩=>o.val s RelDL.nil
theorem aI (ha:aG X G E a ma) (hr:cS X G E es aQ) (hs:aq (a::es) X.env=(false,eval a X.env)::aq es X.env:=by rfl):cS X G E (a::es) (aA ma aQ):=λhK=>PA.imp (fK (ha hK) (hr hK) hs) λσ H Q ⟨μ,ρ,h,rs,s,o⟩=>cR rs s o λμ1 d h1 v H1 x1 rs1 s1 r1 o1=>iT rs1 s1 o1 λμ2 ds h2 vs H2 x2 rs2 s2 r2 o2=>o2.val s2 (RelDL.cons (RelD.mono x2 _ _ r1) r2)
def aJ (ms:M (List Dv)):M Dv:=λρ h=>(ms ρ h).bind λds h1=>lim ds.length (.ok (.tup ds) h1)
theorem lQ {k} (h:cS X G E es aQ):aG X G E (.Tuple es k pos) (aJ aQ):=λhK=>PE.imp (CW (h hK)) λσ H Q ⟨μ,ρ,h,rs,s,o⟩=>iT rs s o λμ1 ds h1 vs H1 x1 rs1 s1 r1 o1=>by
 unfold lim at o1
 split at o1
 ·rename_i hl;refine⟨by rw[r1.length];exact jL hl,λp hp=>?_⟩;exact o1 μ1 _ _ (Ext.same (bU hp)) (s1.same (bU hp)) ⟨p,vs,rfl,bX,RelDL.mono (Ext.same (bU hp)) _ _ r1⟩
 ·exact o1.elim
def aU (ms:M (List Dv)):M Dv:=λρ h=>(ms ρ h).bind λds h1=>lim ds.length (.ok (.ref h1.length) (h1++[.lst ds]))
theorem nZ {μ:Nat->ah}{h:Hs}{H:Hp}{ds:List Dv}{vs:List V}{Q:VK}{p:ah}(s:Sim G μ h H) (r:RelDL G μ h.length H ds vs) (hp:H p=none) (o:Out G E μ h.length H (.ok (.ref h.length) (h++[.lst ds])) (RelD G) Q):Q (.ref p) (aM H p (.lst vs)):=by obtain⟨x,s'⟩:=s.alloc hp r;exact o _ _ _ x s' ⟨by simp,by show V.ref p=V.ref (if h.length=h.length then p else μ h.length);rw[if_pos rfl]⟩
theorem gL (h:cS X G E es aQ):aG X G E (.List es pos) (aU aQ):=λhK=>PE.imp (N1 (h hK)) λσ H Q ⟨μ,ρ,h,rs,s,o⟩=>iT rs s o λμ1 ds h1 vs H1 x1 rs1 s1 r1 o1=>by
 unfold lim at o1
 split at o1
 ·rename_i hl;exact⟨by rw[r1.length];exact jL hl,λp hp=>nZ s1 r1 hp o1⟩
 ·exact o1.elim
def m2 (f:Dv->Dv->Hs->Rs Dv) (ma mb:M Dv):M Dv:=λρ h=>(ma ρ h).bind λx h1=>(mb ρ h1).bind λy h2=>f x y h2
def dO (G:Cfg) (r:R2) (f:Dv->Dv->Hs->Rs Dv):Prop:=∀(E:XK) (μ:Nat->ah) (h:Hs) (H:Hp) (x y:Dv) (vx vy:V) (Q:VK),Sim G μ h H->RelD G μ h.length H x vx->RelD G μ h.length H y vy->Out G E μ h.length H (f x y h) (RelD G) Q->r vx vy H Q
theorem oA {r:R2}{f:Dv->Dv->Hs->Rs Dv}(hd:dO G r f) {σ:St}{H:Hp}{Q:VK}(t:eQ G E (m2 f ma mb) σ H Q):pM r (eQ G E ma) (eQ G E mb) σ H Q:=by obtain⟨μ,ρ,h,rs,s,o⟩:=t;exact cR rs s o λμ1 x h1 vx H1 x1 rs1 s1 r1 o1=>cR rs1 s1 o1 λμ2 y h2 vy H2 x2 rs2 s2 r2 o2=>hd E μ2 h2 H2 x y vx vy Q s2 (RelD.mono x2 _ _ r1) r2 o2
theorem mR {op:Operator}{r:R2}{f:Dv->Dv->Hs->Rs Dv}(ho:OpR X (binaryOp op) r) (hd:dO G r f) (ha:aG X G E a ma) (hb:aG X G E b mb):aG X G E (.BinOp a op b pos) (m2 f ma mb):=λhK=>PE.imp (NB ho (ha hK) (hb hK)) λ_ _ _ t=>oA hd t
theorem tH {op:CmpOp}{r:R2}{f:Dv->Dv->Hs->Rs Dv}(ho:OpR X (compareOp op) r) (hd:dO G r f) (ha:aG X G E a ma) (hb:aG X G E b mb) (hm:behindInMarks op b=false):aG X G E (.Compare a [op] [b] pos) (m2 f ma mb):=λhK=>PE.imp (NM ho (ha hK) (hb hK) hm) λ_ _ _ t=>oA hd t
def fO:Dv->Hs->Rs Bool
 | .bl b,h=>.ok b h
 |_,_=>.bad
def mB (m:M Dv):M Bool:=λρ h=>(m ρ h).bind fO
theorem PY {m:M Dv}{σ:St}{H:Hp}{Q:Bool->Hp->Prop}(t:iG G E (mB m) σ H Q):eQ G E m σ H λx H'=>∃k,x=.bl k/\Q k H':=by
 obtain⟨μ,ρ,h,rs,s,o⟩:=t;refine cR rs s o λμ1 x h1 vx H1 x1 rs1 s1 r1 o1=>?_
 cases x with
 |bl k=>exact⟨k,r1,o1.val s1 rfl⟩
 |_=>exact o1.elim
theorem tI {op:CmpOp}{r:R2}{f:Dv->Dv->Hs->Rs Dv}(ho:OpR X (compareOp op) r) (hd:dO G r f) (ha:aG X G E a ma) (hb:aG X G E b mb) (hm:behindInMarks op b=false):gK X G E (.Compare a [op] [b] pos) (mB (m2 f ma mb)):=λhK=>PT.imp (NO ho (ha hK) (hb hK) hm) λσ H Q t=>oA hd (PY t)
def oC (f f':Dv->Dv->Hs->Rs Dv) (ma mb mc:M Dv):M Dv:=λρ h=>(ma ρ h).bind λx h1=>(mb ρ h1).bind λy h2=>(f x y h2).bind λz h3=>match z with
 | .bl true=>(mc ρ h3).bind λw h4=>f' y w h4
 | .bl false=>.ok (.bl false) h3
 |_=>.bad
theorem PZ {r r':R2}{f f':Dv->Dv->Hs->Rs Dv}(hd:dO G r f) (hd':dO G r' f') {σ:St}{H:Hp}{Q:VK}(t:eQ G E (oC f f' ma mb mc) σ H Q):CQ r r' (eQ G E ma) (eQ G E mb) (eQ G E mc) σ H Q:=by
 obtain⟨μ,ρ,h,rs,s,o⟩:=t;refine cR rs s o λμ1 x h1 vx H1 x1 rs1 s1 r1 o1=>cR rs1 s1 o1 λμ2 y h2 vy H2 x2 rs2 s2 r2 o2=>?_;refine hd E μ2 h2 H2 x y vx vy _ s2 (RelD.mono x2 _ _ r1) r2 ((o2.bind (R1:=RelD G)).mono λvz H3 ⟨μ3,z,h3,x3,s3,r3,o3⟩=>?_)
 cases z with
 |bl k=>
  refine⟨k,r3, ?_⟩
  cases k with
  |true=>exact DX (cR (rs2.mono x3) s3 o3 λμ4 w h4 vw H4 x4 mM s4 r4 o4=>hd' E μ4 h4 H4 y w vy vw Q s4 (RelD.mono (x3.trans x4) _ _ r2) r4 o4)
  |false=>exact DW (o3.val s3 rfl)
 |_=>exact o3.elim
theorem P0 {op op':CmpOp}{r r':R2}{f f':Dv->Dv->Hs->Rs Dv}(ho:OpR X (compareOp op) r) (ho':OpR X (compareOp op') r') (hd:dO G r f) (hd':dO G r' f') (ha:aG X G E a ma) (hb:aG X G E b mb) (hc:aG X G E c mc)
  (hm:lastMarks [op,op'] [b,c]=false:=by with_unfolding_all rfl):aG X G E (.Compare a [op,op'] [b,c] pos) (oC f f' ma mb mc):=λhK=>
 PE.imp (NP ho ho' (ha hK) (hb hK) (hc hK) hm) λ_ _ _ t=>PZ hd hd' t
def jM (G:Cfg) (r:V->Hp->VK->Prop) (f:Dv->Hs->Rs Dv):Prop:=∀(E:XK) (μ:Nat->ah) (h:Hs) (H:Hp) (x:Dv) (vx:V) (Q:VK),Sim G μ h H->RelD G μ h.length H x vx->Out G E μ h.length H (f x h) (RelD G) Q->r vx H Q
def m1 (f:Dv->Hs->Rs Dv) (ma:M Dv):M Dv:=λρ h=>(ma ρ h).bind f
theorem P4 {op:UnaryOp}{r:V->Hp->VK->Prop}{f:Dv->Hs->Rs Dv}(ho:sP X (unaryOp op) r) (hd:jM G r f) (ha:aG X G E a ma):aG X G E (.UnaryOp op a pos) (m1 f ma):=λhK=>PE.imp (NC ho (ha hK)) λσ H Q ⟨μ,ρ,h,rs,s,o⟩=>cR rs s o λμ1 x h1 vx H1 x1 rs1 s1 r1 o1=>hd E μ1 h1 H1 x vx Q s1 r1 o1
variable{tA tB':M Bool}{rest:List bj}
def dY (t u:M Bool):M Bool:=λρ h=>(t ρ h).bind λc h1=>if c=true then .ok true h1 else u ρ h1
def cJ (t:M Bool):M Bool:=λρ h=>(t ρ h).bind λc h1=>.ok (!c) h1
def SndW (X:Cx) (G:Cfg) (E:XK) (pe:bj) (m:M Bool):Prop:=X.K=G.K->PW X pe (iG G E m)
theorem SndW.t {pe:bj}{m:M Bool}(h:SndW X G E pe m):gK X G E pe m:=λhK=>(h hK).pt
theorem PW.imp {e:bj}{t t':TT}(h:PW X e t) (i:∀σ H Q,t' σ H Q->t σ H Q):PW X e t':=λwh pins s σ H Q I q=>h wh pins s σ H Q I (i σ H Q q)
theorem mS (ha:gK X G E a tA):SndW X G E (.BoolOp .Or [a] pos) tA:=λhK=>LO (ha hK)
theorem P5 {σ:St}{H:Hp}{Q:Bool->Hp->Prop}(t:iG G E (dY tA tB') σ H Q):CF (iG G E tA) (iG G E tB') σ H Q:=by
 obtain⟨μ,ρ,h,rs,s,o⟩:=t;refine EK rs s o λμ1 k h1 H1 x1 rs1 s1 o1=>?_
 cases k with
 |false=>rw[if_neg (by decide)]at o1 ⊢;exact⟨μ1,ρ,h1,rs1,s1,o1⟩
 |true=>rw[if_pos rfl]at o1 ⊢;exact o1.val s1 rfl
theorem mT (ha:gK X G E a tA) (hb:SndW X G E (.BoolOp .Or (b::rest) pos) tB'):SndW X G E (.BoolOp .Or (a::b::rest) pos) (dY tA tB'):=λhK=>PW.imp (LP (ha hK) (hb hK)) λ_ _ _ t=>P5 t
theorem iV (ha:gK X G E a tA):gK X G E (.UnaryOp .Not a pos) (cJ tA):=λhK=>PT.imp (LQ (ha hK)) λσ H Q ⟨μ,ρ,h,rs,s,o⟩=>EK rs s o λμ1 k h1 H1 x1 rs1 s1 o1=>o1.val s1 rfl
def dJ (m u:M Dv):M Dv:=λρ h=>(m ρ h).bind λd h1=>match d with
 | .bl true=>u ρ h1
 | .bl false=>.ok (.bl false) h1
 |_=>.bad
def oD:Dv->Hs->Rs Dv
 | .bl b,h=>.ok (.bl (!b)) h
 |_,_=>.bad
theorem oE {op} {m:M Dv}(h:aG X G E a m):aG X G E (.BoolOp op [a] pos) m:=λhK=>LV (h hK)
theorem oF (ha:aG X G E a ma) (hb:aG X G E (.BoolOp .And (b::rest) pos) mb):aG X G E (.BoolOp .And (a::b::rest) pos) (dJ ma mb):=λhK=>PE.imp (LW (ha hK) (hb hK)) λσ H Q ⟨μ,ρ,h,rs,s,o⟩=>
 cR rs s o λμ1 x h1 vx H1 x1 rs1 s1 r1 o1=>by
  cases x with
  |bl k=>
   refine⟨k,r1, ?_⟩
   cases k with
   |true=>exact DX ⟨μ1,ρ,h1,rs1,s1,o1⟩
   |false=>exact DW (o1.val s1 rfl)
  |_=>exact o1.elim
theorem EM (ha:aG X G E a ma):aG X G E (.UnaryOp .Not a pos) (m1 oD ma):=λhK=>PE.imp (LX (ha hK)) λσ H Q ⟨μ,ρ,h,rs,s,o⟩=>
 cR rs s o λμ1 x h1 vx H1 x1 rs1 s1 r1 o1=>by
  cases x with
  |bl k=>exact⟨k,r1,o1.val s1 rfl⟩
  |_=>exact o1.elim
def eC:Dv->Hs->Rs Bool
 | .non,h=>.ok false h
 | .bl b,h=>.ok b h
 | .int i,h=>.ok (i != 0) h
 | .tup xs,h=>.ok (!xs.isEmpty) h
 | .ref i,h=>match getL h i with
  |some xs=>.ok (!xs.isEmpty) h
  |none=>.bad
 |_,_=>.bad
def bH (m:M Dv):M Bool:=λρ h=>(m ρ h).bind eC
theorem EN {μ:Nat->ah}{n:Nat}{H:Hp}{ds:List Dv}{vs:List V}(r:RelDL G μ n H ds vs):vs.isEmpty=ds.isEmpty:=by
 have:=r.length
 cases ds <;> cases vs <;> simp_all
theorem fX (ha:aG X G E a ma) (he:∀whole,isTrue a X.env whole=(do let v <-whole;standAt a.pos;holding [v] (truthy v)):=by intro _;rfl):gK X G E a (bH ma):=λhK=>PT.imp (NS (ha hK) he) λσ H Q ⟨μ,ρ,h,rs,s,o⟩=>
 cR rs s o λμ1 x h1 vx H1 x1 rs1 s1 r1 o1=>by
  cases x with
  |non=>rw[RelD]at r1;subst r1;exact⟨_,rfl,o1.val s1 rfl⟩
  |bl k=>rw[RelD]at r1;subst r1;exact⟨_,rfl,o1.val s1 rfl⟩
  |int i=>rw[RelD]at r1;subst r1;exact⟨_,rfl,o1.val s1 rfl⟩
  |tup ds=>obtain⟨p,vs,rfl,e,r⟩:=r1;exact⟨_,.inr (.inl ⟨vs,SqT.of e,rfl⟩),by rw[EN r];exact o1.val s1 rfl⟩
  |ref i=>
   obtain⟨hi,rfl⟩:=r1;dsimp only[eC]at o1
   cases q:getL h1 i with
   |none=>rw[q]at o1;exact o1.elim
   |some xs=>obtain⟨vs,e,r⟩:=s1.ob i _ (cT q);rw[q]at o1;exact⟨_,.inl ⟨vs,SqL.of e,rfl⟩,by rw[EN r];exact o1.val s1 rfl⟩
  |_=>exact o1.elim
end
end L2.Mr
namespace L2
open PySem PySem.Spec PyProof.Rows
section
variable{Pg:bf}{w:cg}{P:ah->Prop}{H:Hp}{s:ag}
theorem P6 (hok:HOk Pg w H s.heap) (n:Nat) (A:cf) (d d':Dt) (v v':V) (u u':af) (hn:dX d<=n) (hu:A.units+n+1<cLine) (n1:nod d=true) (n2:nod d'=true) (h:Den P H d v) (h':Den P H d' v') (r:RelV v u) (r':RelV v' u'):
  SeqAt.RcNeAt A s u u' (!bA d d'):=by
 have hu':A.units<cLine:=by omega
 have hin:∀{vs vs':List V}{ds ds':List Dt}{its its':List af},jK ds+1<=n->gW ds=true->gW ds'=true->DenL P H ds vs->DenL P H ds' vs'->Vals vs its->Vals vs' its'->
   ∀j (h1:j<its.toArray.size) (h2:j<its'.toArray.size),qt A.in1 s its.toArray[j] its'.toArray[j] (bA (ds.getD j .non) (ds'.getD j .non)):=by
  intro vs vs' ds ds' its its' hd m1 m2 g g' q q' j h1 h2;obtain⟨x,ex,rx⟩:=tE q h1;obtain⟨x',ex',rx'⟩:=tE q' h2;obtain⟨dx,edx,gx⟩:=g.get ex;obtain⟨dx',edx',gx'⟩:=g'.get ex';have e1:ds.getD j .non=dx:=by simp[m8,edx]
  have e2:ds'.getD j .non=dx':=by simp[m8,edx']
  rw[e1,e2];have hm:=br edx;have hdm:=xW hm;exact(xX hok (n - 1) A.in1 dx dx' x x' _ _ (by omega) (by show A.units+1+(n - 1)+1<cLine;omega) (pU m1 hm) (pU m2 (br edx')) gx gx' rx rx').2
 cases d with
 |non=>
  rw[Den]at h;subst h;cases r
  cases d' with
  |non=>rw[Den]at h';subst h';cases r';exact SeqAt.RcNeAt.none_none
  |bl b'=>rw[Den]at h';subst h';cases r';exact SeqAt.RcNeAt.none_bool  _
  |int i'=>rw[Den]at h';subst h';obtain⟨t2,rfl⟩:=r';exact SeqAt.RcNeAt.none_int  _ _
  |str x'=>rw[Den]at h';subst h';obtain⟨t2,rfl⟩:=r';exact SeqAt.RcNeAt.none_str  _ _
  |tup ds'=>rw[Den]at h';obtain⟨a2,vs2,rfl,e2,g2⟩:=h';cases r';obtain⟨its2,q2,tp2⟩:=eM hok e2;exact SeqAt.RcNeAt.none_tuple  tp2 hu'
  |lst ds'=>rw[Den]at h';obtain⟨a2,vs2,rfl,_,e2,g2⟩:=h';cases r';obtain⟨its2,q2,tp2⟩:=eO hok e2;exact SeqAt.RcNeAt.none_list  tp2 hu'
  |dct=>simp[nod]at n2
 |bl b=>
  rw[Den]at h;subst h;cases r
  cases d' with
  |non=>rw[Den]at h';subst h';cases r';exact SeqAt.RcNeAt.bool_none _
  |bl b'=>rw[Den]at h';subst h';cases r';exact SeqAt.RcNeAt.bool_bool _ _
  |int i'=>rw[Den]at h';subst h';obtain⟨t2,rfl⟩:=r';exact SeqAt.RcNeAt.bool_int _ _ _
  |str x'=>rw[Den]at h';subst h';obtain⟨t2,rfl⟩:=r';exact SeqAt.RcNeAt.bool_str _ _ _
  |tup ds'=>rw[Den]at h';obtain⟨a2,vs2,rfl,e2,g2⟩:=h';cases r';obtain⟨its2,q2,tp2⟩:=eM hok e2;exact SeqAt.RcNeAt.bool_tuple _ tp2 hu'
  |lst ds'=>rw[Den]at h';obtain⟨a2,vs2,rfl,_,e2,g2⟩:=h';cases r';obtain⟨its2,q2,tp2⟩:=eO hok e2;exact SeqAt.RcNeAt.bool_list _ tp2 hu'
  |dct=>simp[nod]at n2
 |int i=>
  rw[Den]at h;subst h;obtain⟨t1,rfl⟩:=r
  cases d' with
  |non=>rw[Den]at h';subst h';cases r';exact SeqAt.RcNeAt.int_none _ _
  |bl b'=>rw[Den]at h';subst h';cases r';exact SeqAt.RcNeAt.int_bool _ _ _
  |int i'=>rw[Den]at h';subst h';obtain⟨t2,rfl⟩:=r';exact SeqAt.RcNeAt.int_int _ _ _ _
  |str x'=>rw[Den]at h';subst h';obtain⟨t2,rfl⟩:=r';exact SeqAt.RcNeAt.int_str _ _ _ _
  |tup ds'=>rw[Den]at h';obtain⟨a2,vs2,rfl,e2,g2⟩:=h';cases r';obtain⟨its2,q2,tp2⟩:=eM hok e2;exact SeqAt.RcNeAt.int_tuple _ _ tp2 hu'
  |lst ds'=>rw[Den]at h';obtain⟨a2,vs2,rfl,_,e2,g2⟩:=h';cases r';obtain⟨its2,q2,tp2⟩:=eO hok e2;exact SeqAt.RcNeAt.int_list _ _ tp2 hu'
  |dct=>simp[nod]at n2
 |str x=>
  rw[Den]at h;subst h;obtain⟨t1,rfl⟩:=r
  cases d' with
  |non=>rw[Den]at h';subst h';cases r';exact SeqAt.RcNeAt.str_none _ _
  |bl b'=>rw[Den]at h';subst h';cases r';exact SeqAt.RcNeAt.str_bool _ _ _
  |int i'=>rw[Den]at h';subst h';obtain⟨t2,rfl⟩:=r';exact SeqAt.RcNeAt.str_int _ _ _ _
  |str x'=>rw[Den]at h';subst h';obtain⟨t2,rfl⟩:=r';exact SeqAt.RcNeAt.str_str _ _ _ _
  |tup ds'=>rw[Den]at h';obtain⟨a2,vs2,rfl,e2,g2⟩:=h';cases r';obtain⟨its2,q2,tp2⟩:=eM hok e2;exact SeqAt.RcNeAt.str_tuple _ _ tp2 hu'
  |lst ds'=>rw[Den]at h';obtain⟨a2,vs2,rfl,_,e2,g2⟩:=h';cases r';obtain⟨its2,q2,tp2⟩:=eO hok e2;exact SeqAt.RcNeAt.str_list _ _ tp2 hu'
  |dct=>simp[nod]at n2
 |tup ds=>
  rw[Den]at h;obtain⟨a1,vs1,rfl,e1,g1⟩:=h;cases r;obtain⟨its1,q1,tp1⟩:=eM hok e1
  cases d' with
  |non=>rw[Den]at h';subst h';cases r';exact SeqAt.RcNeAt.tuple_none  tp1 hu'
  |bl b'=>rw[Den]at h';subst h';cases r';exact SeqAt.RcNeAt.tuple_bool _ tp1 hu'
  |int i'=>rw[Den]at h';subst h';obtain⟨t2,rfl⟩:=r';exact SeqAt.RcNeAt.tuple_int _ _ tp1 hu'
  |str x'=>rw[Den]at h';subst h';obtain⟨t2,rfl⟩:=r';exact SeqAt.RcNeAt.tuple_str _ _ tp1 hu'
  |tup ds'=>
   rw[Den]at h';obtain⟨a2,vs2,rfl,e2,g2⟩:=h';cases r';obtain⟨its2,q2,tp2⟩:=eM hok e2;rw[nod]at n1 n2;rw[dX]at hn;have hl1:=g1.length;have hl2:=g2.length;have hq1:=q1.length;have hq2:=q2.length;rw[bA];have z:=SeqAt.RcNeAt.tuples (e:=λj=>bA (ds.getD j .non) (ds'.getD j .non)) tp1 tp2 hu' (hin hn n1 n2 g1 g2 q1 q2);have s1:its1.toArray.size=ds.length:=by simp;omega
   have s2:its2.toArray.size=ds'.length:=by simp;omega
   rw[s1,s2]at z
   by_cases hlen:ds.length=ds'.length
   ·rw[pV hlen];rw[<-hlen,Nat.min_self]at z;simpa using z
   ·rw[pW hlen];rw[show(ds.length==ds'.length)=false from beq_eq_false_iff_ne.mpr hlen,nq]at z;exact z
  |lst ds'=>rw[Den]at h';obtain⟨a2,vs2,rfl,_,e2,g2⟩:=h';cases r';obtain⟨its2,q2,tp2⟩:=eO hok e2;exact SeqAt.RcNeAt.tuple_list tp1 tp2 hu'
  |dct=>simp[nod]at n2
 |lst ds=>
  rw[Den]at h;obtain⟨a1,vs1,rfl,_,e1,g1⟩:=h;cases r;obtain⟨its1,q1,tp1⟩:=eO hok e1
  cases d' with
  |non=>rw[Den]at h';subst h';cases r';exact SeqAt.RcNeAt.list_none  tp1 hu'
  |bl b'=>rw[Den]at h';subst h';cases r';exact SeqAt.RcNeAt.list_bool _ tp1 hu'
  |int i'=>rw[Den]at h';subst h';obtain⟨t2,rfl⟩:=r';exact SeqAt.RcNeAt.list_int _ _ tp1 hu'
  |str x'=>rw[Den]at h';subst h';obtain⟨t2,rfl⟩:=r';exact SeqAt.RcNeAt.list_str _ _ tp1 hu'
  |tup ds'=>rw[Den]at h';obtain⟨a2,vs2,rfl,e2,g2⟩:=h';cases r';obtain⟨its2,q2,tp2⟩:=eM hok e2;exact SeqAt.RcNeAt.list_tuple tp1 tp2 hu'
  |lst ds'=>
   rw[Den]at h';obtain⟨a2,vs2,rfl,_,e2,g2⟩:=h';cases r';obtain⟨its2,q2,tp2⟩:=eO hok e2;rw[nod]at n1 n2;rw[dX]at hn;have hl1:=g1.length;have hl2:=g2.length;have hq1:=q1.length;have hq2:=q2.length;rw[bA]
   by_cases hlen:ds.length=ds'.length
   ·have z:=SeqAt.RcNeAt.lists (e:=λj=>bA (ds.getD j .non) (ds'.getD j .non)) tp1 tp2 (by simp;omega) hu' (hin hn n1 n2 g1 g2 q1 q2);rw[pV hlen];simpa[hq1.symm,hl1]using z
   ·rw[pW hlen];exact SeqAt.RcNeAt.lists_lengths tp1 tp2 (by simp;omega) hu'
  |dct=>simp[nod]at n2
 |dct=>simp[nod]at n1
end
end L2
namespace L2.Mr
open PySem PySem.Spec PyProof.Rows
def bB {α β:Type}(f:α->Option β):List α->Option (List β)
 | []=>some []
 |x::xs=>match f x with
  |none=>none
  |some y=>match bB f xs with
   |none=>none
   |some ys=>some (y::ys)
def bK:Nat->Hs->Dv->Option Dt
 |0,_,_=>none
 |k+1,h,d=>match d with
  | .non=>some .non
  | .bl b=>some (.bl b)
  | .int i=>some (.int i)
  | .str x=>some (.str x)
  | .tup xs=>match bB (bK k h) xs with
   |some ts=>some (.tup ts)
   |none=>none
  | .ref i=>match getL h i with
   |some xs=>match bB (bK k h) xs with
    |some ts=>some (.lst ts)
    |none=>none
   |none=>none
  |_=>none
abbrev iI:ah->Prop:=λ_=>True
section
variable{G:Cfg}{μ:Nat->ah}{h:Hs}{H:Hp}
theorem oG (s:Sim G μ h H):∀(k:Nat) (d:Dv) (v:V) (t:Dt),RelD G μ h.length H d v->bK k h d=some t->Den iI H t v/\dX t<=k/\nod t=true:=by
 intro k
 induction k with
 |zero=>intro d v t _ e;cases e
 |succ k ih=>
  have il:∀(xs:List Dv) (vs:List V) (ts:List Dt),RelDL G μ h.length H xs vs->bB (bK k h) xs=some ts->DenL iI H ts vs/\jK ts<=k/\gW ts=true:=by
   intro xs
   induction xs with
   |nil=>intro vs ts r e;cases e;rw[RelDL]at r;subst r;exact⟨DenL.nil,by simp[jK],rfl⟩
   |cons x xs ihx=>
    intro vs ts r e;rw[RelDL]at r;obtain⟨v,rr,rfl,r1,r2⟩:=r;unfold bB at e
    cases q:bK k h x with
    |none=>rw[q]at e;cases e
    |some y=>
     rw[q]at e;dsimp only at e
     cases q2:bB (bK k h) xs with
     |none=>rw[q2]at e;cases e
     |some ys=>rw[q2]at e;cases e;obtain⟨a1,a2,a3⟩:=ih x v y r1 q;obtain⟨b1,b2,b3⟩:=ihx rr ys r2 q2;exact⟨DenL.cons a1 b1,by rw[jK];omega,by rw[gW,a3,b3];rfl⟩
  intro d v t r e;unfold bK at e
  cases d with
  |non=>cases e;rw[RelD]at r;subst r;exact⟨by rw[Den],by simp[dX],rfl⟩
  |bl b=>cases e;rw[RelD]at r;subst r;exact⟨by rw[Den],by simp[dX],rfl⟩
  |int b=>cases e;rw[RelD]at r;subst r;exact⟨by rw[Den],by simp[dX],rfl⟩
  |str b=>cases e;rw[RelD]at r;subst r;exact⟨by rw[Den],by simp[dX],rfl⟩
  |tup xs=>
   dsimp only at e
   cases q:bB (bK k h) xs with
   |none=>rw[q]at e;cases e
   |some ts=>rw[q]at e;cases e;obtain⟨a,vs,rfl,e1,r1⟩:=r;obtain⟨b1,b2,b3⟩:=il xs vs ts r1 q;exact⟨by rw[Den];exact⟨a,vs,rfl,e1,b1⟩,by rw[dX];omega,by rw[nod];exact b3⟩
  |ref i=>
   dsimp only at e
   cases g:getL h i with
   |none=>rw[g]at e;cases e
   |some xs=>
    rw[g]at e;dsimp only at e
    cases q:bB (bK k h) xs with
    |none=>rw[q]at e;cases e
    |some ts=>rw[q]at e;cases e;obtain⟨hi,rfl⟩:=r;obtain⟨vs,e1,r1⟩:=s.ob i _ (cT g);obtain⟨b1,b2,b3⟩:=il xs vs ts r1 q;exact⟨by rw[Den];exact⟨_,vs,rfl,trivial,e1,b1⟩,by rw[dX];omega,by rw[nod];exact b3⟩
  |edc=>cases e
  |exc c=>cases e
  |scr=>cases e
end
def bR:Nat:=30
def bS (x y:Dv) (h:Hs):Rs Dv:=match bK bR h x,bK bR h y with
 |some s,some t=>.ok (.bl (bA s t)) h
 |_,_=>.bad
def bY (x y:Dv) (h:Hs):Rs Dv:=match bK bR h x,bK bR h y with
 |some s,some t=>.ok (.bl (!bA s t)) h
 |_,_=>.bad
def tJ (neg:Bool):R2:=λx y H Q=>∃t t',Den iI H t x/\Den iI H t' y/\dX t<=bR/\nod t=true/\nod t'=true/\Q (.bl (if neg then !bA t t' else bA t t')) H
section
variable{X:Cx}{G:Cfg}
theorem EO (hu:X.A.units+64<cLine):OpR X (compareOp .Eq) (tJ false):=by intro pins s σ H x y v u Q I r1 r2 ⟨t,t',d,d',hd,n1,n2,q⟩;exact EqBoolInt.of_rc (xX I.hok bR X.A t t' x y v u hd (by unfold bR;omega) n1 n2 d d' r1 r2).1 ⟨.bl _,H,I,rfl,q⟩
theorem P7 (hu:X.A.units+64<cLine):OpR X (compareOp .NotEq) (tJ true):=by intro pins s σ H x y v u Q I r1 r2 ⟨t,t',d,d',hd,n1,n2,q⟩;exact EqBoolInt.of_rcne (P6 I.hok bR X.A t t' x y v u hd (by unfold bR;omega) n1 n2 d d' r1 r2) ⟨.bl _,H,I,rfl,q⟩
theorem ER:dO G (tJ false) bS:=by
 intro E μ h H x y vx vy Q s rx ry o;unfold bS at o
 split at o
 ·rename_i t t' e e';obtain⟨a1,a2,a3⟩:=oG s _ x vx t rx e;obtain⟨b1,b2,b3⟩:=oG s _ y vy t' ry e';exact⟨t,t',a1,b1,a2,a3,b3,o.val s rfl⟩
 ·exact o.elim
theorem P8:dO G (tJ true) bY:=by
 intro E μ h H x y vx vy Q s rx ry o;unfold bY at o
 split at o
 ·rename_i t t' e e';obtain⟨a1,a2,a3⟩:=oG s _ x vx t rx e;obtain⟨b1,b2,b3⟩:=oG s _ y vy t' ry e';exact⟨t,t',a1,b1,a2,a3,b3,o.val s rfl⟩
 ·exact o.elim
end
def gX (g:Int->Int->Dv):Dv->Dv->Hs->Rs Dv
 | .int i,.int j,h=>.ok (g i j) h
 |_,_,_=>.bad
def iW (C:Int->Int->Bool) (g:Int->Int->Dv):Dv->Dv->Hs->Rs Dv
 | .int i,.int j,h=>if C i j=true then .ok (g i j) h else .bad
 |_,_,_=>.bad
section
variable{X:Cx}{G:Cfg}
theorem P9 {f:Int->Int->Int}:dO G (iF λi j=>.int (f i j)) (gX λi j=>.int (f i j)):=by
 intro E μ h H x y vx vy Q s rx ry o
 cases x with
 |int i=>
  cases y with
  |int j=>exact⟨i,j,rx,ry,o.val s rfl⟩
  |_=>exact o.elim
 |_=>exact o.elim
theorem pX {f:Int->Int->Bool}:dO G (iF λi j=>.bl (f i j)) (gX λi j=>.bl (f i j)):=by
 intro E μ h H x y vx vy Q s rx ry o
 cases x with
 |int i=>
  cases y with
  |int j=>exact⟨i,j,rx,ry,o.val s rfl⟩
  |_=>exact o.elim
 |_=>exact o.elim
theorem tK {C:Int->Int->Prop}{B:Int->Int->Bool}{f:Int->Int->Int}(hB:∀i j,B i j=true->C i j):dO G (rI C λi j=>.int (f i j)) (iW B λi j=>.int (f i j)):=by
 intro E μ h H x y vx vy Q s rx ry o
 cases x with
 |int i=>
  cases y with
  |int j=>
   dsimp only[iW]at o
   split at o
   ·rename_i hb;exact⟨i,j,rx,ry,hB i j hb,o.val s rfl⟩
   ·exact o.elim
  |_=>exact o.elim
 |_=>exact o.elim
def jN (i:Int):Bool:=decide (-18446744073709551616<i)&&decide (i<18446744073709551616)
def tL (i j:Int):Bool:=jN i||jN j
theorem QA (i j:Int) (h:tL i j=true):CMul i j:=by
 unfold tL jN at h;unfold CMul;simp only[u5,cy,decide_eq_true_eq]at h
 rcases h with h|h
 ·exact .inl ⟨by omega,by omega⟩
 ·exact .inr ⟨by omega,by omega⟩
def mU (_ j:Int):Bool:=decide (0<j)
theorem QB (i j:Int) (h:mU i j=true):0<j:=by unfold mU at h;simpa using h
def pY (i j:Int):Bool:=decide (0<=j)&&decide (j<=1000000)&&decide (i.natAbs<18446744073709551616)
theorem QC (i j:Int) (h:pY i j=true):xH i j:=by unfold pY at h;unfold xH;simp only[cy,decide_eq_true_eq]at h;exact⟨h.1.1,h.1.2,by have:=h.2;omega⟩
def kS:Dv->Dv->Hs->Rs Dv
 | .int i,.int j,h=>.ok (.int (i+j)) h
 | .ref i,.ref j,h=>match getL h i,getL h j with
  |some xs,some ys=>lim (xs.length+ys.length) (.ok (.ref h.length) (h++[.lst (xs++ys)]))
  |_,_=>.bad
 | .tup xs,.tup ys,h=>if xs.isEmpty=true then .bad else lim (xs.length+ys.length) (.ok (.tup (xs++ys)) h)
 |_,_,_=>.bad
def yA (K:ao):R2:=λx y H Q=>(iF λi j=>.int (i+j)) x y H Q∨DT x y H Q∨DL K x y H Q
theorem QD:OpR X (binaryOp .Add) (yA X.K):=op_add.or (op_cat.or OO)
theorem QE:dO G (yA G.K) kS:=by
 intro E μ h H x y vx vy Q s rx ry o
 cases x with
 |int i=>
  cases y with
  |int j=>exact .inl ⟨i,j,rx,ry,o.val s rfl⟩
  |_=>exact o.elim
 |ref i=>
  cases y with
  |ref j=>
   dsimp only[kS]at o
   cases g1:getL h i with
   |none=>rw[g1]at o;exact o.elim
   |some xs=>
    cases g2:getL h j with
    |none=>rw[g1,g2]at o;exact o.elim
    |some ys=>
     rw[g1,g2]at o;dsimp only at o;unfold lim at o
     split at o
     ·rename_i hl;obtain⟨vs,e1,r1⟩:=s.ob i _ (cT g1);obtain⟨ws,e2,r2⟩:=s.ob j _ (cT g2);obtain⟨_,rfl⟩:=rx;obtain⟨_,rfl⟩:=ry;exact .inr (.inl ⟨_,_,vs,ws,rfl,rfl,e1,e2,by rw[r1.length,r2.length];exact jL hl,λp hp=>nZ s (r1.append r2) hp o⟩)
     ·exact o.elim
  |_=>exact o.elim
 |tup xs=>
  cases y with
  |tup ys=>
   dsimp only[kS]at o
   split at o
   ·exact o.elim
   ·rename_i hne;unfold lim at o
    split at o
    ·rename_i hl;obtain⟨a,vs,rfl,e1,r1⟩:=rx;obtain⟨b,ws,rfl,e2,r2⟩:=ry;refine .inr (.inr ⟨a,b,vs,ws,rfl,rfl,SqT.of e1,SqT.of e2, ?_,by rw[r1.length,r2.length];exact jL hl,λz=>?_,λ_ p hp=>?_⟩)
     ·intro z;subst z;have:=r1.length
      cases xs <;> simp_all
     ·subst z;have e3:ys=[]:=by have:=r2.length;cases ys <;> simp_all
      subst e3;refine o.val s ?_;rw[kj];exact⟨a,vs,rfl,e1,r1⟩
     ·exact o μ _ _ (Ext.same (bU hp)) (s.same (bU hp)) ⟨p,_,rfl,bX,RelDL.mono (Ext.same (bU hp)) _ _ (r1.append r2)⟩
    ·exact o.elim
  |_=>exact o.elim
 |_=>exact o.elim
def iX (xs:List Dv) (i:Int) (h:Hs):Rs Dv:=match dW xs i with
 |some d=>.ok d h
 |none=>.bad
def eR (scr:List Int):Dv->Dv->Hs->Rs Dv
 | .tup xs,.int i,h=>iX xs i h
 | .ref k,.int i,h=>match getL h k with
  |some xs=>iX xs i h
  |none=>.bad
 | .scr,.int i,h=>iX (scr.map Dv.int) i h
 |_,_,_=>.bad
theorem pZ {μ:Nat->ah}{n:Nat}{H:Hp}:∀ns:List Int,RelDL G μ n H (ns.map Dv.int) (ns.map V.int)
 | []=>RelDL.nil
 |i::ns=>RelDL.cons rfl (pZ ns)
theorem yB {E:XK}{μ:Nat->ah}{h:Hs}{H:Hp}{xs:List Dv}{vs:List V}{i:Int}{Q:VK}(s:Sim G μ h H) (r:RelDL G μ h.length H xs vs) (o:Out G E μ h.length H (iX xs i h) (RelD G) Q):∃v,dW vs i=some v/\Q v H:=by
 unfold iX at o
 cases e:dW xs i with
 |none=>rw[e]at o;exact o.elim
 |some d=>
  rw[e]at o;unfold dW at e ⊢;rw[r.length]
  cases q:dN xs.length i with
  |none=>rw[q]at e;cases e
  |some j=>rw[q]at e;obtain⟨v,e1,r1⟩:=r.get e;exact⟨v,e1,o.val s r1⟩
theorem ES:dO G (xP G.K) (eR G.scr):=by
 intro E μ h H x y vx vy Q s rx ry o
 cases y with
 |int i=>
  cases x with
  |tup xs=>obtain⟨a,vs,rfl,e1,r1⟩:=rx;obtain⟨v,e2,q⟩:=yB s r1 o;exact .inr (.inl ⟨a,vs,i,v,rfl,ry,SqT.of e1,e2,q⟩)
  |ref k=>
   dsimp only[eR]at o
   cases g:getL h k with
   |none=>rw[g]at o;exact o.elim
   |some xs=>rw[g]at o;obtain⟨vs,e1,r1⟩:=s.ob k _ (cT g);obtain⟨_,rfl⟩:=rx;obtain⟨v,e2,q⟩:=yB s r1 o;exact .inl ⟨_,vs,i,v,rfl,ry,SqL.of e1,e2,q⟩
  |scr=>obtain⟨rfl,hf⟩:=rx;obtain⟨v,e2,q⟩:=yB s (pZ G.scr) o;exact .inl ⟨_,_,i,v,rfl,ry,hf.sq,e2,q⟩
  |_=>exact o.elim
 |_=>cases x <;> exact o.elim
theorem QF {E:XK}{a b:bj}{ma mb:M Dv}{pos:Pos}(ha:aG X G E a ma) (hb:aG X G E b mb) (hs:sU b:=by intro _ _;rfl):aG X G E (.Subscript a b pos) (m2 (eR G.scr) ma mb):=λhK=>PE.imp (xN (by have:=DP (X:=X);rw[hK]at this;exact this) (ha hK) (hb hK) hs) λ_ _ _ t=>oA ES t
theorem tM:cx "tuple" = some (.type "tuple"):=by decide +kernel
theorem tN:cx "list" = some (.type "list"):=by decide +kernel
theorem QG:cx "max" = some (.builtin "max"):=by decide +kernel
theorem QH:cx "min" = some (.builtin "min"):=by decide +kernel
variable{E:XK}{aQ:M (List Dv)}{e:bj}{es:List bj}{x:Str}{p pos:Pos}{id T:String}
def mV (G:Cfg) (r:List V->Hp->VK->Prop) (f:List Dv->Hs->Rs Dv):Prop:=∀(E:XK) (μ:Nat->ah) (h:Hs) (H:Hp) (xs:List Dv) (vs:List V) (Q:VK),Sim G μ h H->RelDL G μ h.length H xs vs->Out G E μ h.length H (f xs h) (RelD G) Q->r vs H Q
def aD (f:List Dv->Hs->Rs Dv) (ms:M (List Dv)):M Dv:=λρ h=>(ms ρ h).bind f
theorem ET {r:List V->Hp->VK->Prop}{f:List Dv->Hs->Rs Dv}(hd:mV G r f) {σ:St}{H:Hp}{Q:VK}(t:eQ G E (aD f aQ) σ H Q):sT r (xZ G E aQ) σ H Q:=by obtain⟨μ,ρ,h,rs,s,o⟩:=t;exact iT rs s o λμ1 ds h1 vs H1 x1 rs1 s1 r1 o1=>hd E μ1 h1 H1 ds vs Q s1 r1 o1
theorem qA {r:List V->Hp->VK->Prop}{f:List Dv->Hs->Rs Dv}(hc:CallR X (.builtin id) r) (hd:mV G r f) (hg:Gl X x) (hm:X.mg x=none) (hv:cx x=some (.builtin id)) (ha:cS X G E (e::es) aQ) (hn:x ≠ "__name__" := by decide) (hdb:(x==("__debug__" : Str))=false:=by decide)
  (he:aq (e::es) X.env=(false,eval e X.env)::aq es X.env:=by rfl) (hpl:(backTo pos (aq es X.env)).any (·.1)=false:=by rfl):aG X G E (.Call (.Name x p) (e::es) [] pos) (aD f aQ):=λhK=>
 PE.imp (pO hc hg hm hv (ha hK) hn hdb he hpl) λ_ _ _ t=>ET hd t
theorem yC {r:List V->Hp->VK->Prop}{f:List Dv->Hs->Rs Dv}(hc:CallR X (.type T) r) (hd:mV G r f) (hg:Gl X x) (hm:X.mg x=none) (hv:cx x=some (.type T)) (ha:cS X G E (e::es) aQ) (hn:x ≠ "__name__" := by decide) (hdb:(x==("__debug__" : Str))=false:=by decide)
  (he:aq (e::es) X.env=(false,eval e X.env)::aq es X.env:=by rfl) (hpl:(backTo pos (aq es X.env)).any (·.1)=false:=by rfl):aG X G E (.Call (.Name x p) (e::es) [] pos) (aD f aQ):=λhK=>
 PE.imp (pP hc hg hm hv (ha hK) hn hdb he hpl) λ_ _ _ t=>ET hd t
def fY (scr:List Int):Dv->Hs->Option (List Dv)
 | .tup xs,_=>some xs
 | .ref i,h=>getL h i
 | .scr,_=>some (scr.map Dv.int)
 |_,_=>none
def f1 (g:Dv->Hs->Rs Dv):List Dv->Hs->Rs Dv
 | [d],h=>g d h
 |_,_=>.bad
def gY (scr:List Int) (d:Dv) (h:Hs):Rs Dv:=match fY scr d h with
 |some xs=>.ok (.int xs.length) h
 |none=>.bad
theorem qB {μ:Nat->ah}{n:Nat}{H:Hp}{d:Dv}{vs:List V}(r:RelDL G μ n H [d] vs):∃v,vs=[v]/\RelD G μ n H d v:=by rw[RelDL]at r;obtain⟨v,rr,rfl,h1,h2⟩:=r;rw[RelDL]at h2;subst h2;exact⟨v,rfl,h1⟩
theorem oH {r:V->Hp->VK->Prop}{g:Dv->Hs->Rs Dv}(hg:jM G r g):mV G (λxs H Q=>∃v,xs=[v]/\r v H Q) (f1 g):=by
 intro E μ h H xs vs Q s rr o
 match xs,rr,o with
 | [],_,o=>exact o.elim
 |_::_::_,_,o=>exact o.elim
 | [d],rr,o=>obtain⟨v,rfl,r1⟩:=qB rr;exact⟨v,rfl,hg E μ h H d v Q s r1 o⟩
theorem tO {μ:Nat->ah}{n:Nat}{H:Hp}{d d':Dv}{vs:List V}(r:RelDL G μ n H [d,d'] vs):∃v v',vs=[v,v']/\RelD G μ n H d v/\RelD G μ n H d' v':=by rw[RelDL]at r;obtain⟨v,rr,rfl,h1,h2⟩:=r;obtain⟨v',rfl,h3⟩:=qB h2;exact⟨v,v',rfl,h1,h3⟩
theorem yD {μ:Nat->ah}{h:Hs}{H:Hp}{d:Dv}{v:V}{xs:List Dv}(s:Sim G μ h H) (r:RelD G μ h.length H d v) (e:fY G.scr d h=some xs):∃a vs,v=.ref a/\(SqL G.K H a vs∨SqT G.K H a vs)/\RelDL G μ h.length H xs vs:=by
 cases d with
 |tup ds=>cases e;obtain⟨a,vs,rfl,e1,r1⟩:=r;exact⟨a,vs,rfl,.inr (SqT.of e1),r1⟩
 |ref i=>obtain⟨_,rfl⟩:=r;obtain⟨vs,e1,r1⟩:=s.ob i _ (cT e);exact⟨_,vs,rfl,.inl (SqL.of e1),r1⟩
 |scr=>cases e;obtain⟨rfl,hf⟩:=r;exact⟨_,_,rfl,.inl hf.sq,pZ _⟩
 |_=>cases e
def EU (K:ao):V->Hp->VK->Prop:=λx H Q=>∃p ys,x=.ref p/\(SqL K H p ys∨SqT K H p ys)/\Q (.int ys.length) H
theorem EV:jM G (EU G.K) (gY G.scr):=by
 intro E μ h H d v Q s r1 o;unfold gY at o
 cases e:fY G.scr d h with
 |none=>rw[e]at o;exact o.elim
 |some ys=>rw[e]at o;obtain⟨a,ws,rfl,hs,r2⟩:=yD s r1 e;exact⟨a,ws,rfl,hs,by rw[r2.length];exact o.val s rfl⟩
theorem CallR.imp {f:af}{r r':List V->Hp->VK->Prop}(h:CallR X f r) (i:∀xs H Q,r' xs H Q->r xs H Q):CallR X f r':=λpins s σ H xs us Q I rv q=>h pins s σ H xs us Q I rv (i xs H Q q)
theorem EW (hg:Gl X "len") (hm:X.mg "len" = none) (ha:cS X G E (e::es) aQ)
  (he:aq (e::es) X.env=(false,eval e X.env)::aq es X.env:=by rfl) (hpl:(backTo pos (aq es X.env)).any (·.1)=false:=by rfl):aG X G E (.Call (.Name "len" p) (e::es) [] pos) (aD (f1 (gY G.scr)) aQ):=λhK=>
 qA (CallR.imp (DQ (X:=X)) λxs H Q ⟨v,h1,a,ys,h2,h3,h4⟩=>⟨a,ys,by rw[h1,h2],by rw[hK];exact h3,h4⟩) (oH EV) hg hm ue ha (by decide) (by decide) he hpl hK
def kT:List Dv->Hs->Rs Dv
 | [.int i,.int j],h=>.ok (.int (if j>i then j else i)) h
 |_,_=>.bad
def oI:List Dv->Hs->Rs Dv
 | [.int i,.int j],h=>.ok (.int (if j<i then j else i)) h
 |_,_=>.bad
theorem EX {f:List Dv->Hs->Rs Dv}{g:Int->Int->Int}(h2:∀i j h,f [.int i,.int j] h=.ok (.int (g i j)) h) (hb:∀xs h,(∀i j,xs≠[.int i,.int j])->f xs h=.bad):
  mV G (λxs H Q=>∃i j,xs=[.int i,.int j]/\Q (.int (g i j)) H) f:=by
 intro E μ h H xs vs Q s r o
 by_cases hx:∃i j,xs=[.int i,.int j]
 ·obtain⟨i,j,rfl⟩:=hx;obtain⟨v,v',rfl,r1,r2⟩:=tO r;rw[RelD]at r1 r2;subst r1;subst r2;rw[h2]at o;exact⟨i,j,rfl,o.val s rfl⟩
 ·rw[hb xs h (λi j e=>hx ⟨i,j,e⟩)]at o;exact o.elim
theorem QI:mV G (λxs H Q=>∃i j,xs=[.int i,.int j]/\Q (.int (if j>i then j else i)) H) kT:=EX (λ_ _ _=>rfl) λxs h hx=>by
 unfold kT;split
 ·rename_i i j;exact absurd rfl (hx i j)
 ·rfl
theorem QJ:mV G (λxs H Q=>∃i j,xs=[.int i,.int j]/\Q (.int (if j<i then j else i)) H) oI:=EX (λ_ _ _=>rfl) λxs h hx=>by
 unfold oI;split
 ·rename_i i j;exact absurd rfl (hx i j)
 ·rfl
def kU:Dv->Hs->Rs Dv
 | .tup xs,h=>.ok (.tup xs) h
 | .ref i,h=>match getL h i with
  |some xs=>.ok (.tup xs) h
  |none=>.bad
 |_,_=>.bad
def QK (K:ao):V->Hp->VK->Prop:=λx H Q=>∃p ys,x=.ref p/\((SqL K H p ys/\∀l,H l=none->Q (.ref l) (aM H l (.tup ys)))∨(SqT K H p ys/\Q (.ref p) H))
theorem QL:jM G (QK G.K) kU:=by
 intro E μ h H d v Q s r1 o
 cases d with
 |tup ds=>have r1':=r1;obtain⟨a,ws,rfl,e1,r2⟩:=r1;exact⟨a,ws,rfl,.inr ⟨SqT.of e1,o.val s r1'⟩⟩
 |ref i=>
  dsimp only[kU]at o
  cases g:getL h i with
  |none=>rw[g]at o;exact o.elim
  |some ys=>rw[g]at o;obtain⟨_,rfl⟩:=r1;obtain⟨ws,e1,r2⟩:=s.ob i _ (cT g);exact⟨_,ws,rfl,.inl ⟨SqL.of e1,λl hl=>o μ _ _ (Ext.same (bU hl)) (s.same (bU hl)) ⟨l,ws,rfl,bX,RelDL.mono (Ext.same (bU hl)) _ _ r2⟩⟩⟩
 |_=>exact o.elim
theorem QM (hg:Gl X "tuple") (hm:X.mg "tuple" = none) (ha:cS X G E (e::es) aQ)
  (he:aq (e::es) X.env=(false,eval e X.env)::aq es X.env:=by rfl) (hpl:(backTo pos (aq es X.env)).any (·.1)=false:=by rfl):aG X G E (.Call (.Name "tuple" p) (e::es) [] pos) (aD (f1 kU) aQ):=λhK=>
 yC (CallR.imp (DR (X:=X)) λxs H Q ⟨v,h1,a,ys,h2,h3⟩=>⟨a,ys,by rw[h1,h2],by rw[hK];exact h3⟩) (oH QL) hg hm tM ha (by decide) (by decide) he hpl hK
def oJ (scr:List Int) (d:Dv) (h:Hs):Rs Dv:=match fY scr d h with
 |some xs=>.ok (.ref h.length) (h++[.lst xs])
 |none=>.bad
theorem QN:jM G (λx H Q=>∃p ys,x=.ref p/\(SqL G.K H p ys∨SqT G.K H p ys)/\∀l,H l=none->Q (.ref l) (aM H l (.lst ys))) (oJ G.scr):=by
 intro E μ h H d v Q s r1 o;unfold oJ at o
 cases e:fY G.scr d h with
 |none=>rw[e]at o;exact o.elim
 |some ys=>rw[e]at o;obtain⟨a,ws,rfl,hs,r2⟩:=yD s r1 e;exact⟨a,ws,rfl,hs,λl hl=>nZ s r2 hl o⟩
theorem EY (hc:X.calm=true) (hg:Gl X "max") (hm:X.mg "max" = none) (ha:cS X G E (e::es) aQ)
  (he:aq (e::es) X.env=(false,eval e X.env)::aq es X.env:=by rfl) (hpl:(backTo pos (aq es X.env)).any (·.1)=false:=by rfl):aG X G E (.Call (.Name "max" p) (e::es) [] pos) (aD kT aQ):=
 qA (NU hc) QI hg hm QG ha (by decide) (by decide) he hpl
theorem QO (hc:X.calm=true) (hg:Gl X "min") (hm:X.mg "min" = none) (ha:cS X G E (e::es) aQ)
  (he:aq (e::es) X.env=(false,eval e X.env)::aq es X.env:=by rfl) (hpl:(backTo pos (aq es X.env)).any (·.1)=false:=by rfl):aG X G E (.Call (.Name "min" p) (e::es) [] pos) (aD oI aQ):=
 qA (NV hc) QJ hg hm QH ha (by decide) (by decide) he hpl
end
inductive Sr where
 |nx (ρ:Ev) (h:Hs)|rt (d:Dv) (h:Hs)|bk (ρ:Ev) (h:Hs)|ct (ρ:Ev) (h:Hs)|ex (c:Nat) (h:Hs)|bad
abbrev MS:=Ev->Hs->Sr
def SOut (G:Cfg) (E:XK) (μ:Nat->ah) (n:Nat) (H:Hp) (r:Sr) (D:Ends):Prop:=match r with
 | .nx ρ h'=>∀μ' H' σ',Ext μ n H μ' h'.length H'->Sim G μ' h' H'->RelS G μ' h'.length H' ρ σ'->D.nx σ' H'
 | .bk ρ h'=>∀μ' H' σ',Ext μ n H μ' h'.length H'->Sim G μ' h' H'->RelS G μ' h'.length H' ρ σ'->D.bk σ' H'
 | .ct ρ h'=>∀μ' H' σ',Ext μ n H μ' h'.length H'->Sim G μ' h' H'->RelS G μ' h'.length H' ρ σ'->D.ct σ' H'
 | .rt d h'=>∀μ' H' v,Ext μ n H μ' h'.length H'->Sim G μ' h' H'->RelD G μ' h'.length H' d v->D.rt v H'
 | .ex c h'=>∀μ' H' u,Ext μ n H μ' h'.length H'->Sim G μ' h' H'->tF G H' c u->E u none H'
 | .bad=>False
theorem SOut.ext {G:Cfg}{E:XK}{μ μ1:Nat->ah}{n n1:Nat}{H H1:Hp}{r:Sr}{D:Ends}(o:SOut G E μ n H r D) (x:Ext μ n H μ1 n1 H1):SOut G E μ1 n1 H1 r D:=by
 cases r with
 |nx ρ h'=>exact λμ' H' σ' y=>o μ' H' σ' (x.trans y)
 |bk ρ h'=>exact λμ' H' σ' y=>o μ' H' σ' (x.trans y)
 |ct ρ h'=>exact λμ' H' σ' y=>o μ' H' σ' (x.trans y)
 |rt d h'=>exact λμ' H' σ' y=>o μ' H' σ' (x.trans y)
 |ex c h'=>exact λμ' H' σ' y=>o μ' H' σ' (x.trans y)
 |bad=>exact o
def tP (G:Cfg) (E:XK) (m:MS):TS:=λD σ H=>∃μ ρ h,RelS G μ h.length H ρ σ/\Sim G μ h H/\SOut G E μ h.length H (m ρ h) D
def gZ (X:Cx) (G:Cfg) (E:XK) (st:gy) (m:MS):Prop:=X.K=G.K->PS X st (tP G E m)
def hJ (X:Cx) (G:Cfg) (E:XK) (st:List gy) (m:MS):Prop:=X.K=G.K->PSs X st (tP G E m)
theorem PS.imp {X:Cx}{e:gy}{t t':TS}(h:PS X e t) (i:∀D σ H,t' D σ H->t D σ H):PS X e t':=λpins s σ H D I q=>h pins s σ H D I (i D σ H q)
theorem PSs.imp {X:Cx}{e:List gy}{t t':TS}(h:PSs X e t) (i:∀D σ H,t' D σ H->t D σ H):PSs X e t':=λpins s σ H D I q=>h pins s σ H D I (i D σ H q)
def Rs.thenS {α:Type}(r:Rs α) (f:α->Hs->Sr):Sr:=match r with
 | .ok a h=>f a h
 | .ex c h=>.ex c h
 | .bad=>.bad
@[simp] theorem Rs.thenS_ok {α:Type}(a:α) (h:Hs) (f:α->Hs->Sr):(Rs.ok a h).thenS f=f a h:=rfl
@[simp] theorem Rs.thenS_ex {α:Type}(c:Nat) (h:Hs) (f:α->Hs->Sr):(Rs.ex c h).thenS f=.ex c h:=rfl
@[simp] theorem Rs.thenS_bad {α:Type}(f:α->Hs->Sr):(Rs.bad).thenS f=.bad:=rfl
theorem SOut.thenS {α β:Type}{G:Cfg}{E:XK}{μ:Nat->ah}{n:Nat}{H:Hp}{r:Rs α}{f:α->Hs->Sr}{D:Ends}{R:(Nat->ah)->Nat->Hp->α->β->Prop}
  (o:SOut G E μ n H (r.thenS f) D):Out G E μ n H r R λv H1=>∃μ1 d h1,Ext μ n H μ1 h1.length H1/\Sim G μ1 h1 H1/\R μ1 h1.length H1 d v/\SOut G E μ1 h1.length H1 (f d h1) D:=by
 cases r with
 |bad=>exact o
 |ex c h'=>exact o
 |ok d h'=>exact λμ1 H1 v x1 s1 r1=>⟨μ1,d,h',x1,s1,r1,SOut.ext o x1⟩
section
variable{X:Cx}{G:Cfg}{E:XK}{st:gy}{rest:List gy}{m u:MS}{e:bj}{me:M Dv}{pos:Pos}
theorem mW {m:M Dv}{σ:St}{H:Hp}{f:Dv->Hs->Sr}{D:Ends}{Q1:V->Hp->Prop}{μ:Nat->ah}{ρ:Ev}{h:Hs}(rs:RelS G μ h.length H ρ σ) (s:Sim G μ h H) (o:SOut G E μ h.length H ((m ρ h).thenS f) D)
  (k:∀μ1 d h1 v H1,Ext μ h.length H μ1 h1.length H1->RelS G μ1 h1.length H1 ρ σ->Sim G μ1 h1 H1->RelD G μ1 h1.length H1 d v->SOut G E μ1 h1.length H1 (f d h1) D->Q1 v H1):eQ G E m σ H Q1:=
 ⟨μ,ρ,h,rs,s,(o.thenS (R:=RelD G)).mono λv H1 ⟨μ1,d,h1,x,s1,r1,o1⟩=>k μ1 d h1 v H1 x (rs.mono x) s1 r1 o1⟩
theorem EZ {m:M Bool}{σ:St}{H:Hp}{f:Bool->Hs->Sr}{D:Ends}{Q1:Bool->Hp->Prop}{μ:Nat->ah}{ρ:Ev}{h:Hs}(rs:RelS G μ h.length H ρ σ) (s:Sim G μ h H) (o:SOut G E μ h.length H ((m ρ h).thenS f) D)
  (k:∀μ1 b h1 H1,Ext μ h.length H μ1 h1.length H1->RelS G μ1 h1.length H1 ρ σ->Sim G μ1 h1 H1->SOut G E μ1 h1.length H1 (f b h1) D->Q1 b H1):iG G E m σ H Q1:=
 ⟨μ,ρ,h,rs,s,(o.thenS (R:=RB)).mono λv H1 ⟨μ1,d,h1,x,s1,r1,o1⟩=>by have e:v=d:=r1;subst e;exact k μ1 v h1 H1 x (rs.mono x) s1 o1⟩
def bP:MS:=λρ h=>.nx ρ h
def aL (m u:MS):MS:=λρ h=>match m ρ h with
 | .nx ρ1 h1=>u ρ1 h1
 |r=>r
theorem eS:hJ X G E [] bP:=λ_=>PSs.imp L6 λD σ H ⟨μ,ρ,h,rs,s,o⟩=>o μ H σ Ext.refl s rs
theorem bC (h1:gZ X G E st m) (h2:hJ X G E rest u):hJ X G E (st::rest) (aL m u):=λhK=>PSs.imp (L7 (h1 hK) (h2 hK)) λD σ H ⟨μ,ρ,h,rs,s,o⟩=>by
 refine⟨μ,ρ,h,rs,s, ?_⟩;unfold aL at o
 cases q:m ρ h with
 |nx ρ1 h1=>rw[q]at o;exact λμ1 H1 σ1 x1 s1 rs1=>⟨μ1,ρ1,h1,rs1,s1,SOut.ext o x1⟩
 |bk ρ1 h1=>rw[q]at o;exact o
 |ct ρ1 h1=>rw[q]at o;exact o
 |rt ρ1 h1=>rw[q]at o;exact o
 |ex ρ1 h1=>rw[q]at o;exact o
 |bad=>rw[q]at o;exact o
theorem bJ (h1:gZ X G E st m):hJ X G E [st] m:=λhK=>CG (h1 hK)
def eU (me:M Dv):MS:=λρ h=>(me ρ h).thenS λ_ h1=>.nx ρ h1
theorem tQ (he:aG X G E e me) (hs:swapsWith e none pos.line X.env=pure false:=by rfl):gZ X G E (.Expr e pos) (eU me):=λhK=>PS.imp (L9 (he hK) hs) λD σ H ⟨μ,ρ,h,rs,s,o⟩=>mW rs s o λμ1 d h1 v H1 x1 rs1 s1 r1 o1=>o1 μ1 H1 σ Ext.refl s1 rs1
def aO (me:M Dv):MS:=λρ h=>(me ρ h).thenS λd h1=>.rt d h1
theorem bZ (he:aG X G E e me):gZ X G E (.Return (some e) pos) (aO me):=λhK=>PS.imp (MB (he hK)) λD σ H ⟨μ,ρ,h,rs,s,o⟩=>mW rs s o λμ1 d h1 v H1 x1 rs1 s1 r1 o1=>o1 μ1 H1 v Ext.refl s1 r1
def bD (c:M Bool) (t u:MS):MS:=λρ h=>(c ρ h).thenS λb h1=>if b=true then t ρ h1 else u ρ h1
theorem eV {c:bj}{a b:List gy}{mc:M Bool}(hc:gK X G E c mc) (ha:hJ X G E a m) (hb:hJ X G E b u):gZ X G E (.If c a b pos) (bD mc m u):=λhK=>PS.imp (ME (hc hK) (ha hK) (hb hK)) λD σ H ⟨μ,ρ,h,rs,s,o⟩=>
 EZ rs s o λμ1 k h1 H1 x1 rs1 s1 o1=>by
  cases k with
  |true=>rw[if_pos rfl]at o1 ⊢;exact⟨μ1,ρ,h1,rs1,s1,o1⟩
  |false=>rw[if_neg (by decide)]at o1 ⊢;exact⟨μ1,ρ,h1,rs1,s1,o1⟩
theorem RelS.set {μ:Nat->ah}{n:Nat}{H:Hp}{ρ:Ev}{σ:St}{d:Dv}{v:V}(rs:RelS G μ n H ρ σ) (i:Nat) (r:RelD G μ n H d v):RelS G μ n H (ρ.set i (some d)) (σ.set i (some v)):=⟨by rw[jr,jr];exact rs.len,λj d' e=>by
 have hl:=rs.len
 by_cases hij:i=j
 ·subst hij;have hi:i<ρ.length:=by have:=(ax.mp e).1;simpa using this
  rw[di hi]at e;cases e;exact⟨v,di (by omega),r⟩
 ·rw[ed hij]at e ⊢;exact rs.at_ j d' e⟩
abbrev cK:=Dv->Ev->Option Ev
def qC (G:Cfg) (st:cK):TG:=λv σ H Q=>∃μ ρ h d ρ',RelS G μ h H ρ σ/\RelD G μ h H d v/\st d ρ=some ρ'/\∀σ',RelS G μ h H ρ' σ'->Q σ' H
def kW (X:Cx) (G:Cfg) (tg:bj) (st:cK):Prop:=X.K=G.K->PG X tg (qC G st)
theorem PG.imp {tg:bj}{t t':TG}(h:PG X tg t) (i:∀v σ H Q,t' v σ H Q->t v σ H Q):PG X tg t':=λpins s σ H v u Q I r q=>h pins s σ H v u Q I r (i v σ H Q q)
theorem PGs.imp {tg:List bj}{t t':kP}(h:PGs X tg t) (i:∀v σ H Q,t' v σ H Q->t v σ H Q):PGs X tg t':=λpins s σ H v u Q I r q=>h pins s σ H v u Q I r (i v σ H Q q)
def aF (i:Nat):cK:=λd ρ=>some (ρ.set i (some d))
theorem QP {i:Nat}{x:Str}(hN:X.N.Nodup) (hi:X.N[i]?=some x) (hx:jJ X.env.scope x) (hf:X.fn x=true∨X.env.scope.names.lookup x=some .local:=by first|exact .inl rfl|exact .inr rfl|assumption):kW X G (.Name x pos) (aF i):=λ_=>PG.imp (MF hN hi hx hf) λv σ H Q ⟨μ,ρ,h,d,ρ',rs,r,e,k⟩=>by cases e;exact k _ (rs.set i r)
abbrev lR:=List Dv->Ev->Option Ev
def QQ (G:Cfg) (st:lR):kP:=λvs σ H Q=>∃μ ρ h ds ρ',RelS G μ h H ρ σ/\RelDL G μ h H ds vs/\st ds ρ=some ρ'/\∀σ',RelS G μ h H ρ' σ'->Q σ' H
def tR (X:Cx) (G:Cfg) (tg:List bj) (st:lR):Prop:=X.K=G.K->PGs X tg (QQ G st)
def cL:lR:=λds ρ=>match ds with
 | []=>some ρ
 |_=>none
def aX (s:cK) (t:lR):lR:=λds ρ=>match ds with
 |d::r=>match s d ρ with
  |some ρ1=>t r ρ1
  |none=>none
 | []=>none
theorem iY:tR X G [] cL:=λ_=>PGs.imp MI λvs σ H Q ⟨μ,ρ,h,ds,ρ',rs,r,e,k⟩=>by
 cases ds with
 |nil=>cases e;rw[RelDL]at r;subst r;exact⟨rfl,k _ rs⟩
 |cons d r=>cases e
theorem dP {tg:bj}{tgs:List bj}{s:cK}{t:lR}(h1:kW X G tg s) (h2:tR X G tgs t)
  (hs:(assignEach (tg::tgs) X.env).map (·.2)=assign tg X.env::(assignEach tgs X.env).map (·.2):=by rfl):tR X G (tg::tgs) (aX s t):=λhK=>PGs.imp (MJ (h1 hK) (h2 hK) hs) λvs σ H Q ⟨μ,ρ,h,ds,ρ',rs,r,e,k⟩=>by
 cases ds with
 |nil=>cases e
 |cons d ds=>
  rw[RelDL]at r;obtain⟨v,rr,rfl,r1,r2⟩:=r;unfold aX at e;dsimp only at e
  cases q:s d ρ with
  |none=>rw[q]at e;cases e
  |some ρ1=>rw[q]at e;exact⟨v,rr,rfl,μ,ρ,h,d,ρ1,rs,r1,q,λσ1 rs1=>⟨μ,ρ1,h,ds,ρ',rs1,r2,e,k⟩⟩
def cE (n:Nat) (t:lR):cK:=λd ρ=>match d with
 | .tup ds=>if ds.length=n then t ds ρ else none
 |_=>none
theorem iZ {tgs:List bj}{k:Nat}{t:lR}{n:Nat}(hc:X.calm=true) (h:tR X G tgs t)
  (hn:(assignEach tgs X.env).length=n:=by rfl) (hst:(assignEach tgs X.env).findIdx? (·.1)=none:=by rfl):kW X G (.Tuple tgs k pos) (cE n t):=λhK=>
 PG.imp (ML hc (h hK) hn hst) λv σ H Q ⟨μ,ρ,hh,d,ρ',rs,r,e,kk⟩=>by
  cases d with
  |tup ds=>
   dsimp only[cE]at e
   split at e
   ·rename_i hl;obtain⟨a,vs,rfl,e1,r1⟩:=r;exact⟨a,vs,rfl,SqT.of e1,by rw[r1.length];exact hl,μ,ρ,hh,ds,ρ',rs,r1,e,kk⟩
   ·cases e
  |_=>cases e
def aK (me:M Dv) (st:cK):MS:=λρ h=>(me ρ h).thenS λd h1=>match st d ρ with
 |some ρ1=>.nx ρ1 h1
 |none=>.bad
theorem QR {st:cK}{σ:St}{H:Hp}{D:Ends}(t:tP G E (aK me st) D σ H):xC (eQ G E me) (qC G st) D σ H:=by
 obtain⟨μ,ρ,h,rs,s,o⟩:=t;refine mW rs s o λμ1 d h1 v H1 x1 rs1 s1 r1 o1=>?_
 cases q:st d ρ with
 |none=>rw[q]at o1;exact o1.elim
 |some ρ1=>rw[q]at o1;exact⟨μ1,ρ,h1.length,d,ρ1,rs1,r1,q,λσ' rs'=>o1 μ1 H1 σ' Ext.refl s1 rs'⟩
theorem E1 {tg:bj}{st:cK}(he:aG X G E e me) (hg:kW X G tg st) (hs:swapsWithSole [tg] e pos.line X.env=pure false:=by rfl) (hw:swappedStores [tg] e X.env=pure none:=by rfl)
  (h1:(assignEach [tg] X.env).map (·.2)=[assign tg X.env]:=by rfl):gZ X G E (.Assign [tg] e pos) (aK me st):=λhK=>PS.imp (CJ (he hK) (hg hK) hs hw h1) λ_ _ _ t=>QR t
theorem yE {i:Nat}{x:Str}{pos':Pos}(hN:X.N.Nodup) (hi:X.N[i]?=some x) (hx:jJ X.env.scope x) (he:aG X G E e me) (hs:swapsWith e (some (.Name x pos')) pos.line X.env=pure false:=by rfl) (hf:X.fn x=true∨X.env.scope.names.lookup x=some .local:=by first|exact .inl rfl|exact .inr rfl|assumption):
  gZ X G E (.Assign [.Name x pos'] e pos) (aK me (aF i)):=λhK=>PS.imp (xD hN hi hx (he hK) hs hf) λD σ H t=>by
 obtain⟨μ,ρ,h,rs,s,o⟩:=t;exact mW rs s o λμ1 d h1 v H1 x1 rs1 s1 r1 o1=>o1 μ1 H1 _ Ext.refl s1 (rs1.set i r1)
end
structure Src where
 n:Nat
 get:Nat->Hs->Option Dv
 fin:Hs->Bool
def ItOk (G:Cfg) (μ0:Nat->ah) (n0:Nat) (H0:Hp) (src:Src) (J:It):Prop:=
 ∀(k:Nat) (μ:Nat->ah) (h:Hs) (H:Hp),Ext μ0 n0 H0 μ h.length H->Sim G μ h H->
  (k<src.n->∀d,src.get k h=some d->J.go k H/\∀x H',J.yld k H x H'->Same H H'/\RelD G μ h.length H' d x)/\(k=src.n->src.fin h=true->J.stop k H)
def yF (G:Cfg) (E:XK) (m:M Src):TI:=λσ H R=>∃μ ρ h,RelS G μ h.length H ρ σ/\Sim G μ h H/\Out G E μ h.length H (m ρ h) (ItOk G) R
def jO (X:Cx) (G:Cfg) (E:XK) (tg iter:bj) (m:M Src):Prop:=X.K=G.K->PI X tg iter (yF G E m)
theorem PI.imp {X:Cx}{tg iter:bj}{t t':TI}(h:PI X tg iter t) (i:∀σ H R,t' σ H R->t σ H R):PI X tg iter t':=λpins s σ H R I q=>h pins s σ H R I (i σ H R q)
def cO (xs:List Dv):Src:=⟨xs.length,λk _=>xs[k]?,λ_=>true⟩
def fP (i n:Nat):Src:=⟨n,λk h=>match getL h i with
 |some xs=>if xs.length=n then xs[k]? else none
 |none=>none,λh=>match getL h i with
 |some xs=>xs.length==n
 |none=>false⟩
def eE (lo hi:Int):Src:=⟨(hi - lo).toNat,λk _=>some (.int (lo+k)),λ_=>true⟩
def cA (f:Dv->Hs->Rs Src) (m:M Dv):M Src:=λρ h=>(m ρ h).bind f
section
variable{X:Cx}{G:Cfg}{E:XK}{tg e a b:bj}{me ma mb:M Dv}{pos p:Pos}
def gD:Dv->Hs->Rs Src
 | .ref i,h=>match getL h i with
  |some xs=>.ok (fP i xs.length) h
  |none=>.bad
 |_,_=>.bad
def eF:Dv->Hs->Rs Src
 | .tup xs,h=>.ok (cO xs) h
 |_,_=>.bad
theorem yG (he:aG X G E e me):jO X G E tg e (cA gD me):=λhK=>PI.imp (MX (he hK)) λσ H R ⟨μ,ρ,h,rs,s,o⟩=>cR rs s o λμ1 x h1 vx H1 x1 rs1 s1 r1 o1=>by
 rw[hK]
 cases x with
 |ref i=>
  obtain⟨hi,rfl⟩:=r1;dsimp only[gD]at o1
  cases g:getL h1 i with
  |none=>rw[g]at o1;exact o1.elim
  |some xs=>
   rw[g]at o1;obtain⟨vs,e1,r2⟩:=s1.ob i _ (cT g);refine⟨_,rfl,⟨vs,SqL.of e1⟩,o1.val s1 λk μ2 h2 H2 x2 s2=>?_⟩;have emu:=x2.mu i hi;constructor
   ·intro hk d hd;dsimp only[fP]at hd
    cases g2:getL h2 i with
    |none=>rw[g2]at hd;cases hd
    |some ys=>
     rw[g2]at hd;dsimp only at hd
     split at hd
     ·obtain⟨ws,e2,r3⟩:=s2.ob i _ (cT g2);rw[emu]at e2;obtain⟨v,ev,rv⟩:=r3.get hd;refine⟨⟨ws,v,SqL.of e2,ev⟩,λx H' hy=>?_⟩;obtain⟨rfl,hy⟩:=hy;have:=hy ws (SqL.of e2);rw[ev]at this;cases this;exact⟨Same.refl _,rv⟩
     ·cases hd
   ·intro hk hf;dsimp only[fP]at hf
    cases g2:getL h2 i with
    |none=>rw[g2]at hf;cases hf
    |some ys=>
     rw[g2]at hf;obtain⟨ws,e2,r3⟩:=s2.ob i _ (cT g2);rw[emu]at e2;refine⟨ws,SqL.of e2, ?_⟩;have h3:ys.length=xs.length:=by simpa using hf
     rw[r3.length,h3,hk];exact ak _
 |_=>exact o1.elim
theorem ItOk.tup {μ:Nat->ah}{n:Nat}{H:Hp}{a:ah}{vs:List V}{xs:List Dv}{K:ao}(e:H a=some (.tup vs)) (r:RelDL G μ n H xs vs) (hi:∀(X:Cx),True):ItOk G μ n H (cO xs) (xE K a):=by
 intro k μ2 h2 H2 x2 s2;have e2:=x2.im a (.tup vs) trivial e;have r2:=RelDL.mono x2 _ _ r;have inj:∀ws,SqT K H2 a ws->ws=vs->True:=λ_ _ _=>trivial;constructor
 ·intro hk d hd;obtain⟨v,ev,rv⟩:=r2.get hd;refine⟨⟨vs,v,SqT.of e2,ev⟩,λx H' hy=>?_⟩;obtain⟨rfl,hy⟩:=hy;have:=hy vs (SqT.of e2);rw[ev]at this;cases this;exact⟨Same.refl _,rv⟩
 ·intro hk _;exact⟨vs,SqT.of e2,by rw[r2.length,hk];exact ak _⟩
theorem mX (he:aG X G E e me):jO X G E tg e (cA eF me):=λhK=>PI.imp (MY (he hK)) λσ H R ⟨μ,ρ,h,rs,s,o⟩=>cR rs s o λμ1 x h1 vx H1 x1 rs1 s1 r1 o1=>by
 cases x with
 |tup xs=>obtain⟨a,vs,rfl,e1,r2⟩:=r1;exact⟨a,rfl,⟨vs,SqT.of e1⟩,o1.val s1 (ItOk.tup e1 r2 λ_=>trivial)⟩
 |_=>exact o1.elim
def kX (i:Int):Bool:=decide (-4611686018427387904<=i)&&decide (i<4611686018427387904)
def eI:List Dv->Hs->Rs Src
 | [.int j],h=>if kX j=true then .ok (eE 0 j) h else .bad
 |_,_=>.bad
def mY:List Dv->Hs->Rs Src
 | [.int i,.int j],h=>if kX i=true/\kX j=true then .ok (eE i j) h else .bad
 |_,_=>.bad
def aQ (f:List Dv->Hs->Rs Src) (ms:M (List Dv)):M Src:=λρ h=>(ms ρ h).bind f
theorem ItOk.rng {μ:Nat->ah}{n:Nat}{H:Hp}(lo hi:Int):ItOk G μ n H (eE lo hi) (pL lo (hi - lo).toNat):=by
 intro k μ2 h2 H2 x2 s2;constructor
 ·intro hk d hd;cases hd;exact⟨hk,λx H' hy=>by obtain⟨rfl,rfl⟩:=hy;exact⟨Same.refl _,rfl⟩⟩
 ·intro hk _;exact lh hk.symm
variable{ms:M (List Dv)}
theorem qD (hg:Gl X "range") (hm:X.mg "range" = none) (ha:cS X G E [a] ms) (hs:aq [a] X.env=[(false,eval a X.env)]:=by rfl):jO X G E tg (.Call (.Name "range" p) [a] [] pos) (aQ eI ms):=λhK=>
 PI.imp (M5 hg hm (ha hK) hs) λσ H R ⟨μ,ρ,h,rs,s,o⟩=>iT rs s o λμ1 ds h1 vs H1 x1 rs1 s1 r1 o1=>by
  unfold eI at o1
  split at o1
  ·rename_i j
   split at o1
   ·rename_i hj;obtain⟨v,rfl,rv⟩:=qB r1;rw[RelD]at rv;subst rv;simp only[kX,cy,decide_eq_true_eq]at hj;refine⟨j,rfl,by omega,by omega, ?_⟩;have:=o1.val s1 (ItOk.rng (G:=G) (μ:=μ1) (n:=h1.length) (H:=H1) 0 j);rw[Int.sub_zero]at this;exact this
   ·exact o1.elim
  ·exact o1.elim
theorem QS (hg:Gl X "range") (hm:X.mg "range" = none) (ha:cS X G E [a,b] ms) (hs:aq [a,b] X.env=[(false,eval a X.env),(false,eval b X.env)]:=by rfl) (hs2:aq [b] X.env=[(false,eval b X.env)]:=by rfl):jO X G E tg (.Call (.Name "range" p) [a,b] [] pos) (aQ mY ms):=λhK=>
 PI.imp (M6 hg hm (ha hK) hs hs2) λσ H R ⟨μ,ρ,h,rs,s,o⟩=>iT rs s o λμ1 ds h1 vs H1 x1 rs1 s1 r1 o1=>by
  unfold mY at o1
  split at o1
  ·rename_i i j
   split at o1
   ·rename_i hj;obtain⟨v,v',rfl,rv,rv'⟩:=tO r1;rw[RelD]at rv rv';subst rv;subst rv';simp only[kX,cy,decide_eq_true_eq]at hj;exact⟨i,j,rfl,⟨by omega,by omega,by omega,by omega⟩,o1.val s1 (ItOk.rng (G:=G) (μ:=μ1) (n:=h1.length) (H:=H1) i j)⟩
   ·exact o1.elim
  ·exact o1.elim
end
def fZ (src:Src) (st:cK) (body:MS):Nat->Nat->MS
 |0,_=>λρ h=>if src.fin h=true then .nx ρ h else .bad
 |f+1,k=>λρ h=>match src.get k h with
  |none=>.bad
  |some d=>match st d ρ with
   |none=>.bad
   |some ρ1=>match body ρ1 h with
    | .nx ρ2 h2=>fZ src st body f (k+1) ρ2 h2
    | .ct ρ2 h2=>fZ src st body f (k+1) ρ2 h2
    | .bk ρ2 h2=>.nx ρ2 h2
    |r=>r
def gE (mi:M Src) (st:cK) (body:MS):MS:=λρ h=>(mi ρ h).thenS λsrc h1=>fZ src st body src.n 0 ρ h1
section
variable{X:Cx}{G:Cfg}{E:XK}{tg iter:bj}{body:List gy}{mi:M Src}{st:cK}{mb:MS}{pos:Pos}
theorem qE (hp:vj (model X.prog X.w) X.A X.env X.xe) (hc:X.calm=true) (hi:jO X G E tg iter mi) (hg:kW X G tg st) (hb:hJ X G E body mb)
  (hs:∀x,foldedSetIterable iter X.env x=pure x:=by intro _;rfl):gZ X G E (.For tg iter body [] pos) (gE mi st mb):=λhK=>PS.imp (M8 hp hc (hi hK) (hg hK) (hb hK) hs) λD σ H ⟨μ,ρ,h,rs,s,o⟩=>by
 refine⟨μ,ρ,h,rs,s,(o.thenS (R:=ItOk G)).mono λJ H1 ⟨μ1,src,h1,x1,s1,ok,o1⟩=>?_⟩;refine⟨λi m σ H=>∃μ2 ρ2 h2,Ext μ1 h1.length H1 μ2 h2.length H/\RelS G μ2 h2.length H ρ2 σ/\Sim G μ2 h2 H/\i+m=src.n/\SOut G E μ2 h2.length H (fZ src st mb m i ρ2 h2) D,⟨src.n,μ1,ρ,h1,Ext.refl,rs.mono x1,s1,Nat.zero_add _,o1⟩, ?_⟩
 rintro i m σ2 H2 ⟨μ2,ρ2,h2,x2,rs2,s2,him,o2⟩
 cases m with
 |zero=>
  unfold fZ at o2
  split at o2
  ·rename_i hf;exact .inl ⟨(ok i μ2 h2 H2 x2 s2).2 (by omega) hf,o2 μ2 H2 σ2 Ext.refl s2 rs2⟩
  ·exact o2.elim
 |succ m=>
  unfold fZ at o2
  cases q:src.get i h2 with
  |none=>rw[q]at o2;exact o2.elim
  |some d=>
   rw[q]at o2;dsimp only at o2
   cases q2:st d ρ2 with
   |none=>rw[q2]at o2;exact o2.elim
   |some ρ3=>
    rw[q2]at o2;dsimp only at o2;obtain⟨go,yl⟩:=(ok i μ2 h2 H2 x2 s2).1 (by omega) d q;refine .inr ⟨go,λσ' H'=>∃μ3 ρ4 h4,Ext μ1 h1.length H1 μ3 h4.length H'/\RelS G μ3 h4.length H' ρ4 σ'/\Sim G μ3 h4 H'/\(i+1)+m=src.n/\SOut G E μ3 h4.length H' (fZ src st mb m (i+1) ρ4 h4) D,λσ' H' z=>⟨m,kh m,z⟩,λx H' hy=>?_⟩;obtain⟨sm,rx⟩:=yl x H' hy;have xs:Ext μ2 h2.length H2 μ2 h2.length H':=Ext.same sm;refine⟨μ2,ρ2,h2.length,d,ρ3,rs2.mono xs,rx,q2,λσ3 rs3=>⟨μ2,ρ3,h2,rs3,s2.same sm, ?_⟩⟩;have step:∀ρ5 h5,SOut G E μ2 h2.length H2 (fZ src st mb m (i+1) ρ5 h5) D->∀μ6 H6 σ6,Ext μ2 h2.length H' μ6 h5.length H6->Sim G μ6 h5 H6->RelS G μ6 h5.length H6 ρ5 σ6->
      ∃μ3 ρ4 h4,Ext μ1 h1.length H1 μ3 h4.length H6/\RelS G μ3 h4.length H6 ρ4 σ6/\Sim G μ3 h4 H6/\(i+1)+m=src.n/\SOut G E μ3 h4.length H6 (fZ src st mb m (i+1) ρ4 h4) D:=
     λρ5 h5 o5 μ6 H6 σ6 x6 s6 rs6=>⟨μ6,ρ5,h5,(x2.trans xs).trans x6,rs6,s6,by omega,o5.ext (xs.trans x6)⟩
    cases q3:mb ρ3 h2 with
    |nx ρ5 h5=>rw[q3]at o2;exact step ρ5 h5 o2
    |ct ρ5 h5=>rw[q3]at o2;exact step ρ5 h5 o2
    |bk ρ5 h5=>rw[q3]at o2;exact λμ6 H6 σ6 x6 s6 rs6=>o2 μ6 H6 σ6 (xs.trans x6) s6 rs6
    |rt d5 h5=>rw[q3]at o2;exact λμ6 H6 σ6 x6 s6 rs6=>o2 μ6 H6 σ6 (xs.trans x6) s6 rs6
    |ex d5 h5=>rw[q3]at o2;exact λμ6 H6 σ6 x6 s6 rs6=>o2 μ6 H6 σ6 (xs.trans x6) s6 rs6
    |bad=>rw[q3]at o2;exact o2.elim
end
abbrev MC:=Ev->Hs->List Dv->Rs (Ev×List Dv)
def bQ (me:M Dv):MC:=λρ h acc=>match me ρ h with
 | .ok d h1=>if acc.length<1000000 then .ok (ρ,acc++[d]) h1 else .bad
 |_=>.bad
def eW (src:Src) (st:cK) (test:M Bool) (inner:MC):Nat->Nat->MC
 |0,_=>λρ h acc=>if src.fin h=true then .ok (ρ,acc) h else .bad
 |f+1,k=>λρ h acc=>match src.get k h with
  |none=>.bad
  |some d=>match st d ρ with
   |none=>.bad
   |some ρ1=>match test ρ1 h with
    | .ok true h2=>match inner ρ1 h2 acc with
     | .ok r h3=>eW src st test inner f (k+1) r.1 h3 r.2
     |_=>.bad
    | .ok false h2=>eW src st test inner f (k+1) ρ1 h2 acc
    |_=>.bad
def kY (mi:M Src) (st:cK) (test:M Bool) (inner:MC):MC:=λρ h acc=>match mi ρ h with
 | .ok src h1=>eW src st test inner src.n 0 ρ h1 acc
 |_=>.bad
def cU:M Bool:=λ_ h=>.ok true h
def jP (cap:List (Option Nat)) (ρ:Ev):Ev:=cap.map λo=>match o with
 |some j=>(ρ[j]?).getD none
 |none=>none
def bT (mi:M Src) (cap:List (Option Nat)) (st:cK) (test:M Bool) (inner:MC):M (List Dv):=λρ h=>(mi ρ h).bind λsrc h1=>match eW src st test inner src.n 0 (jP cap ρ) h1 []with
 | .ok r h2=>.ok r.2 h2
 |_=>.bad
def qF (G:Cfg) (m:MC):TC:=λσ H vs K=>∃μ ρ h xs ρ' xs' h',RelS G μ h.length H ρ σ/\Sim G μ h H/\RelDL G μ h.length H xs vs/\m ρ h xs=.ok (ρ',xs') h' /\
 ∀μ' H' σ' vs',Ext μ h.length H μ' h'.length H'->Sim G μ' h' H'->RelS G μ' h'.length H' ρ' σ'->RelDL G μ' h'.length H' xs' vs'->K σ' H' vs'
section
variable{G:Cfg}
theorem QT {μ:Nat->ah}{n:Nat}{H:Hp}{ρ:Ev}{σ:St}(rs:RelS G μ n H ρ σ) (cap:List (Option Nat)):RelS G μ n H (jP cap ρ) (nY cap σ):=⟨by simp[jP,nY],λi d e=>by
 unfold jP at e;rw[dj]at e
 cases q:cap[i]? with
 |none=>rw[q]at e;cases e
 |some o=>
  rw[q]at e
  cases o with
  |none=>cases e
  |some j=>
   have e':(ρ[j]?).getD none=some d:=by simpa using e
   have e2:ρ[j]?=some (some d):=by
    cases z:ρ[j]? with
    |none=>rw[z]at e';cases e'
    |some y=>rw[z]at e';simp at e';rw[e']
   obtain⟨v,e3,r⟩:=rs.at_ j d e2;refine⟨v, ?_,r⟩;unfold nY;rw[dj,q];simp[e3]⟩
theorem E2 {E:XK}{me:M Dv}{σ:St}{H:Hp}{vs:List V}{K:St->Hp->List V->Prop}(t:qF G (bQ me) σ H vs K):EC (eQ G E me) σ H vs K:=by
 obtain⟨μ,ρ,h,xs,ρ',xs',h',rs,s,r,e,k⟩:=t;refine⟨μ,ρ,h,rs,s, ?_⟩;unfold bQ at e
 cases q:me ρ h with
 |bad=>rw[q]at e;cases e
 |ex c h1=>rw[q]at e;cases e
 |ok d h1=>
  rw[q]at e;dsimp only at e
  split at e
  ·rename_i hl;cases e;intro μ1 H1 v x1 s1 r1;refine⟨?_,k μ1 H1 σ _ x1 s1 (rs.mono x1) ((RelDL.mono x1 _ _ r).append (RelDL.cons r1 RelDL.nil))⟩;rw[r.length];exact av hl (by decide)
  ·cases e
theorem E3 {E:XK}{src:Src}{st:cK}{test:M Bool}{inner:MC}{J:It}{μ1:Nat->ah}{h1:Hs}{H1:Hp}{ρ ρ':Ev}{σ:St}{xs xs':List Dv}{vs:List V}{h':Hs}{K:St->Hp->List V->Prop}
  (ok:ItOk G μ1 h1.length H1 src J) (rs:RelS G μ1 h1.length H1 ρ σ) (s1:Sim G μ1 h1 H1) (r:RelDL G μ1 h1.length H1 xs vs) (e:eW src st test inner src.n 0 ρ h1 xs=.ok (ρ',xs') h')
  (k:∀μ' H' σ' vs',Ext μ1 h1.length H1 μ' h'.length H'->Sim G μ' h' H'->RelS G μ' h'.length H' ρ' σ'->RelDL G μ' h'.length H' xs' vs'->K σ' H' vs'):
  pS J (qC G st) (iG G E test) (qF G inner) K σ H1 vs:=by
 refine⟨λi m σ H vs=>∃μ2 ρ2 h2 xs2,Ext μ1 h1.length H1 μ2 h2.length H/\RelS G μ2 h2.length H ρ2 σ/\Sim G μ2 h2 H/\RelDL G μ2 h2.length H xs2 vs/\i+m=src.n/\eW src st test inner m i ρ2 h2 xs2=.ok (ρ',xs') h',⟨src.n,μ1,ρ,h1,xs,Ext.refl,rs,s1,r,Nat.zero_add _,e⟩, ?_⟩
 rintro i m σ2 H2 vs2 ⟨μ2,ρ2,h2,xs2,x2,rs2,s2,r2,him,e2⟩
 cases m with
 |zero=>
  unfold eW at e2
  split at e2
  ·rename_i hf;cases e2;exact .inl ⟨(ok i μ2 _ H2 x2 s2).2 (by omega) hf,k μ2 H2 σ2 vs2 x2 s2 rs2 r2⟩
  ·cases e2
 |succ m=>
  unfold eW at e2
  cases q:src.get i h2 with
  |none=>rw[q]at e2;cases e2
  |some d=>
   rw[q]at e2;dsimp only at e2
   cases q2:st d ρ2 with
   |none=>rw[q2]at e2;cases e2
   |some ρ3=>
    rw[q2]at e2;dsimp only at e2;obtain⟨go,yl⟩:=(ok i μ2 h2 H2 x2 s2).1 (by omega) d q;refine .inr ⟨go,λσ' H' vs'=>∃μ3 ρ4 h4 xs4,Ext μ1 h1.length H1 μ3 h4.length H'/\RelS G μ3 h4.length H' ρ4 σ'/\Sim G μ3 h4 H'/\RelDL G μ3 h4.length H' xs4 vs'/\(i+1)+m=src.n/\eW src st test inner m (i+1) ρ4 h4 xs4=.ok (ρ',xs') h',
     λσ' H' vs' z=>⟨m,kh m,z⟩,λx H' hy=>?_⟩
    obtain⟨sm,rx⟩:=yl x H' hy;have xsm:Ext μ2 h2.length H2 μ2 h2.length H':=Ext.same sm;refine⟨μ2,ρ2,h2.length,d,ρ3,rs2.mono xsm,rx,q2,λσ3 rs3=>⟨μ2,ρ3,h2,rs3,s2.same sm, ?_⟩⟩
    cases q3:test ρ3 h2 with
    |bad=>rw[q3]at e2;cases e2
    |ex c h3=>rw[q3]at e2;cases e2
    |ok b h3=>
     rw[q3]at e2;intro μ4 H4 b' x4 s4 rb;have eb:b'=b:=rb;subst eb
     cases b' with
     |false=>rw[if_neg (by decide)];exact⟨μ4,ρ3,h3,xs2,(x2.trans xsm).trans x4,rs3.mono x4,s4,RelDL.mono (xsm.trans x4) _ _ r2,by omega,e2⟩
     |true=>
      rw[if_pos rfl];dsimp only at e2
      cases q4:inner ρ3 h3 xs2 with
      |bad=>rw[q4]at e2;cases e2
      |ex c h5=>rw[q4]at e2;cases e2
      |ok rr h5=>rw[q4]at e2;obtain⟨ρ5,xs5⟩:=rr;exact⟨μ4,ρ3,h3,xs2,ρ5,xs5,h5,rs3.mono x4,s4,RelDL.mono (xsm.trans x4) _ _ r2,q4,λμ6 H6 σ6 vs6 x6 s6 rs6 r6=>⟨μ6,ρ5,h5,xs5,((x2.trans xsm).trans x4).trans x6,rs6,s6,r6,by omega,e2⟩⟩
theorem QU {E:XK}{mi:M Src}{st:cK}{test:M Bool}{inner:MC}{σ:St}{H:Hp}{vs:List V}{K:St->Hp->List V->Prop}(t:qF G (kY mi st test inner) σ H vs K):EH (yF G E mi) (qC G st) (iG G E test) (qF G inner) σ H vs K:=by
 obtain⟨μ,ρ,h,xs,ρ',xs',h',rs,s,r,e,k⟩:=t;refine⟨μ,ρ,h,rs,s, ?_⟩;unfold kY at e
 cases q:mi ρ h with
 |bad=>rw[q]at e;cases e
 |ex c h1=>rw[q]at e;cases e
 |ok src h1=>rw[q]at e;exact λμ1 H1 J x1 s1 ok=>E3 ok (rs.mono x1) s1 (RelDL.mono x1 _ _ r) e λμ2 H2 σ2 vs2 x2=>k μ2 H2 σ2 vs2 (x1.trans x2)
def RL (G:Cfg):(Nat->ah)->Nat->Hp->List Dv->V->Prop:=λμ n H xs v=>∃p vs,v=.ref p/\H p=some (.lst vs)/\(∀i,i<n->μ i≠p)/\RelDL G μ n H xs vs
def tS (G:Cfg) (E:XK) (m:M (List Dv)):TE:=λσ H Q=>∃μ ρ h,RelS G μ h.length H ρ σ/\Sim G μ h H/\Out G E μ h.length H (m ρ h) (RL G) Q
def kZ (X:Cx) (G:Cfg) (E:XK) (pe:bj) (m:M (List Dv)):Prop:=X.K=G.K->PE X pe (tS G E m)
theorem Sim.adopt {μ:Nat->ah}{h:Hs}{H:Hp}{p:ah}{ds:List Dv}{vs:List V}(s:Sim G μ h H) (e:H p=some (.lst vs)) (hq:∀i,i<h.length->μ i≠p) (r:RelDL G μ h.length H ds vs):
  Ext μ h.length H (λi=>if i=h.length then p else μ i) (h++[Ob.lst ds]).length H/\Sim G (λi=>if i=h.length then p else μ i) (h++[.lst ds]) H:=by
 have hl:(h++[Ob.lst ds]).length=h.length+1:=by simp
 have x:Ext μ h.length H (λi=>if i=h.length then p else μ i) (h++[Ob.lst ds]).length H:=⟨by omega,λi hi=>if_neg (bc hi),λa o _ e=>e⟩
 refine⟨x,λi j hi hj e=>?_,λi o q=>?_,s.tab⟩
 ·rw[hl]at hi hj
  by_cases h1:i=h.length <;> by_cases h2:j=h.length
  ·omega
  ·rw[if_pos h1,if_neg h2]at e;exact absurd e.symm (hq j (by omega))
  ·rw[if_neg h1,if_pos h2]at e;exact absurd e (hq i (by omega))
  ·rw[if_neg h1,if_neg h2]at e;exact s.inj i j (by omega) (by omega) e
 ·by_cases h1:i<h.length
  ·rw[dh h1]at q;have r1:=s.ob i o q
   cases o with
   |lst xs=>obtain⟨ws,e1,r2⟩:=r1;exact⟨ws,by rw[if_neg (bc h1)];exact e1,RelDL.mono x _ _ r2⟩
  ·rw[dk (by omega)]at q;have h2:i=h.length:=by have:=(ax.mp q).1;simp at this;omega
   subst h2;simp at q;subst q;exact⟨vs,by rw[if_pos rfl];exact e,RelDL.mono x _ _ r⟩
def dQ (m:M (List Dv)):M Dv:=λρ h=>(m ρ h).bind λxs h1=>.ok (.ref h1.length) (h1++[.lst xs])
theorem QV {E:XK}{m:M (List Dv)}{σ:St}{H:Hp}{Q:VK}(t:eQ G E (dQ m) σ H Q):tS G E m σ H Q:=by obtain⟨μ,ρ,h,rs,s,o⟩:=t;refine⟨μ,ρ,h,rs,s,(o.bind (R1:=RL G)).mono λv H1 ⟨μ1,xs,h1,x1,s1,⟨p,vs,ev,e1,hq,r1⟩,o1⟩=>?_⟩;subst ev;obtain⟨x2,s2⟩:=s1.adopt e1 hq r1;exact o1 _ _ _ x2 s2 ⟨by simp,by show V.ref p=V.ref (if h1.length=h1.length then p else μ1 h1.length);rw[if_pos rfl]⟩
theorem qG {X:Cx}{E:XK}{pe:bj}{m:M (List Dv)}(h:kZ X G E pe m):aG X G E pe (dQ m):=λhK=>PE.imp (h hK) λ_ _ _ t=>QV t
theorem E4 {E E':XK}{mi:M Src}{cap:List (Option Nat)}{st:cK}{test:M Bool}{inner:MC}{σ:St}{H:Hp}{Q:VK}(t:tS G E (bT mi cap st test inner) σ H Q):EI (yF G E mi) cap (qC G st) (iG G E' test) (qF G inner) σ H Q:=by
 obtain⟨μ,ρ,h,rs,s,o⟩:=t;refine⟨μ,ρ,h,rs,s,(o.bind (R1:=ItOk G)).mono λJ H1 ⟨μ1,src,h1,x1,s1,ok,o1⟩=>?_⟩
 cases q:eW src st test inner src.n 0 (jP cap ρ) h1 []with
 |bad=>rw[q]at o1;exact o1.elim
 |ex c h2=>rw[q]at o1;exact o1.elim
 |ok r h2=>rw[q]at o1;obtain⟨ρ',xs'⟩:=r;refine E3 ok (QT (rs.mono x1) cap) s1 RelDL.nil q λμ2 H2 σ2 vs2 x2 s2 rs2 r2 p hp=>?_;exact o1 μ2 _ _ (x2.trans (Ext.same (bU hp))) (s2.same (bU hp)) ⟨p,vs2,rfl,bX,s2.not hp,RelDL.mono (Ext.same (bU hp)) _ _ r2⟩
end
section
variable{X:Cx}{G:Cfg}{E:XK}{elt tg iter tg' iter':bj}{ifs ifs':List bj}{sc:gn}{ps pos:Pos}{mi mi':M Src}{st st':cK}{test test':M Bool}{me:M Dv}{N:List Str}{cap:List (Option Nat)}
def qH (X:Cx) (G:Cfg) (ifs:List bj) (m:M Bool):Prop:=X.K=G.K->PTs X ifs (iG G E0 m)
theorem PTs.imp {Y:Cx}{ifs:List bj}{t t':TT}(h:PTs Y ifs t) (i:∀σ H Q,t' σ H Q->t σ H Q):PTs Y ifs t':=λpins s σ H Q I q=>h pins s σ H Q I (i σ H Q q)
theorem jQ {Y:Cx}:qH Y G [] cU:=λ_=>PTs.imp PL λσ H Q ⟨μ,ρ,h,rs,s,o⟩=>o.val s rfl
theorem tT {Y:Cx}{c:bj}{m:M Bool}(h:gK Y G E0 c m):qH Y G [c] m:=λhK=>PM (h hK)
theorem PCl.imp {Y:Cx}{D:ah}{m:Sem Unit}{t t':TC}(h:PCl Y D m t) (i:∀σ H xs K,t' σ H xs K->t σ H xs K):PCl Y D m t':=λpins s σ H xs K I a f q=>h pins s σ H xs K I a f (i σ H xs K q)
theorem iJ (hc:X.calm=true) (C:CapOk X sc N cap) (hi:jO X G E tg iter mi) (hg:∀s H ex,kW (cY X sc N s H ex) G tg st) (htt:∀s H ex,qH (cY X sc N s H ex) G ifs test) (hel:∀s H ex,aG (cY X sc N s H ex) G E0 elt me)
  (hs:∀x,foldedSetIterable iter X.env x=pure x:=by intro _;rfl):kZ X G E (.ListComp elt [⟨tg,iter,ifs,0⟩] sc ps) (bT mi cap st test (bQ me)):=λhK=>
 PE.imp (EJ hc C rfl (λit D env=>PN elt tg iter ifs sc ps (.ref it) D env) (hi hK) (λs H ex=>hg s H ex hK) (λs H ex=>htt s H ex hK) (λs H ex D=>PCl.imp (ED (hel s H ex hK)) λ_ _ _ _ t=>E2 t) hs) λ_ _ _ t=>E4 t
theorem QW (hc:X.calm=true) (C:CapOk X sc N cap) (hi:jO X G E tg iter mi) (hg:∀s H ex,kW (cY X sc N s H ex) G tg st) (htt:∀s H ex,qH (cY X sc N s H ex) G ifs test)
  (hi':∀s H ex,jO (cY X sc N s H ex) G E0 tg' iter' mi') (hg':∀s H ex,kW (cY X sc N s H ex) G tg' st') (htt':∀s H ex,qH (cY X sc N s H ex) G ifs' test') (hel:∀s H ex,aG (cY X sc N s H ex) G E0 elt me)
  (hs:∀x,foldedSetIterable iter X.env x=pure x:=by intro _;rfl) (hs':∀s H ex x,foldedSetIterable iter' (cY X sc N s H ex).env x=pure x:=by intro _ _ _ _;rfl):
  kZ X G E (.ListComp elt [⟨tg,iter,ifs,0⟩,⟨tg',iter',ifs',0⟩] sc ps) (bT mi cap st test (kY mi' st' test' (bQ me))):=λhK=>
 PE.imp (EJ hc C rfl (inner:=λD env=>pT iter' (.ListComp elt [⟨tg,iter,ifs,0⟩,⟨tg',iter',ifs',0⟩] sc ps) 1 D env) (λit D env=>PQ elt tg iter tg' iter' ifs ifs' sc ps (.ref it) D env) (hi hK) (λs H ex=>hg s H ex hK) (λs H ex=>htt s H ex hK)
  (λs H ex D=>PCl.imp (PU (X:=cY X sc N s H ex) (D:=D) (gens:=[⟨tg,iter,ifs,0⟩,⟨tg',iter',ifs',0⟩]) (d:=1) rfl hc rfl (λit=>PR elt tg iter tg' iter' ifs ifs' sc ps (.ref it) D _) (hi' s H ex hK) (hg' s H ex hK) (htt' s H ex hK) (PCl.imp (ED (hel s H ex hK)) λ_ _ _ _ t=>E2 t) (hs' s H ex)) λ_ _ _ _ t=>QU t) hs) λ_ _ _ t=>E4 t
end
def cV (T:ah) (h:ck):Prop:=∃oT ts,h.get? T=some oT/\oT.data=.fields ts/\ts[3]?=some .none
structure Chg (fs:List ah) (e T:ah) (h h':ck):Prop where
 new:h.objs.size<=T
 keep:∀b o,b≠e->b∉fs->h.get? b=some o->h'.get? b=some o
 slot:∀b o,b≠e->h.get? b=some o->∃sl,h'.get? b=some { o with slots:=sl }
 tb:cV T h'
theorem QX (f:Array af->Array af) (o:Obj):(Obj.mapFields f o).dict=o.dict:=by
 unfold Obj.mapFields
 split <;> rfl
section
variable{M:xh}{A:cf}{E:af->ag->Prop}{s:ag}
theorem yH {a:ah}{o:Obj}{vs:Array af}{i:Nat}{v:af}{Q:Unit->ag->Prop}(e:s.heap.get? a=some o) (hd:o.data=.fields vs) (hi:i<vs.size)
  (k:∀h' o',gv a s.heap h'->h'.get? a=some o'->o'.cls=o.cls->o'.dict=o.dict->o'.data=.fields (vs.setIfInBounds i v)->Q () { s with heap:=h' }):wpAny M A (setField (.ref a) i v) Q E s:=
 have d':=r9 hd (·.setIfInBounds i v)
 yq e hd hi (k _ _ (lj ..) (lx _ e (yz d')) (Obj.cls_mapFields ..) (QX ..) d')
theorem QY {head v:af}{L:Int}{pl:List af}{Q:af->ag->Prop}(hpl:IsPlace pl) (k:∀ob ts,ob.data=.fields ts->3<ts.size->ob.isFreed=false->Q (.ref s.heap.objs.size) { s with heap:=s.heap.push ob }):
  wpAny M A (wz head v .none (rawInt L) .none pl) Q E s:=
 fj (k _ _ rfl (by simp only[ar,bw,cp,jo];omega) rfl) (hpl.sizeOk5 ..)
theorem E5 {e T:ah}{oe oT:Obj}{vs ts:Array af}{Q:Unit->ag->Prop}(he:s.heap.get? e=some oe) (hd:oe.data=.fields vs) (h1:vs[1]?=some (.ref T)) (hT:s.heap.get? T=some oT) (hdT:oT.data=.fields ts) (hs:3<ts.size)
  (k:∀h',gv T s.heap h'->cV T h'->Q () { s with heap:=h' }):wpAny M A (setFlight (.ref e) none) Q E s:=by
 refine aa (ff he hd h1 ?_);show wpAny M A (if(gh T != jb)=true then _ else _) Q E s;rw[if_pos (by simp)];exact yH hT hdT hs λh' o' sb g _ _ d=>k h' sb ⟨o',_,g,d,by rw[ic hs];rfl⟩
theorem E6 {base:ck}{l:List Env}{a:ah}{o:Obj}{vs:Array af}(hl:s.heap.FunFrames base l) (e:s.heap.get? a=some o) (hd:o.data=.fields vs):a∉cM l:=λhm=>by obtain⟨_,o',e',nf⟩:=hl.mem hm;rw[e]at e';cases e';exact nf vs hd
theorem E7 {base:ck}{env:Env}{outer:List Env}{L e:ah}{oe:Obj}{vs:Array af}{head a0:af}{nx:Bool}{Q:Unit->ag->Prop}(hfr:A.frames=some (env::outer)) (hl:s.heap.FunFrames base (env::outer)) (hf:env.frame=some L)
  (he:s.heap.get? e=some oe) (hd:oe.data=.fields vs) (hdn:oe.dict=none) (hsz:1<vs.size) (h0:vs[0]?=some a0)
  (k:∀h' T,Chg (cM (env::outer)) e T s.heap h'->cN oe.cls e T a0 h'->Q () { s with heap:=h' }):
  wpAny M A (do let a <-frameOf env;let pl <-entryPlaceOf L nx;let b <-wz head a .none (rawInt L) .none pl;setField (.ref e) 1 b)
   (λ_ s'=>wpAny M A (setFlight (.ref e) none) Q E s') E s:=by
 have ne:=E6 hl he hd;refine aa (wpAny_frameOf_fun hfr hl hf λg1 so=>aa (wpAny_entryPlaceOf λpl hpl=>aa (QY hpl λob ts dt hts nf=>?_)));have e1:g1.get? e=some oe:=(so.2.1 e ne).trans he;have lt:e<g1.objs.size:=au e1;refine yH (s:={ s with heap:=g1.push ob }) (aj _ e1) hd hsz λg2 oe2 sb2 ge c2 dn2 d2=>?_;have gT:g2.get? g1.objs.size=some ob:=sb2.extBut _ _ (ji lt) (ay _ nf);refine E5 (s:={ s with heap:=g2 }) ge d2 (T:=g1.objs.size) (by rw[ic hsz]) gT dt hts λg3 sb3 tb=>?_;have kp:∀b o,b≠e->g1.get? b=some o->g3.get? b=some o:=λb o hb q=>sb3.extBut _ _ (bc (au q)) (sb2.extBut _ _ hb (aj _ q));refine k g3 g1.objs.size ⟨lh so.1.symm,λb o hb hn q=>kp b o hb ((so.2.1 b hn).trans q),λb o hb q=>?_,tb⟩ ⟨oe2,_,sb3.extBut _ _ (bc lt) ge,c2,d2, ?_, ?_,dn2.trans hdn⟩
 ·obtain⟨sl,q'⟩:=so.2.2 b o q;exact⟨sl,kp b _ hb q'⟩
 ·rw[Array.getElem?_setIfInBounds_ne (by decide)];exact h0
 ·rw[ic hsz]
theorem QZ {base:ck}{env:Env}{outer:List Env}{L e:ah}{oe:Obj}{vs:Array af}{a0:af}{Q:Unit->ag->Prop}(hfr:A.frames=some (env::outer)) (hl:s.heap.FunFrames base (env::outer)) (hf:env.frame=some L)
  (he:s.heap.get? e=some oe) (hd:oe.data=.fields vs) (hdn:oe.dict=none) (h0:vs[0]?=some a0) (h1:vs[1]?=some .none)
  (k:∀h' T,Chg (cM (env::outer)) e T s.heap h'->cN oe.cls e T a0 h'->Q () { s with heap:=h' }):
  wpAny M A (noteFrame (.ref e) env) (λ_ s'=>wpAny M A (setFlight (.ref e) none) Q E s') E s:=by
 unfold noteFrame;rw[hf];refine aa (ff he hd h1 ?_);exact E7 hfr hl hf he hd hdn (de.mp h1).1 h0 k
theorem Q0 {base:ck}{env:Env}{outer:List Env}{L e T:ah}{C a0:af}{Q:Unit->ag->Prop}(hfr:A.frames=some (env::outer)) (hl:s.heap.FunFrames base (env::outer)) (hf:env.frame=some L)
  (hx:cN C e T a0 s.heap) (ht:cV T s.heap) (hne:T≠e)
  (k:∀h' T',s.heap.objs.size<=T'->(∀b o,b≠e->b≠T->b∉cM (env::outer)->s.heap.get? b=some o->h'.get? b=some o)->(∀b o,b≠e->b≠T->s.heap.get? b=some o->∃sl,h'.get? b=some { o with slots:=sl })->
   cN C e T' a0 h'->cV T h'->cV T' h'->Q () { s with heap:=h' }):
  wpAny M A (noteFrame (.ref e) env) (λ_ s'=>wpAny M A (setFlight (.ref e) none) Q E s') E s:=by
 obtain⟨oe,vs,he,rfl,hd,h0,h1,hdn⟩:=hx;obtain⟨oT,ts,hT,hdT,h3⟩:=ht;have l3:3<ts.size:=(de.mp h3).1;have nT:=E6 hl hT hdT;unfold noteFrame;rw[hf];refine aa (ff he hd h1 ?_);rw[if_pos (by simp)];refine aa (ff hT hdT h3 ?_);rw[if_neg (by simp[rawInt])];refine aa (yH hT hdT l3 λg o' sb gT _ _ dT=>?_);have hl':g.FunFrames base (env::outer):=hl.of_keeps λb o q nf=>⟨o,sb.extBut _ _ (λz=>by subst z;rw[hT]at q;cases q;exact nf ts hdT) q,rfl⟩
 refine E7 (s:={ s with heap:=g }) hfr hl' hf (sb.extBut _ _ (cz hne) he) hd hdn (de.mp h1).1 h0 λh' T' c x=>?_;refine k h' T' (by rw[<-sb.1];exact c.new) (λb o n1 n2 n3 q=>c.keep b o n1 n3 (sb.extBut _ _ n2 q)) (λb o n1 n2 q=>c.slot b o n1 (sb.extBut _ _ n2 q)) x ⟨_,_,c.keep T _ hne nT gT,dT, ?_⟩ c.tb;rw[ic l3]
end
theorem yI {P:bf}{w:cg}{H:Hp}{h:ck}{a:ah}{o:HO}(x:ObjOk P w H h a o):∃ob,h.get? a=some ob:=by
 cases o with
 |lst xs=>obtain⟨_,_,_,_,e⟩:=x;exact⟨_,e⟩
 |tup xs=>obtain⟨_,_,_,ob,e,_⟩:=x;exact⟨_,e⟩
 |dK kvs=>obtain⟨_,_,_,_,o,_,_,e,_⟩:=x;exact⟨_,e⟩
 |dT kvs=>obtain⟨_,_,_,_,o,_,_,e,_⟩:=x;exact⟨_,e⟩
 |set S n=>obtain⟨o,_,_,_,e,_⟩:=x;exact⟨_,e⟩
 |ins C dx fs=>obtain⟨_,_,_,e,_⟩:=x;exact⟨_,e⟩
 |own y=>exact x
 |xd fs=>obtain⟨_,⟨_,_,_,e,_⟩,_⟩:=x;exact⟨_,e⟩
 |rng lo hi=>obtain⟨_,_,_,e⟩:=x;exact⟨_,e⟩
 |frz ob u=>obtain⟨e,_⟩:=x;exact⟨_,e⟩
 |tbl ps=>exact⟨_,(show h.get? a=some _ from x)⟩
 |met f y=>exact⟨_,(show h.get? a=some _ from x)⟩
 |ext φ=>obtain⟨_,e,_⟩:=x;exact e
def tU (base:ck) (H:Hp) (C:af) (e:ah):Prop:=∃T a0,H e=some (.ext (cN C e T a0))/\H T=some (.ext (cV T))/\base.get? e=none/\T≠e
def qI (e:ah) (H H':Hp):Prop:=∀b o,b≠e->H b=some o->H' b=some o
theorem Q2 {C a0:af}{e T:ah}{h1 h2:ck}(x:cN C e T a0 h1) (k:∀o,h1.get? e=some o->h2.get? e=some o):cN C e T a0 h2:=by obtain⟨oe,vs,he,r⟩:=x;exact⟨oe,vs,k oe he,r⟩
theorem Q3 {T:ah}{h1 h2:ck}(x:cV T h1) (k:∀o,h1.get? T=some o->h2.get? T=some o):cV T h2:=by obtain⟨oe,vs,he,r⟩:=x;exact⟨oe,vs,k oe he,r⟩
theorem E8 {P:bf}{w:cg}{H:Hp}{h:ck}{C a0:af}{e T:ah}(x:cN C e T a0 h):ObjOk P w H h e (.ext (cN C e T a0)):=⟨x,(let ⟨oe,_,he,_⟩:=x;⟨oe,he⟩),λ_ _ y k=>Q2 y k⟩
theorem tV {P:bf}{w:cg}{H:Hp}{h:ck}{T:ah}(x:cV T h):ObjOk P w H h T (.ext (cV T)):=⟨x,(let ⟨oe,_,he,_⟩:=x;⟨oe,he⟩),λ_ _ y k=>Q3 y k⟩
section
variable{P:bf}{w:cg}{M:xh}{A:cf}{E:af->ag->Prop}{s:ag}{H:Hp}{base:ck}{env:Env}{outer:List Env}{L e:ah}{C:af}
theorem yJ {Q:Unit->ag->Prop}(hfr:A.frames=some (env::outer)) (hl:s.heap.FunFrames base (env::outer)) (hf:env.frame=some L) (hok:HOk P w H s.heap) (hfree:∀b∈cM (env::outer),H b=none) (fl:tU base H C e)
  (k:∀h' H',Un (cM (env::outer)) [] H H' s.heap h'->HOk P w H' h'->tU base H' C e->qI e H H'->Q () { s with heap:=h' }):
  wpAny M A (noteFrame (.ref e) env) (λ_ s'=>wpAny M A (setFlight (.ref e) none) Q E s') E s:=by
 obtain⟨T,a0,he,hT,hb,hne⟩:=fl;have xe:cN C e T a0 s.heap:=(show ObjOk P w H s.heap e _ from hok e _ he).1;have xt:cV T s.heap:=(show ObjOk P w H s.heap T _ from hok T _ hT).1;refine Q0 hfr hl hf xe xt hne λh' T' hnew keep slot x' t0 t'=>?_;have nT':H T'=none:=hok.fresh hnew;have eT':T'≠e:=(dU he nT').symm;have TT':T'≠T:=(dU hT nT').symm;have sx:qI e H (aM (aM H e (.ext (cN C e T' a0))) T' (.ext (cV T'))):=λb o hbe q=>by rw[aZ (dU q nT'),aZ hbe];exact q
 have ee:aM (aM H e (.ext (cN C e T' a0))) T' (.ext (cV T')) e=some (.ext (cN C e T' a0)):=by rw[aZ (cz eT'),bX]
 refine k h' (aM (aM H e (.ext (cN C e T' a0))) T' (.ext (cV T'))) ?_ ?_ ⟨T',a0,ee,bX,hb,eT'⟩ sx
 ·have free:∀b o,s.heap.get? b=some o->H b=none->aM (aM H e (.ext (cN C e T' a0))) T' (.ext (cV T')) b=none:=λb o q n=>by have h1:b≠T':=bc (av (au q) hnew);have h2:b≠e:=(dU he n).symm;rw[aZ h1,aZ h2];exact n
  refine⟨λb o q n hb _=>keep b o (dU he n).symm (dU hT n).symm hb q,λb o q n _ _=>slot b o (dU he n).symm (dU hT n).symm q,λb o q n _=>free b o q n,λb o q _=>?_,λb xs q=>?_,λb o u q=>?_,λb ps q=>?_⟩
  ·by_cases h1:b=e
   ·subst h1;obtain⟨oe,_,z,_⟩:=x';exact⟨oe,z⟩
   ·by_cases h2:b=T
    ·subst h2;obtain⟨oe,_,z,_⟩:=t0;exact⟨oe,z⟩
    ·obtain⟨sl,z⟩:=slot b o h1 h2 q;exact⟨_,z⟩
  ·exact sx b _ (lM q he (by intro z;cases z)) q
  ·exact sx b _ (lM q he (by intro z;cases z)) q
  ·exact⟨#[],by rw[sx b _ (lM q he (by intro z;cases z)) q];simp⟩
 ·intro a o q
  by_cases h1:a=T'
  ·subst h1;rw[bX]at q;cases q;exact tV t'
  ·rw[aZ h1]at q
   by_cases h2:a=e
   ·subst h2;rw[bX]at q;cases q;exact E8 x'
   ·rw[aZ h2]at q
    by_cases h3:a=T
    ·subst h3;rw[hT]at q;cases q;exact tV t0
    ·have nf:a∉cM (env::outer):=λz=>by rw[hfree a z]at q;cases q
     refine(hok a o q).stay (λb u hb z=>?_) (λb z=>sx b _ (lM z he (by intro y;cases y)) z) λb xs z=>sx b _ (lM z he (by intro y;cases y)) z
     rcases hb with rfl|hb
     ·exact keep b u h2 h3 nf z
     ·exact keep b u (lM hb he (by intro y;cases y)) (lM hb hT (by intro y;cases y)) (λy=>by rw[hfree b y]at hb;cases hb) z
theorem E9 {Q:Unit->ag->Prop}{h0:ck}{args:List af}(hfr:A.frames=some (env::outer)) (hl:h0.FunFrames base (env::outer)) (hf:env.frame=some L) (hok:HOk P w H h0) (hfree:∀b∈cM (env::outer),H b=none) (hsb:∀b o,base.get? b=some o->h0.get? b=some o)
  (mx:Heap.MadeExcOf h0 s.heap e C args)
  (k:∀h' H',Un (cM (env::outer)) [] H H' h0 h'->HOk P w H' h'->tU base H' C e->Same H H'->Q () { s with heap:=h' }):
  wpAny M A (noteFrame (.ref e) env) (λ_ s'=>wpAny M A (setFlight (.ref e) none) Q E s') E s:=by
 obtain⟨t,he,hnt,ht⟩:=mx.there;have hbn:base.get? e=none:=by
  cases q:base.get? e with
  |none=>rfl
  |some o=>have:=hsb e o q;rw[mx.new]at this;cases this
 have nH:H e=none:=by
  cases q:H e with
  |none=>rfl
  |some o=>
   have z:∀a o,H a=some o->h0.get? a≠none:=λa o q n=>by
    have lt:=hok.lt q;have:=(hok a o q)
    have ex:∃ob,h0.get? a=some ob:=yI this;obtain⟨ob,eo⟩:=ex;rw[n]at eo;cases eo
   exact absurd mx.new (z e o q)
 have hl1:s.heap.FunFrames base (env::outer):=hl.of_keeps λb o hb _=>⟨o,mx.keeps b o hb,rfl⟩
 refine QZ hfr hl1 hf he rfl rfl (a0:=.ref t) rfl rfl λh' T c x=>?_;have ne_e:∀b o,h0.get? b=some o->b≠e:=λb o q z=>by subst z;rw[mx.new]at q;cases q
 have lt0:∀b o,h0.get? b=some o->b<T:=λb o q=>av (au (mx.keeps b o q)) c.new;have nT:H T=none:=by
  cases q:H T with
  |none=>rfl
  |some o=>obtain⟨ob,eo⟩:=yI (hok T o q);exact absurd (lt0 T ob eo) (fq _)
 have eT:T≠e:=ji (av (au he) c.new);have sm:Same H (aM (aM H e (.ext (cN C e T (.ref t)))) T (.ext (cV T))):=λb o q=>by rw[aZ (dU q nT),aZ (dU q nH)];exact q
 refine k h' (aM (aM H e (.ext (cN C e T (.ref t)))) T (.ext (cV T))) ?_ ?_ ⟨T,.ref t,by rw[aZ (cz eT),bX],bX,hbn,eT⟩ sm
 ·refine⟨λb o q n hb _=>c.keep b o (ne_e b o q) hb (mx.keeps b o q),λb o q n _ _=>c.slot b o (ne_e b o q) (mx.keeps b o q),λb o q n _=>?_,λb o q _=>?_,λb xs q=>sm b _ q,λb o u q=>sm b _ q,λb ps q=>⟨#[],by rw[sm b _ q];simp⟩⟩
  ·rw[aZ (bc (lt0 b o q)),aZ (ne_e b o q)];exact n
  ·obtain⟨sl,z⟩:=c.slot b o (ne_e b o q) (mx.keeps b o q);exact⟨_,z⟩
 ·intro a o q
  by_cases h1:a=T
  ·subst h1;rw[bX]at q;cases q;exact tV c.tb
  ·rw[aZ h1]at q
   by_cases h2:a=e
   ·subst h2;rw[bX]at q;cases q;exact E8 x
   ·rw[aZ h2]at q;have nf:a∉cM (env::outer):=λz=>by rw[hfree a z]at q;cases q
    refine(hok a o q).stay (λb u hb z=>?_) (λb z=>sm b _ z) λb xs z=>sm b _ z
    rcases hb with rfl|hb
    ·exact c.keep b u (ne_e b u z) nf (mx.keeps b u z)
    ·exact c.keep b u (ne_e b u z) (λy=>by rw[hfree b y]at hb;cases hb) (mx.keeps b u z)
end
def bE (P:bf) (w:cg) (base:ck):kQ:=λouter H s E u s'=>∃e C H',u=.ref e/\s'.os=s.os/\ph s'.gens/\Un (cM outer) [] H H' s.heap s'.heap/\HOk P w H' s'.heap/\tU base H' C e/\E u none H'
def Q4 (X:Cx) (E:XK):Prop:=∀(pins:List (ah×Obj)) (σ:St) (H:Hp) (s:ag) (h':ck) (e:ah) (C:af) (args:List af),Inv X pins σ H s->Heap.MadeExcOf s.heap h' e C args->
 (∀H',Same H H'->(∃T a0,H' e=some (.ext (cN C e T a0)))->E (.ref e) none H')->X.xe (.ref e) { s with heap:=h' }
structure Good (X:Cx) (G:Cfg) (E:XK) (k:Nat):Prop where
 calm:X.calm=true
 room:Room k X.A
 K:X.K=G.K
 pas:xI (bE X.prog X.w X.base) X E
 own:vj (model X.prog X.w) X.A X.env X.xe
 rais:Q4 X E
def yK (E:XK):Prop:=∀e H H',qI e H H'->(∃C T a0 T' a0',H e=some (.ext (cN C e T a0))/\(∃h,cN C e T a0 h)/\H' e=some (.ext (cN C e T' a0')))->E (.ref e) none H->E (.ref e) none H'
section
variable{P:bf}{w:cg}{K:ao}{mg:Str->Option af}{base:ck}{N:List Str}{qual:Str}{scope:gn}{f:ah}{cdv:af}{A:cf}{outer:List Env}{s0:ag}{H0:Hp}{E0:XK}{G:Cfg}{E:XK}{k:Nat}
theorem yL (hr:Room k (A.deeper (envOfC qual scope s0.heap.objs.size f cdv))) (hK:K=G.K) (hE:∀u H',E u none H'->E0 u none H') (hF:yK E):
  Good (eG (bE P w base) P w K mg base N qual scope f cdv A outer s0 H0 E0) G E k where
 calm:=rfl
 room:=hr
 K:=hK
 own:=yg
 pas:=by intro pins σ H s u s' I ⟨e,C,H',eu,os,bare,un,hok,fl,he⟩;subst eu;have I':=I.call' os un hok bare (λb z=>absurd z (by simp));refine aa (yJ (P:=P) (w:=w) (H:=H') (base:=base) I'.ok.frames I'.stack rfl hok I'.stkFree fl λh'' H'' un2 hok2 fl2 sx=>?_);have I2:=I'.call (h':=h'') (g':=s'.gens) (d':=s'.drawn) (t':=s'.toks) un2 hok2 I'.bare (λb z=>absurd z (by simp));obtain⟨T,a0,h1,_⟩:=id fl;obtain⟨T2,a2,h3,_⟩:=id fl2;have xe1:cN C e T a0 s'.heap:=(show ObjOk P w H' s'.heap e _ from hok e _ h1).1;have:E (.ref e) none H'':=hF e H' H'' sx ⟨C,T,a0,T2,a2,h1,⟨_,xe1⟩,h3⟩ he;exact⟨e,C,H'',rfl,I2.os,I2.bare,I2.base,hok2,fl2,hE _ _ this⟩
 rais:=by intro pins σ H s h' e C args I mx he;refine aa (E9 (P:=P) (w:=w) (H:=H) (base:=base) I.ok.frames I.stack rfl I.hok I.stkFree I.bk mx λh'' H'' un2 hok2 fl2 sm=>?_);have I2:=I.call (h':=h'') (g':=s.gens) (d':=s.drawn) (t':=s.toks) un2 hok2 I.bare (λb z=>absurd z (by simp));obtain⟨T2,a2,h3,_⟩:=id fl2;exact⟨e,C,H'',rfl,I2.os,I2.bare,I2.base,hok2,fl2,hE _ _ (he H'' sm ⟨T2,a2,h3⟩)⟩
theorem eX {X:Cx}{sc:gn}{N':List Str}{s:ag}{H:Hp}{ex:List ah}(g:Good X G E k):Good (cY X sc N' s H ex) G L2.E0 k where
 calm:=g.calm
 room:=g.room
 K:=g.K
 own:=PassesOwn.never
 pas:=λ_ _ _ _ _ _ _ ⟨_,_,_,_,_,_,_,_,_,z⟩=>z
 rais:=λ_ _ H s h' e C args I mx he=>by
  have nH:H e=none:=by
   cases q:H e with
   |none=>rfl
   |some o=>obtain⟨ob,eo⟩:=yI (I.hok e o q);rw[mx.new]at eo;cases eo
  exact he (aM H e (.ext (cN C e 0 .none))) (bU nH) ⟨0,.none,bX⟩
def bI (n:Nat) (ds:List Dv):Ev:=ds.map some++uh (n - ds.length) none
def bG:Sr->Rs Dv
 | .rt d h=>.ok d h
 | .nx _ h=>.ok .non h
 | .ex c h=>.ex c h
 |_=>.bad
def aS (np n:Nat) (mb:MS):List Dv->Hs->Rs Dv:=λds h=>if ds.length=np then bG (mb (bI n ds) h)else .bad
def cF (G:Cfg) (F:List Dv->Hs->Rs Dv):Sp:=λvs H Q E=>∃μ h ds,RelDL G μ h.length H ds vs/\Sim G μ h H/\Out G E μ h.length H (F ds h) (RelD G) Q
theorem FA {μ:Nat->ah}{n:Nat}{H:Hp}{ds:List Dv}{vs:List V}(r:RelDL G μ n H ds vs) (N:List Str):RelS G μ n H (bI N.length ds) (start N vs):=by
 have hl:=r.length;refine⟨by simp[bI,start,hl],λi d e=>?_⟩;unfold bI at e
 by_cases hi:i<ds.length
 ·rw[dh (by simpa using hi),dj]at e
  cases q:ds[i]? with
  |none=>rw[q]at e;cases e
  |some d'=>rw[q]at e;cases e;obtain⟨v,e1,r1⟩:=r.get q;refine⟨v, ?_,r1⟩;unfold start;rw[dh (by simp;omega),dj,e1];rfl
 ·rw[dk (by simpa using hi),p7]at e
  split at e <;> cases e
def EB (G:Cfg) (μ0:Nat->ah) (n0:Nat) (H0:Hp) (r:Sr):XK:=λu _ H'=>∃c h' μ',r=.ex c h'/\Ext μ0 n0 H0 μ' h'.length H'/\Sim G μ' h' H'/\tF G H' c u
theorem Sim.sameX {μ:Nat->ah}{h:Hs}{H H':Hp}{e:ah}(s:Sim G μ h H) (sx:qI e H H') (hx:∃φ,H e=some (.ext φ)):Sim G μ h H'/\∀(n:Nat),Ext μ n H μ n H':=by
 obtain⟨φ,hx⟩:=hx;have x:∀n:Nat,Ext μ n H μ n H':=λn=>⟨ak _,λ_ _=>rfl,λa o i q=>sx a o (by rintro rfl;rw[hx]at q;cases q;exact i) q⟩
 refine⟨⟨s.inj,λi o q=>?_,s.tab.keep λa o _ n2 q=>sx a o (by rintro rfl;rw[hx]at q;cases q;exact n2 _ rfl) q⟩,x⟩;have r:=s.ob i o q
 cases o with
 |lst xs=>obtain⟨vs,e1,r1⟩:=r;exact⟨vs,sx _ _ (lM e1 hx (by intro z;cases z)) e1,RelDL.mono (x _) _ _ r1⟩
theorem yM {μ0:Nat->ah}{n0:Nat}{H0:Hp}{r:Sr}:yK (EB G μ0 n0 H0 r):=by intro e H H' sx ⟨C,T,a0,T',a0',h1,⟨hp,hx⟩,h3⟩ ⟨c,h',μ',er,x,s,e',φ,eu,h4,h5⟩;cases eu;obtain⟨s2,x2⟩:=s.sameX sx ⟨_,h1⟩;refine⟨c,h',μ',er,x.trans (x2 _),s2,e,_,rfl,h3,λhh z=>?_⟩;rw[h1]at h4;cases h4;obtain⟨o,g1,g2⟩:=h5 hp hx;obtain⟨oe,vs,g3,g4,_⟩:=hx;rw[g3]at g1;cases g1;obtain⟨oe',vs',g5,g6,_⟩:=z;exact⟨oe',g5,by rw[g6,<-g4,g2]⟩
theorem dR {x qual:Str}{st:gy}{fd:bp}{ps:List Str}{mb:MS}(Fn:Fun K x qual st f fd) (S:FnScope N ps (aT st)) (hK:K=G.K)
  (hbody:∀(cdv:af) (A:cf) (outer:List Env) (s:ag) (H:Hp) (E₀ E:XK),Good (eG (bE P w base) P w K mg base N qual (aT st) f cdv A outer s H E₀) G E k->hJ (eG (bE P w base) P w K mg base N qual (aT st) f cdv A outer s H E₀) G E (gU st) mb):
  FnOk P w K mg base (bE P w base) (k+1) f fd ps (cF G (aS ps.length N.length mb)):=by
 obtain⟨oc,od,kV,doc,pm,an,cdv,ct,osl,rfl,lk,hcd⟩:=Fn.ex;have hlen:∀vs H Q E,cF G (aS ps.length N.length mb) vs H Q E->vs.length=ps.length:=λvs H Q E ⟨μ,h,ds,r,sm,o⟩=>by
  rw[r.length];unfold aS at o
  by_cases hd:ds.length=ps.length
  ·exact hd
  ·rw[if_neg hd]at o;exact o.elim
 refine xJ lk hcd S hlen λA outer s H vs Q E hr hsp=>?_;have hl:=hlen _ _ _ _ hsp;obtain⟨μ,h,ds,r,sm,o⟩:=hsp;have o':Out G E μ h.length H (bG (mb (bI N.length ds) h)) (RelD G) Q:=by unfold aS at o;rw[if_pos (by rw[<-r.length];exact hl)]at o;exact o
 refine⟨_,hbody cdv A outer s H E (EB G μ h.length H (mb (bI N.length ds) h)) (yL hr hK (λu H' ⟨c,h',μ',er,x,s',fl⟩=>?_) yM) hK, ?_⟩
 ·rw[er]at o';exact o' μ' H' u x s' fl
 ·refine⟨μ,bI N.length ds,h,FA r N,sm, ?_⟩
  cases q:mb (bI N.length ds) h with
  |bad=>rw[q]at o';exact o'.elim
  |bk ρ h'=>rw[q]at o';exact o'.elim
  |ct ρ h'=>rw[q]at o';exact o'.elim
  |rt d h'=>rw[q]at o';exact o'
  |nx ρ h'=>rw[q]at o';exact λμ' H' σ' x' s' rs'=>o' μ' H' .non x' s' rfl
  |ex c h'=>exact λμ' H' u x' s' fl=>⟨c,h',μ',rfl,x',s',fl⟩
theorem FC {X:Cx}{F:List Dv->Hs->Rs Dv}{ps:List Str}{fd:bp}{x:Str}{p pos:Pos}{e:bj}{es:List bj}{ms:M (List Dv)}{j:Nat}(g:Good X G E k) (Fn:FnOk X.prog X.w X.K X.mg X.base (bE X.prog X.w X.base) j f fd ps (cF G F)) (hj:j<=k)
  (hg:Gl X x) (hm:X.mg x=some (.ref f)) (hk:jt X.K (.ref f)=true) (hb:Binds X.K fd ps []) (ha:cS X G E (e::es) ms)
  (hdb:(x==("__debug__" : Str))=false:=by decide) (he:aq (e::es) X.env=(false,eval e X.env)::aq es X.env:=by rfl) (hpl:(backTo pos (aq es X.env)).any (·.1)=false:=by rfl):
  aG X G E (.Call (.Name x p) (e::es) [] pos) (aD F ms):=λhK=>
 PE.imp (N4 Fn (g.room.mono hj) hg hm hk hb .nil g.pas (ha hK) hdb he hpl) λσ H Q ⟨μ,ρ,h,rs,s,o⟩=>iT rs s o λμ1 ds1 h1 vs H1 x1 rs1 s1 r1 o1=>by rw[kj];exact⟨μ1,h1,ds1,r1,s1,o1⟩
end
abbrev tW:List af:=[.type "ValueError",.type "Exception",.type "BaseException",.type "object"]
theorem Q5 {K:ao}{mg:Str->Option af}{base:ck}(p:bf) (m:Mod K mg base):∃loose mb,PySem.W.TopRead p loose mg mb base:=by
 obtain⟨mb,hb,hbb⟩:=m.blt;obtain⟨o,es,ep,ho,hd,hk,hf⟩:=id m.glob;refine⟨es.toList.filterMap λe=>match e.key with
  | .str n _=>some n
  |_=>none,mb,m.glob,hb,m.nolimit,hbb,λx _ hx _ _ _=>?_⟩
 rw[<-hf x]
 cases q:nsFind es x with
 |none=>rfl
 |some v=>
  exfalso
  apply hx
  unfold nsFind findBy at q;obtain⟨e,he,_⟩:=Option.map_eq_some_iff.mp q;have h1:=Array.find?_some he;have h2:=Array.mem_of_find?_eq_some he;obtain⟨n,t,hn⟩:=hk e h2;rw[hn]at h1;have h3:n=x:=by simpa[Value.isStr]using h1
  exact jc.mpr ⟨e,by simpa using h2,by rw[hn,h3]⟩
section
variable{X:Cx}{G:Cfg}{E:XK}{k:Nat}{x:Str}{C:ah}{np cpos pos:Pos}{e:bj}{es:List bj}{t:TA}{ms:M (List Dv)}{c:Nat}
theorem Q6 (g:Good X G E k) (hg:Gl X x) (hm:X.mg x=some (.ref C)) (hns:qv X.K cw x=some (some (.ref C))) (hx:qg X.K C tW "ValueError.__new__" = true) (ha:PA X (e::es) t) (hd:(x==("__debug__" : Str))=false:=by decide)
  (he:aq (e::es) X.env=(false,eval e X.env)::aq es X.env:=by rfl) (hpl:(backTo cpos (aq es X.env)).any (·.1)=false:=by rfl):
  PS X (.Raise (some (.Call (.Name x np) (e::es) [] cpos)) none pos) (λ_ σ H=>t σ H λvs H1=>vs.length<=bq/\∀e H',Same H1 H'->(∃T a0,H' e=some (.ext (cN (.ref C) e T a0)))->E (.ref e) none H'):=by
 intro pins s σ H D I h;obtain⟨bm,N,nm,q,bs,hdct,sn,sub,ab,col,dd,k0,k1,k2,k3,k5,mN,hC,hN,hni,T⟩:=(let ⟨_,_,tr⟩:=Q5 X.prog I.ok.mod;PySem.W.own_of_in I.ok.mod.kin tr hns hx).obj;refine wpAny_Raise_call_subU (C:=C) (nm:=nm) (q:=q) (N:=N) (bs:=bs) (bm:=bm) (hdct:=hdct) (sn:=sn) (sub:=sub) (ab:=ab) (col:=col) (dd:=dd) (k0:=k0) (k1:=k1) (k2:=k2) (k3:=k3) (k5:=k5)
  tu (by decide) tu (mN:=mN) (T.hasType (by decide)) (I.ok.hd g.calm) (by rw[he];show(false||(backTo cpos (aq es X.env)).any (·.1))=false;rw[hpl];rfl) hni (pK I hg hm ⟨rfl, ?_⟩ hd)
 have hh:=ha cpos pins s σ H _ I h;rw[he]at hh ⊢;refine qf (aR hh λus s2 ⟨vs,H2,I2,r,hz,w⟩=>⟨rfl,by rw[<-r.length];exact hz,I2.bk _ _ hC,hN.keeps I2.bk,T.keeps I2.bk,λh' e' mx=>?_⟩);exact g.rais pins σ H2 s2 h' e' _ _ I2 mx λH' sm z=>w e' H' sm z
theorem Q7 {H:Hp}{e:ah}(hc:C=G.cl c) (z:∃T a0,H e=some (.ext (cN (.ref C) e T a0))):tF G H c (.ref e):=by obtain⟨T,a0,z⟩:=z;exact⟨e,_,rfl,z,λh ⟨oe,vs,h1,h2,_⟩=>⟨oe,h1,by rw[h2,hc]⟩⟩
def jR (c:Nat) (ms:M (List Dv)):MS:=λρ h=>(ms ρ h).thenS λds h1=>if ds.length<=1000 then .ex c h1 else .bad
theorem yN (g:Good X G E k) (hg:Gl X x) (hm:X.mg x=some (.ref C)) (hns:qv X.K cw x=some (some (.ref C))) (hx:qg X.K C tW "ValueError.__new__" = true) (hc:C=G.cl c) (ha:cS X G E (e::es) ms) (hd:(x==("__debug__" : Str))=false:=by decide)
  (he:aq (e::es) X.env=(false,eval e X.env)::aq es X.env:=by rfl) (hpl:(backTo cpos (aq es X.env)).any (·.1)=false:=by rfl):
  gZ X G E (.Raise (some (.Call (.Name x np) (e::es) [] cpos)) none pos) (jR c ms):=λhK=>PS.imp (Q6 g hg hm hns hx (ha hK) hd he hpl) λD σ H ⟨μ,ρ,h,rs,s,o⟩=>
 ⟨μ,ρ,h,rs,s,(o.thenS (R:=RelDL G)).mono λvs H1 ⟨μ1,ds,h1,x1,s1,r1,o1⟩=>by
  split at o1
  ·rename_i hl;refine⟨by rw[r1.length];exact dm hl (by decide),λe' H' sm z=>?_⟩;exact o1 μ1 H' (.ref e') (Ext.same sm) (s1.same sm) (Q7 hc z)
  ·exact o1.elim⟩
end
open PySem.W
section
variable{prog:bf}{w:cg}{A:cf}{E:af->ag->Prop}{h:ck}{g:Array GenState}{d:Drawn}{t:Nat}{os:OsState}{a C:ah}{o:Obj}{K:Frag}
structure ExK (K:Frag) (C:ah):Prop where
 ga:findIn K (.ref C) "__getattribute__" = some (some (.builtin "BaseException.__getattribute__"))
 ng:findIn K (.ref C) "__getattr__" = some none
 cl:findIn K (.ref C) "__class__" = some (some (.builtin "object.__class__"))
 ob:mroIn K C (.type "object")=some true
 be:subIn K (.ref C) (.type "BaseException")=some true
 se:kitCls K (.ref C) (.ref C)=some true
 lk:∃oc od cd osl,K.lookup C=some ⟨oc,od,.cls cd,osl⟩
theorem kindGa:builtinKind "BaseException.__getattribute__" = some .slot/\splitId "BaseException.__getattribute__" = some ("BaseException","__getattribute__"):=by decide +kernel
theorem Q8:(ql "BaseException.__getattribute__" == ql "object.__getattribute__")=false:=by decide +kernel
section
variable{R:vk->ag->Prop}{s:ag}
theorem Q9 {M:xh}{n:af}{Q:Unit->ag->Prop}(X:K.In s.heap) (I:InstAt s.heap a o C none) (k:ExK K C) (hq:Q () s):wpAny M A (checkBuiltinCall "BaseException.__getattribute__" ⟨[.ref a,n],[]⟩) Q E s:=by
 have one:Looks M s.heap (isInstance (.ref a) (.type "BaseException")) true:=I.type.andThen (looks_subIn X k.be);have two:=F.args_bexc_ga (.ref a) n;obtain⟨hh,g,d,t,os⟩:=s;unfold checkBuiltinCall;rw[kindGa.1,kindGa.2];refine aa (one.at ?_)
 repeat (first|assumption|wp_step)
theorem RA {n:Tok}(X:K.In s.heap) (I:InstAt s.heap a o C none) (k:ExK K C) (hq:R (.ok (.ret (.ref C))) s):codeAny (model prog w) A (.call (.builtin "BaseException.__getattribute__") ⟨[.ref a,.str "__class__" n],[]⟩) R s:=by
 refine rf F.excAttr_ValueError.ga.plain F.entry_bexc_ga (Q9 X I k ?_);have own:=I.type (M:=model prog w);have entry:=looks_findIn (M:=model prog w) X k.cl;have of_get:=F.slot_gs_get.lookup;have of_set:=F.slot_gs_set.lookup;have kind:=F.typeOf_object_class;have kindIs:s.TypeIs (.builtin "object.__class__") "getset_descriptor" := kind;obtain⟨hh,g,d,t,os⟩:=s
 repeat (any_goals (first|assumption|with_reducible refine own.at ?_|with_reducible refine entry.at ?_|wp_step))
 exact class_get (s:=⟨hh,g,d,t,os⟩) X I k.ob (by repeat (any_goals (first|assumption|wp_step)))
end
theorem RC {Q:Option af->ag->Prop}(X:K.In h) (I:InstAt h a o C none) (k:ExK K C) (hq:Q (some (.ref C)) ⟨h,g,d,t+1,os⟩):
  wpAny (model prog w) A (getAttr? (.ref a) "__class__") Q E ⟨h,g,d,t,os⟩:=by
 have own:=I.type (M:=model prog w);have first_:=looks_findIn (M:=model prog w) X k.ga;have then_:=looks_findIn (M:=model prog w) X k.ng;have bound:=F.excAttr_ValueError.ga.bind (.ref a);have other:=Q8;have apart:(onTheHeap (gh C)&&ql "BaseException.__getattribute__" == ql "object.__getattribute__")=false:=by rw[other];rfl
 unfold getAttr? getAttrBy?
 repeat (any_goals (first|assumption|with_reducible refine own.at ?_|with_reducible refine first_.at ?_|with_reducible refine then_.at ?_|wp_step))
 exact RA X I k (by repeat (any_goals (first|assumption|wp_step)))
def RD (a C:ah) (h:ck):Prop:=∃o,InstAt h a o C none
theorem RE (k:ExK K C):KitX K (.ref a) (.ref C) (RD a C) where
 ty:=λ_ _ _ ⟨_,I⟩=>I.type
 it:=λ_ _ X _=>(kit_cls X k.se).2.1
 ne:=λh tp dd its n sl X htp=>by
  cases z:(gh C==gh tp)with
  |false=>rfl
  |true=>
   obtain rfl:C=tp:=by simpa using z
   obtain⟨oc,od,cd,osl,lk⟩:=k.lk;have:=X _ _ lk;rw[htp]at this;simp at this
 ca:=λ{prog w A E Q s} X ⟨o,I⟩ hq=>by obtain⟨hh,g,d,t,os⟩:=s;exact RC X I k hq
end
inductive Ty where
 |non|bl|int|str|tup|lst|dct|exc (c:Nat)
def gA:Dv->Hs->Option Ty
 | .non,_=>some .non
 | .bl _,_=>some .bl
 | .int _,_=>some .int
 | .str _,_=>some .str
 | .tup _,_=>some .tup
 | .ref i,h=>match getL h i with
  |some _=>some .lst
  |none=>none
 | .edc,_=>some .dct
 | .exc c,_=>some (.exc c)
 | .scr,_=>none
def jA (cl:Nat->ah):Ty->af
 | .non=>.type "NoneType"
 | .bl=>.type "bool"
 | .int=>.type "int"
 | .str=>.type "str"
 | .tup=>.type "tuple"
 | .lst=>.type "list"
 | .dct=>.type "dict"
 | .exc c=>.ref (cl c)
def aV (f:Ty->Option Bool) (d:Dv) (h:Hs):Rs Dv:=match gA d h with
 |some ty=>match f ty with
  |some b=>.ok (.bl b) h
  |none=>.bad
 |none=>.bad
section
variable{X:Cx}{G:Cfg}{E:XK}{pins:List (ah×Obj)}{σ:St}{H:Hp}{s:ag}
theorem FD {μ:Nat->ah}{h:Hs}{d:Dv}{v:V}{u:af}{ty:Ty}(I:Inv X pins σ H s) (sm:Sim G μ h H) (r:RelD G μ h.length H d v) (ru:RelV v u) (e:gA d h=some ty) (hex:∀c,ty=.exc c->ExK X.K (G.cl c)):
  ∃P,KitX X.K u (jA G.cl ty) P/\P s.heap/\u≠.builtin "__main__.__loader__#opaque":=by
 cases d with
 |non=>cases e;rw[RelD]at r;subst r;cases ru;exact⟨_,kitx_none,trivial,λz=>nomatch z⟩
 |bl b=>cases e;rw[RelD]at r;subst r;cases ru;exact⟨_,kitx_bool,trivial,λz=>nomatch z⟩
 |int i=>cases e;rw[RelD]at r;subst r;obtain⟨t,rfl⟩:=ru;exact⟨_,kitx_int,trivial,λz=>nomatch z⟩
 |str i=>cases e;rw[RelD]at r;subst r;obtain⟨t,rfl⟩:=ru;exact⟨_,kitx_str,trivial,λz=>nomatch z⟩
 |tup ds=>
  cases e;obtain⟨a,vs,rfl,ea,_⟩:=r;cases ru;obtain⟨_,_,_,o,h1,h2,_⟩:=(show ObjOk X.prog X.w H s.heap a (.tup vs) from I.hok a _ ea)
  exact⟨_,kitx_tuple,⟨o,h1,h2⟩,λz=>nomatch z⟩
 |ref i=>
  dsimp only[gA]at e
  cases g:getL h i with
  |none=>rw[g]at e;cases e
  |some xs=>
   rw[g]at e;cases e;obtain⟨_,rfl⟩:=r;cases ru;obtain⟨vs,ea,_⟩:=sm.ob i _ (cT g);obtain⟨_,_,n,_,h1⟩:=(show ObjOk X.prog X.w H s.heap (μ i) (.lst vs) from I.hok _ _ ea)
   exact⟨_,kitx_list,⟨_,h1,rfl⟩,λz=>nomatch z⟩
 |edc=>
  cases e;obtain⟨a,rfl,ea⟩:=r;cases ru;obtain⟨_,_,vs,_,p⟩:=(show ObjOk X.prog X.w H s.heap a (.dK []) from I.hok a _ ea)
  obtain⟨o,es,ep,h1,h2,_⟩:=p;exact⟨_,kitx_dict,⟨o,h1,h2.1⟩,λz=>nomatch z⟩
 |exc c=>
  cases e;obtain⟨a,o,uo,rfl,ea,hc,hdn,vs,hd⟩:=r;cases ru;obtain⟨h1,_⟩:=(show ObjOk X.prog X.w H s.heap a (.frz o uo) from I.hok a _ ea)
  refine⟨_,RE (hex c rfl),⟨o,h1,hc, ?_, ?_⟩,λz=>nomatch z⟩
  ·unfold notCls;rw[hd]
  ·rw[hdn];trivial
 |scr=>cases e
end
section
variable{X:Cx}{G:Cfg}{E:XK}{a b:bj}{ma:M Dv}{p pos:Pos}{f:Ty->Option Bool}
theorem FE:cx "isinstance" = some (.builtin "isinstance"):=by decide +kernel
def FF (G:Cfg) (f:Ty->Option Bool) (c:V):List V->Hp->VK->Prop:=λxs H Q=>∃μ h d v ty bb,xs=[v,c]/\Sim G μ h H/\RelD G μ h.length H d v/\gA d h=some ty/\f ty=some bb/\Q (.bl bb) H
theorem RF {c:V}{u:af}(hc:(∃T,c=.ty T)∨∃C,c=.ref C) (rc:RelV c u) (hf:∀ty bb,f ty=some bb->kitOne X.K (jA G.cl ty) u=some bb) (hex:∀c bb,f (.exc c)=some bb->ExK X.K (G.cl c)):CallR X (.builtin "isinstance") (FF G f c):=by
 intro pins s σ H xs us Q I rv ⟨μ,h,d,v,ty,bb,e1,sm,r,et,ef,q⟩;subst e1;obtain⟨u1,u2,rfl,r1,r2⟩:=pN rv;have e2:u2=u:=by rcases hc with⟨T,rfl⟩|⟨C,rfl⟩ <;> (cases rc;cases r2;rfl)
 subst e2;obtain⟨P,Z,hP,hne⟩:=FD I sm r r1 et (λc z=>by subst z;exact hex c bb ef);exact kia_one Z I.kIn hP (hf ty bb ef) hne λtk=>⟨.bl bb,H,I.tok _,rfl,q⟩
theorem lS {x:Str}{T:String}(hg:Gl X x) (hm:X.mg x=none) (hv:cx x=some (.type T)) (hn:x ≠ "__name__" := by decide) (hd:(x==("__debug__" : Str))=false:=by decide):PE X (.Name x pos) (tC (.ty T)):=λpins s σ H Q I h=>mO I hg hm hv ⟨.ty T,H,I,rfl,h⟩ hn hd
theorem mZ {c:V}{u:af}(hg:Gl X "isinstance") (hm:X.mg "isinstance" = none) (ha:aG X G E a ma) (hb:PE X b (tC c)) (hc:(∃T,c=.ty T)∨∃C,c=.ref C) (rc:RelV c u)
  (hf:∀ty bb,f ty=some bb->kitOne G.K (jA G.cl ty) u=some bb) (hex:∀c bb,f (.exc c)=some bb->ExK G.K (G.cl c))
  (he:aq [a,b] X.env=[(false,eval a X.env),(false,eval b X.env)]:=by rfl) (he2:aq [b] X.env=[(false,eval b X.env)]:=by rfl):
  aG X G E (.Call (.Name "isinstance" p) [a,b] [] pos) (m1 (aV f) ma):=λhK=>
 PE.imp (pO (RF (G:=G) (f:=f) hc rc (by rw[hK];exact hf) (by rw[hK];exact hex)) hg hm FE (fK (ha hK) (fK hb gJ he2) (by rw[he,he2])) (by decide) (by decide) (by rw[he,he2]) (by rw[he2];rfl))
  λσ H Q ⟨μ,ρ,h,rs,s,o⟩=>cR rs s o λμ1 d h1 v H1 x1 rs1 s1 r1 o1=>by
   show FF G f c [v,c] H1 Q;unfold aV at o1
   cases q:gA d h1 with
   |none=>rw[q]at o1;exact o1.elim
   |some ty=>
    rw[q]at o1;dsimp only at o1
    cases q2:f ty with
    |none=>rw[q2]at o1;exact o1.elim
    |some bb=>rw[q2]at o1;exact⟨μ1,h1,d,v,ty,bb,rfl,s1,r1,q,q2,o1.val s1 rfl⟩
def FG (G:Cfg) (f:Ty->Option Bool) (cs:List V):List V->Hp->VK->Prop:=λxs H Q=>∃μ h d v ty bb tp,xs=[v,.ref tp]/\H tp=some (.tup cs)/\Sim G μ h H/\RelD G μ h.length H d v/\gA d h=some ty/\f ty=some bb/\Q (.bl bb) H
theorem RG {cs:List V}{us:List af}(hcs:∀us',Vals cs us'->us'=us) (hf:∀ty bb,f ty=some bb->kitAny X.K (jA G.cl ty) us=some bb) (hex:∀c bb,f (.exc c)=some bb->ExK X.K (G.cl c)):CallR X (.builtin "isinstance") (FG G f cs):=by
 intro pins s σ H xs uu Q I rv ⟨μ,h,d,v,ty,bb,tp,e1,etp,sm,r,et,ef,q⟩;subst e1;obtain⟨u1,u2,rfl,r1,r2⟩:=pN rv;cases r2;obtain⟨_,its,rits,o,h1,h2,_,n,h3⟩:=(show ObjOk X.prog X.w H s.heap tp (.tup cs) from I.hok tp _ etp)
 have eits:=hcs its rits;subst eits;obtain⟨oc,od,odata,osl⟩:=o
 cases h2;cases h3
 obtain⟨P,Z,hP,hne⟩:=FD I sm r r1 et (λc z=>by subst z;exact hex c bb ef);exact kia_tup Z I.kIn hP h1 (hf ty bb ef) hne λtk=>⟨.bl bb,H,I.tok _,rfl,q⟩
theorem RH {cs:List V}{us:List af}{bs:List bj}{kt:Nat}{tpos:Pos}(hg:Gl X "isinstance") (hm:X.mg "isinstance" = none) (ha:aG X G E a ma) (hb:PA X bs (λ_ H Q=>Q cs H)) (hl:cs.length<=bq) (hcs:∀us',Vals cs us'->us'=us)
  (hf:∀ty bb,f ty=some bb->kitAny G.K (jA G.cl ty) us=some bb) (hex:∀c bb,f (.exc c)=some bb->ExK G.K (G.cl c))
  (he:aq [a,.Tuple bs kt tpos] X.env=[(false,eval a X.env),(false,eval (.Tuple bs kt tpos) X.env)]:=by rfl) (he2:aq [.Tuple bs kt tpos] X.env=[(false,eval (.Tuple bs kt tpos) X.env)]:=by rfl):
  aG X G E (.Call (.Name "isinstance" p) [a,.Tuple bs kt tpos] [] pos) (m1 (aV f) ma):=λhK=>
 PE.imp (pO (RG (G:=G) (f:=f) hcs (by rw[hK];exact hf) (by rw[hK];exact hex)) hg hm FE (fK (ha hK) (fK (CW hb) gJ he2) (by rw[he,he2])) (by decide) (by decide) (by rw[he,he2]) (by rw[he2];rfl))
  λσ H Q ⟨μ,ρ,h,rs,s,o⟩=>cR rs s o λμ1 d h1 v H1 x1 rs1 s1 r1 o1=>by
   refine⟨hl,λtp htp=>?_⟩;show FG G f cs [v,.ref tp] (aM H1 tp (.tup cs)) Q;unfold aV at o1
   cases q:gA d h1 with
   |none=>rw[q]at o1;exact o1.elim
   |some ty=>
    rw[q]at o1;dsimp only at o1
    cases q2:f ty with
    |none=>rw[q2]at o1;exact o1.elim
    |some bb=>rw[q2]at o1;have x2:Ext μ1 h1.length H1 μ1 h1.length (aM H1 tp (.tup cs)):=Ext.same (bU htp);exact⟨μ1,h1,d,v,ty,bb,tp,rfl,bX,s1.same (bU htp),RelD.mono x2 _ _ r1,q,q2,o1 μ1 _ _ x2 (s1.same (bU htp)) rfl⟩
end
def lT:Dv->Option Bool
 | .bl b=>some b
 |_=>none
theorem yO {G:Cfg}{μ:Nat->ah}{n:Nat}{H:Hp}:∀{xs:List Dv}{vs:List V}{bs:List Bool},RelDL G μ n H xs vs->bB lT xs=some bs->vs=bs.map V.bl
 | [],vs,bs,r,e=>by cases e;rw[RelDL]at r;exact r
 |x::xs,vs,bs,r,e=>by
  rw[RelDL]at r;obtain⟨v,rr,rfl,r1,r2⟩:=r;unfold bB at e
  cases x with
  |bl b=>
   dsimp only[lT]at e
   cases q:bB lT xs with
   |none=>rw[q]at e;cases e
   |some zs=>rw[q]at e;cases e;rw[RelD]at r1;subst r1;rw[yO r2 q];rfl
  |_=>cases e
section
variable{X:Cx}{pins:List (ah×Obj)}{σ:St}{H:Hp}{s:ag}
theorem RI (bs:List Bool):(bo bs.length).all (λi=>bs.getD i false)=bs.all id:=by
 rw[gz,fw,fw];constructor
 ·intro h b hb;obtain⟨i,hi,rfl⟩:=qh.mp hb;simpa[m8,hi]using h i (bx.mpr hi)
 ·intro h i hi;have hi:=bx.mp hi;simpa[m8,hi]using h _ (fy hi)
theorem RJ (bs:List Bool):(bo bs.length).any (λi=>bs.getD i false)=bs.any id:=by
 rw[gz,sv,sv];constructor
 ·rintro ⟨i,hi,h⟩
  have hi:=bx.mp hi;exact⟨bs[i],fy hi,by simpa[m8,hi]using h⟩
 ·rintro ⟨b,hb,h⟩
  obtain⟨i,hi,rfl⟩:=qh.mp hb;exact⟨i,bx.mpr hi,by simpa[m8,hi]using h⟩
theorem RK {bs:List Bool}{its:List af}(rv:Vals (bs.map V.bl) its) {i:Nat}{v:af}(e:its.toArray[i]?=some v):v=.bool (bs.getD i false):=by
 have hl:=rv.length;rw[bh]at hl;have e':its[i]?=some v:=by simpa using e
 have hi:i<its.length:=(ax.mp e').1;have hb:i<bs.length:=by omega
 obtain⟨u,e2,r⟩:=rv.get (i:=i) (x:=V.bl bs[i]) (by simp[hb]);rw[e']at e2;cases e2;have hg:bs.getD i false=bs[i]:=by simp[m8,hb]
 rw[hg];exact r
theorem FH {bs:List Bool}{its:List af}{A:cf}(rv:Vals (bs.map V.bl) its):TruthOf X.prog X.w A (λi v=>its.toArray[i]?=some v) (λi=>bs.getD i false):=by intro i v s Q E e q;rw[RK rv e];exact kd q
theorem FI {o:Obj}{h':ck}{tk:Nat}(I:Inv X pins σ H s) (k:∀b u,b∉[s.heap.objs.size]->(s.heap.push o).get? b=some u->h'.get? b=some u):Inv X pins σ H { s with heap:=h',toks:=tk }:=by have I1:Inv X pins σ H { s with heap:=s.heap.push o }:=I.kept (t':=s.toks) λb u e=>aj _ e;obtain⟨f0,f1,f2,f3,f4,f5⟩:=I.fpOk (ak s.heap.objs.size) I.fresh;exact I1.turned (t':=tk) (λb u hb e=>k b u (by simpa using hb) e) f0 f1 f3 f4 f5
theorem RM (hc:X.calm=true):CallR X (.builtin "all") (λxs H Q=>∃(p:ah) (bs:List Bool),xs=[.ref p]/\H p=some (.lst (bs.map V.bl))/\Q (.bl (bs.all id)) H):=by
 intro pins s σ H xs us Q I rv ⟨p,bs,e,hp,q⟩;subst e;obtain⟨u,rfl,ru⟩:=gI rv;cases ru;obtain⟨its,rits,pl,hz⟩:=I.list (SqL.of hp);have hn:its.toArray.size=bs.length:=by have:=rits.length;simp at this ⊢;omega
 have ne:p≠s.heap.objs.size:=bc (I.hok.lt hp);refine call_all_walk (pj pl.isList ⟨_,_,_,_,_,_,λi=>bs.getD i false,rfl,zg (A:=X.A.in1) (show X.A.in1.handled=none from I.ok.hd hc) _ p ne its.toArray,⟨⟨_,ay _ rfl,rfl,rfl⟩,pl.isList.push _⟩,FH rits,λh' tk k=>?_⟩);rw[hn,RI];exact⟨.bl _,H,(FI (tk:=tk) I k:Inv X pins σ H { s with heap:=h',toks:=tk }),rfl,q⟩
theorem RN (hc:X.calm=true):CallR X (.builtin "any") (λxs H Q=>∃(p:ah) (bs:List Bool),xs=[.ref p]/\H p=some (.lst (bs.map V.bl))/\Q (.bl (bs.any id)) H):=by
 intro pins s σ H xs us Q I rv ⟨p,bs,e,hp,q⟩;subst e;obtain⟨u,rfl,ru⟩:=gI rv;cases ru;obtain⟨its,rits,pl,hz⟩:=I.list (SqL.of hp);have hn:its.toArray.size=bs.length:=by have:=rits.length;simp at this ⊢;omega
 have ne:p≠s.heap.objs.size:=bc (I.hok.lt hp);refine call_any_walk (pj pl.isList ⟨_,_,_,_,_,_,λi=>bs.getD i false,rfl,zg (A:=X.A.in1) (show X.A.in1.handled=none from I.ok.hd hc) _ p ne its.toArray,⟨⟨_,ay _ rfl,rfl,rfl⟩,pl.isList.push _⟩,FH rits,λh' tk k=>?_⟩);rw[hn,RJ];exact⟨.bl _,H,(FI (tk:=tk) I k:Inv X pins σ H { s with heap:=h',toks:=tk }),rfl,q⟩
end
section
variable{X:Cx}{G:Cfg}{E:XK}{e:bj}{ml:M (List Dv)}{x:Str}{p pos:Pos}{bid T:String}
def mL (f:List Dv->Hs->Rs Dv) (ml:M (List Dv)):M Dv:=λρ h=>(ml ρ h).bind f
def yP (G:Cfg) (r:List V->Hp->VK->Prop) (f:List Dv->Hs->Rs Dv):Prop:=∀(E:XK) (μ:Nat->ah) (h:Hs) (H:Hp) (xs:List Dv) (a:ah) (vs:List V) (Q:VK),Sim G μ h H->H a=some (.lst vs)->RelDL G μ h.length H xs vs->Out G E μ h.length H (f xs h) (RelD G) Q->r [.ref a] H Q
theorem FJ {r:List V->Hp->VK->Prop}{f:List Dv->Hs->Rs Dv}(hd:yP G r f) {σ:St}{H:Hp}{Q:VK}(t:eQ G E (mL f ml) σ H Q):sT r (CV (tS G E ml) CU) σ H Q:=by obtain⟨μ,ρ,h,rs,s,o⟩:=t;refine⟨μ,ρ,h,rs,s,(o.bind (R1:=RL G)).mono λv H1 ⟨μ1,xs,h1,x1,s1,⟨a,vs,ev,ea,_,r1⟩,o1⟩=>?_⟩;subst ev;exact hd E μ1 h1 H1 xs a vs Q s1 ea r1 o1
theorem FK {r:List V->Hp->VK->Prop}{f:List Dv->Hs->Rs Dv}(hc:CallR X (.builtin bid) r) (hd:yP G r f) (hg:Gl X x) (hm:X.mg x=none) (hv:cx x=some (.builtin bid)) (ha:kZ X G E e ml) (hn:x ≠ "__name__" := by decide) (hdb:(x==("__debug__" : Str))=false:=by decide)
  (he:aq [e] X.env=[(false,eval e X.env)]:=by rfl):aG X G E (.Call (.Name x p) [e] [] pos) (mL f ml):=λhK=>
 PE.imp (pO hc hg hm hv (fK (ha hK) gJ he) hn hdb he rfl) λ_ _ _ t=>FJ hd t
theorem RO {r:List V->Hp->VK->Prop}{f:List Dv->Hs->Rs Dv}(hc:CallR X (.type T) r) (hd:yP G r f) (hg:Gl X x) (hm:X.mg x=none) (hv:cx x=some (.type T)) (ha:kZ X G E e ml) (hn:x ≠ "__name__" := by decide) (hdb:(x==("__debug__" : Str))=false:=by decide)
  (he:aq [e] X.env=[(false,eval e X.env)]:=by rfl):aG X G E (.Call (.Name x p) [e] [] pos) (mL f ml):=λhK=>
 PE.imp (pP hc hg hm hv (fK (ha hK) gJ he) hn hdb he rfl) λ_ _ _ t=>FJ hd t
theorem RP:cx "all" = some (.builtin "all"):=by decide +kernel
theorem RQ:cx "any" = some (.builtin "any"):=by decide +kernel
def jB (xs:List Dv) (h:Hs):Rs Dv:=match bB lT xs with
 |some bs=>.ok (.bl (bs.all id)) h
 |none=>.bad
def qJ (xs:List Dv) (h:Hs):Rs Dv:=match bB lT xs with
 |some bs=>.ok (.bl (bs.any id)) h
 |none=>.bad
theorem qK (hc:X.calm=true) (hg:Gl X "all") (hm:X.mg "all" = none) (ha:kZ X G E e ml) (he:aq [e] X.env=[(false,eval e X.env)]:=by rfl):aG X G E (.Call (.Name "all" p) [e] [] pos) (mL jB ml):=
 FK (RM hc) (λE μ h H xs a vs Q s ea r o=>by
  unfold jB at o
  cases q:bB lT xs with
  |none=>rw[q]at o;exact o.elim
  |some bs=>rw[q]at o;exact⟨a,bs,rfl,by rw[ea,yO r q],o.val s rfl⟩) hg hm RP ha (by decide) (by decide) he
theorem RR (hc:X.calm=true) (hg:Gl X "any") (hm:X.mg "any" = none) (ha:kZ X G E e ml) (he:aq [e] X.env=[(false,eval e X.env)]:=by rfl):aG X G E (.Call (.Name "any" p) [e] [] pos) (mL qJ ml):=
 FK (RN hc) (λE μ h H xs a vs Q s ea r o=>by
  unfold qJ at o
  cases q:bB lT xs with
  |none=>rw[q]at o;exact o.elim
  |some bs=>rw[q]at o;exact⟨a,bs,rfl,by rw[ea,yO r q],o.val s rfl⟩) hg hm RQ ha (by decide) (by decide) he
def tX (xs:List Dv) (h:Hs):Rs Dv:=.ok (.tup xs) h
theorem RS (hg:Gl X "tuple") (hm:X.mg "tuple" = none) (ha:kZ X G E e ml) (he:aq [e] X.env=[(false,eval e X.env)]:=by rfl):aG X G E (.Call (.Name "tuple" p) [e] [] pos) (mL tX ml):=RO DR (λE μ h H xs a vs Q s ea r o=>⟨a,vs,rfl,.inl ⟨SqL.of ea,λl hl=>o μ _ _ (Ext.same (bU hl)) (s.same (bU hl)) ⟨l,vs,rfl,bX,RelDL.mono (Ext.same (bU hl)) _ _ r⟩⟩⟩) hg hm tM ha (by decide) (by decide) he
end
section
variable{X:Cx}{G:Cfg}{E:XK}{o e i:bj}{mo me mi:M Dv}{ml:M (List Dv)}{pos apos cpos:Pos}
theorem RT {H:Hp}{a:ah}{vs:List V}(e:H a=some (.lst vs)):sW X.K "list" (.ref a) H:=.inl ⟨rfl,vs,SqL.of e⟩
def oK (o d:Dv) (h:Hs):Rs Dv:=match o with
 | .ref j=>match getL h j with
  |some xs=>if xs.length<1000000 then .ok .non (h.set j (.lst (xs++[d])))else .bad
  |none=>.bad
 |_=>.bad
def iK (o:Dv) (h:Hs):Bool:=match o with
 | .ref j=>(getL h j).isSome
 |_=>false
def nA (mo me:M Dv):M Dv:=λρ h=>(mo ρ h).bind λx h1=>if iK x h1=true then(me ρ h1).bind λd h2=>oK x d h2 else .bad
theorem yQ {μ:Nat->ah}{h:Hs}{H:Hp}{x:Dv}{v:V}(s:Sim G μ h H) (r:RelD G μ h.length H x v) (e:iK x h=true):sW X.K "list" v H:=by
 cases x with
 |ref j=>obtain⟨xs,q⟩:=ui.mp (show(getL h j).isSome=true from e);obtain⟨vs,ea,_⟩:=s.ob j _ (cT q);obtain⟨_,rfl⟩:=r;exact RT ea
 |_=>cases e
theorem FL {y:Str}{np:Pos}(ho:aG X G E (.Name y np) mo) (he:aG X G E e me) (hs:aq [e] X.env=[(false,eval e X.env)]:=by rfl) (hl:(apos.endLine==cpos.line)=true:=by rfl):aG X G E (.Call (.Attribute (.Name y np) "append" apos) [e] [] cpos) (nA mo me):=λhK=>
 PE.imp (xQ oq PySem.F.slot_list_append PySem.F.type_list_append O3 (ho hK) (fK (he hK) gJ hs) rfl (by rw[hs];rfl) hl hs rfl) λσ H Q ⟨μ,ρ,h,rs,s,oo⟩=>cR rs s oo λμ1 x h1 vx H1 x1 rs1 s1 r1 o1=>by
  split at o1
  ·rename_i hl;refine⟨yQ s1 r1 hl,cR rs1 s1 o1 λμ2 d h2 vd H2 x2 rs2 s2 r2 o2=>?_⟩
   cases x with
   |ref j=>
    dsimp only[oK]at o2
    cases q:getL h2 j with
    |none=>rw[q]at o2;exact o2.elim
    |some xs=>
     rw[q]at o2;dsimp only at o2
     split at o2
     ·rename_i hz;obtain⟨vs,ea,ra⟩:=s2.ob j _ (cT q);obtain⟨_,rfl⟩:=RelD.mono x2 _ _ r1;obtain⟨x3,s3⟩:=s2.write (cT q) (ra.append (RelDL.cons r2 RelDL.nil));exact⟨_,vs,vd,rfl,rfl,ea,by rw[ra.length];exact av hz (by decide),o2 μ2 _ _ x3 s3 rfl⟩
     ·exact o2.elim
   |_=>exact o2.elim
  ·exact o1.elim
end
section
variable{X:Cx}{G:Cfg}{E:XK}{e i:bj}{mo me mi:M Dv}{ml:M (List Dv)}{pos apos cpos np:Pos}{y:Str}
def tY (o:Dv) (ys:List Dv) (h:Hs):Rs Dv:=match o with
 | .ref j=>match getL h j with
  |some xs=>lim (xs.length+ys.length) (.ok .non (h.set j (.lst (xs++ys))))
  |none=>.bad
 |_=>.bad
def nB (mo:M Dv) (ml:M (List Dv)):M Dv:=λρ h=>(mo ρ h).bind λx h1=>if iK x h1=true then(ml ρ h1).bind λys h2=>tY x ys h2 else .bad
theorem RU (ho:aG X G E (.Name y np) mo) (he:kZ X G E e ml) (hs:aq [e] X.env=[(false,eval e X.env)]:=by rfl) (hl:(apos.endLine==cpos.line)=true:=by rfl):aG X G E (.Call (.Attribute (.Name y np) "extend" apos) [e] [] cpos) (nB mo ml):=λhK=>
 PE.imp (xQ oq PySem.F.slot_list_extend PySem.F.type_list_extend O5 (ho hK) (fK (he hK) gJ hs) rfl (by rw[hs];rfl) hl hs rfl) λσ H Q ⟨μ,ρ,h,rs,s,oo⟩=>cR rs s oo λμ1 x h1 vx H1 x1 rs1 s1 r1 o1=>by
  split at o1
  ·rename_i hl;refine⟨yQ s1 r1 hl,μ1,ρ,h1,rs1,s1,(o1.bind (R1:=RL G)).mono λv H2 ⟨μ2,ys,h2,x2,s2,⟨b,ws,ev,eb,nb,rb⟩,o2⟩=>?_⟩;subst ev
   cases x with
   |ref j=>
    dsimp only[tY]at o2
    cases q:getL h2 j with
    |none=>rw[q]at o2;exact o2.elim
    |some xs=>
     rw[q]at o2;dsimp only at o2;unfold lim at o2
     split at o2
     ·rename_i hz;obtain⟨vs,ea,ra⟩:=s2.ob j _ (cT q);obtain⟨_,rfl⟩:=RelD.mono x2 _ _ r1;obtain⟨x3,s3⟩:=s2.write (cT q) (ra.append rb);exact⟨_,b,vs,ws,rfl,rfl,ea,eb,by rw[ra.length,rb.length];exact jL hz,o2 μ2 _ _ x3 s3 rfl⟩
     ·exact o2.elim
   |_=>exact o2.elim
  ·exact o1.elim
def tZ (o i d:Dv) (h:Hs):Option Hs:=match o,i with
 | .ref j,.int k=>match getL h j with
  |some xs=>match dN xs.length k with
   |some n=>some (h.set j (.lst (xs.set n d)))
   |none=>none
  |none=>none
 |_,_=>none
def qL (mo mi me:M Dv):MS:=λρ h=>(me ρ h).thenS λd h1=>(mo ρ h1).thenS λo h2=>(mi ρ h2).thenS λi h3=>match tZ o i d h3 with
 |some h4=>.nx ρ h4
 |none=>.bad
theorem FN {o:bj}{spos:Pos}(ho:aG X G E o mo) (hi:aG X G E i mi) (he:aG X G E e me)
  (ha:∀v,assign (.Subscript o i spos) X.env v=(do
   let ov <-holding [v] (eval o X.env)
   let iv <-holding [v,ov] (eval i X.env)
   standAt spos
   holding [v,ov,iv] (setItem ov iv v)
   release [v,ov,iv] []):=by intro _;rfl)
  (hs:swapsWithSole [.Subscript o i spos] e pos.line X.env=pure false:=by rfl) (hw:swappedStores [.Subscript o i spos] e X.env=pure none:=by rfl)
  (h1:(assignEach [.Subscript o i spos] X.env).map (·.2)=[assign (.Subscript o i spos) X.env]:=by rfl):gZ X G E (.Assign [.Subscript o i spos] e pos) (qL mo mi me):=λhK=>
 PS.imp (CJ (he hK) (MN (ho hK) (hi hK) OR ha) hs hw h1) λD σ H ⟨μ,ρ,h,rs,s,oo⟩=>mW rs s oo λμ1 d h1 v H1 x1 rs1 s1 r1 o1=>mW rs1 s1 o1 λμ2 ob h2 vo H2 x2 rs2 s2 r2 o2=>mW rs2 s2 o2 λμ3 ix h3 vi H3 x3 rs3 s3 r3 o3=>by
  cases ob with
  |ref j=>
   cases ix with
   |int k=>
    dsimp only[tZ]at o3
    cases q:getL h3 j with
    |none=>rw[q]at o3;exact o3.elim
    |some xs=>
     rw[q]at o3;dsimp only at o3
     cases q2:dN xs.length k with
     |none=>rw[q2]at o3;exact o3.elim
     |some n=>rw[q2]at o3;obtain⟨vs,ea,ra⟩:=s3.ob j _ (cT q);obtain⟨_,rfl⟩:=RelD.mono x3 _ _ r2;rw[RelD]at r3;subst r3;obtain⟨x4,s4⟩:=s3.write (cT q) (RelDL.set (RelD.mono (x2.trans x3) _ _ r1) n ra);exact⟨_,vs,k,n,rfl,rfl,ea,by rw[ra.length];exact q2,o3 μ3 _ σ x4 s4 (rs3.mono x4)⟩
   |_=>exact o3.elim
  |_=>cases ix <;> exact o3.elim
end
section
variable{prog:bf}{w:cg}{A:cf}{E:af->ag->Prop}{s:ag}
theorem RV {it t:ah}{i:Nat}{items:Array af}{x:af}{Q:af->ag->Prop}(hit:s.heap.IsTupleIter it t i) (ht:s.heap.IsTuple t items) (hx:items[i]?=some x)
  (k:∀h',h'.IsTupleIter it t (i+1)->gv it s.heap h'->Q x { s with heap:=h' }):wpAny (model prog w) A (dv (.ref it)) Q E s:=by
 obtain⟨o,ho,hc,hd⟩:=id hit;obtain⟨ol,hol,hcl,nl,hdl⟩:=id ht;refine aa (fv (name:=ie "__next__") hit.typeIs F.slot_tuple_iterator_next (gg F.slot_tuple_iterator_next hit.typeIs F.entry_tuple_iterator_next ?_ (F.args_tuple_iterator_next_1 _)));have q0:∀{Q':af->ag->Prop}{E':af->ag->Prop}{B:cf},Q' (.ref t) s->wpAny (model prog w) B (field (.ref it) 0) Q' E' s:=λq=>ff ho hd (x:=.ref t) rfl q;have q1:∀{Q':af->ag->Prop}{E':af->ag->Prop}{B:cf},Q' (.int i 0) s->wpAny (model prog w) B (field (.ref it) 1) Q' E' s:=λq=>ff ho hd (x:=.int i 0) rfl q;refine aa (ai (aa (q0 ?_)));dsimp only;rw[if_neg (by simp)];refine aa (q1 (aa (iu hol hdl ?_)));rw[show((i:Int)).toNat=i from fh i];dsimp only;rw[hx];refine aa (yq ho hd (by simp) (ai ⟨x,rfl,ai (k _ ⟨_,lx _ ho (yz (r9 hd _)), ?_, ?_⟩ (lj ..))⟩))
 ·rw[Obj.cls_mapFields];exact hc
 ·rw[r9 hd];simp[rawInt]
end
section
variable{prog:bf}{w:cg}{A:cf}{E:af->ag->Prop}{s:ag}
theorem RW {α:Type}{Q:α->ag->Prop}(hh:A.handled=none) (k:∀h' e,(∀b o,s.heap.get? b=some o->h'.get? b=some o)->(∃o,h'.get? e=some o/\o.cls=.type "StopIteration")->E (.ref e) { s with heap:=h' }):
  wpAny (model prog w) A (oz:Sem α) Q E s:=by
 have e0:firstArgMember (.type "StopIteration") []=pure jb:=by show(pure (if _ then jb else jb):Sem af)=_;rw[ite_self]
 unfold oz newExc newTuple;refine aa (aa (fj (aa (xk e0 (fj (wpAny_raiseNew_none hh (k _ _ (λb o q=>aj _ (aj _ q)) ⟨_,ay _ rfl,rfl⟩)) (by size_fits)))) (by size_fits)))
theorem RX {it t:ah}{i:Nat}{items:Array af}{Q:af->ag->Prop}(hh:A.handled=none) (hit:s.heap.IsTupleIter it t i) (ht:s.heap.IsTuple t items) (hx:items[i]?=none)
  (k:∀h' e,z9 it s.heap h'->(∃o,h'.get? e=some o/\o.cls=.type "StopIteration")->E (.ref e) { s with heap:=h' }):wpAny (model prog w) A (dv (.ref it)) Q E s:=by
 obtain⟨o,ho,hc,hd⟩:=id hit;obtain⟨ol,hol,hcl,nl,hdl⟩:=id ht;refine aa (fv (name:=ie "__next__") hit.typeIs F.slot_tuple_iterator_next (gg F.slot_tuple_iterator_next hit.typeIs F.entry_tuple_iterator_next ?_ (F.args_tuple_iterator_next_1 _)));have q0:∀{Q':af->ag->Prop}{E':af->ag->Prop}{B:cf},Q' (.ref t) s->wpAny (model prog w) B (field (.ref it) 0) Q' E' s:=λq=>ff ho hd (x:=.ref t) rfl q;have q1:∀{Q':af->ag->Prop}{E':af->ag->Prop}{B:cf},Q' (.int i 0) s->wpAny (model prog w) B (field (.ref it) 1) Q' E' s:=λq=>ff ho hd (x:=.int i 0) rfl q;refine aa (ai (aa (q0 ?_)));dsimp only;rw[if_neg (by simp)];refine aa (q1 (aa (iu hol hdl ?_)));rw[show((i:Int)).toNat=i from fh i];dsimp only;rw[hx];refine aa (qj (aa (yq ho hd (by simp) (RW (show A.in1.handled=none from hh) λh' e kp st=>k h' e (λb u hb q=>kp b u ?_) st))));rw[lb _ _ (cz hb)];exact q
end
structure Draws (prog:bf) (w:cg) (it src:ah) (xs:List af) (st:Nat->ck->Prop):Prop where
 keep:∀i h h',st i h->(∀b o,b=it∨b=src->h.get? b=some o->h'.get? b=some o)->st i h'
 there:∀i h,st i h->∃o vs,h.get? it=some o/\o.data=.fields vs
 item:∀(A:cf) (i:Nat) (x:af) (s:ag) (Q:af->ag->Prop) (E:af->ag->Prop),xs[i]?=some x->st i s.heap->
  (∀h',st (i+1) h'->gv it s.heap h'->Q x { s with heap:=h' })->wpAny (model prog w) A (dv (.ref it)) Q E s
 done:∀(A:cf) (i:Nat) (s:ag) (Q:af->ag->Prop) (E:af->ag->Prop),A.handled=none->xs[i]?=none->st i s.heap->
  (∀h' e,z9 it s.heap h'->(∃o,h'.get? e=some o/\o.cls=.type "StopIteration")->E (.ref e) { s with heap:=h' })->wpAny (model prog w) A (dv (.ref it)) Q E s
structure Four (z TI TO i j u v:ah):Prop where
 a:z≠TO
 b:z≠i
 c:z≠j
 d:TO≠i
 e:TO≠j
 f:i≠j
 g:TI≠z
 h:TI≠TO
 k:TI≠i
 l:TI≠j
 u1:u≠z
 u2:u≠TO
 u3:u≠i
 u4:u≠j
 v1:v≠z
 v2:v≠TO
 v3:v≠i
 v4:v≠j
theorem gB {b x y c:ah}(h:b=x∨b=y) (p:x≠c) (q:y≠c):b≠c:=by
 rcases h with h|h
 ·rw[h];exact p
 ·rw[h];exact q
def uA (z TO i j:ah) (h h':ck):Prop:=∀b o,b≠z->b≠TO->b≠i->b≠j->h.get? b=some o->h'.get? b=some o
section
variable{prog:bf}{w:cg}{A:cf}{E:af->ag->Prop}{s:ag}{z TI TO i j u v:ah}{xs ys:List af}{st su:Nat->ck->Prop}
theorem RY {n:Nat}{x y a b:af}{Q:af->ag->Prop}(F4:Four z TI TO i j u v) (P:Draws prog w i u xs st) (R:Draws prog w j v ys su) (hz:xw s.heap z TI TO .none) (hTI:mq s.heap TI (.ref i) (.ref j)) (hTO:mq s.heap TO a b)
  (p:st n s.heap) (r:su n s.heap) (hx:xs[n]?=some x) (hy:ys[n]?=some y)
  (k:∀h' T,s.heap.objs.size<=T->xw h' z TI TO (rawInt T)->mq h' TI (.ref i) (.ref j)->mq h' TO x y->st (n+1) h'->su (n+1) h'->mq h' T x y->uA z TO i j s.heap h'->Q (.ref T) { s with heap:=h' }):
  wpAny (model prog w) A (kz.«zip.__next__» ⟨[.ref z],[]⟩) (λfin s'=>∃v,fin=.done (.ret v)/\Q v s') E s:=by
 refine aa (ai (aa (ff hz rfl (x:=.bool false) rfl (aa (ff hz rfl (x:=.ref TI) rfl (aa (iu hTI rfl ?_)))))));have fr:∀{Q':Bool->ag->Prop}{E':af->ag->Prop},Q' true s->wpAny (model prog w) A (o7 (.ref z)) Q' E' s:=λq=>aa (ff hz rfl (x:=.none) rfl (ai q));refine aa (fr ?_);rw[if_pos rfl];refine aa (qj (aa (ff hz rfl (x:=.ref TO) rfl (aa (iq hz (by simp) λg1 z1 b1=>?_)))));have z1':xw g1 z TI TO .ellipsis:=z1;refine aa ?_;show wpAny _ _ (forIn [(gh i,0),(gh j,1)] _ _) _ _ _;rw[n9];refine aa (aa (pz ?_));show wpAny _ _ (dv (.ref i) >>= _) _ _ _;refine aa (P.item A n x _ _ _ hx (P.keep n _ _ p λb o hb q=>b1.extBut _ _ (gB hb (cz F4.b) F4.u1) q) λg2 p2 b2=>ai ?_);have t2:mq g2 TO a b:=b2.extBut _ _ F4.d (b1.extBut _ _ (cz F4.a) hTO);refine aa (iu t2 rfl (aa (rg t2 λg3 t3 b3=>aa (wpAny_letGo (ai ?_)))));have t3':mq g3 TO x b:=t3;dsimp only;rw[n9];refine aa (aa (pz ?_));show wpAny _ _ (dv (.ref j) >>= _) _ _ _;have r3:su n g3:=R.keep n _ _ r λb o hb q=>b3.extBut _ _ (gB hb (cz F4.e) F4.v2) (b2.extBut _ _ (gB hb (cz F4.f) F4.v3) (b1.extBut _ _ (gB hb (cz F4.c) F4.v1) q));refine aa (R.item A n y _ _ _ hy r3 λg4 r4 b4=>ai ?_);have t4:mq g4 TO x b:=b4.extBut _ _ F4.e t3';refine aa (iu t4 rfl (aa (rg t4 λg5 t5 b5=>aa (wpAny_letGo (ai ?_)))));have t5':mq g5 TO x y:=t5;dsimp only;rw[List.forIn_nil];refine ai ?_;refine aa (iu t5' rfl (aa (wpAny_newTuple ?_)));have z5:xw g5 z TI TO .ellipsis:=b5.extBut _ _ F4.a (b4.extBut _ _ F4.c (b3.extBut _ _ F4.a (b2.extBut _ _ F4.b z1')));have sz:g5.objs.size=s.heap.objs.size:=by rw[b5.1,b4.1,b3.1,b2.1,b1.1]
 have all5:uA z TO i j s.heap g5:=λc o c1 c2 c3 c4 q=>b5.extBut _ _ c2 (b4.extBut _ _ c4 (b3.extBut _ _ c2 (b2.extBut _ _ c3 (b1.extBut _ _ c1 q))));have p5:st (n+1) g5:=P.keep _ _ _ p2 λb o hb q=>b5.extBut _ _ (gB hb (cz F4.d) F4.u2) (b4.extBut _ _ (gB hb F4.f F4.u4) (b3.extBut _ _ (gB hb (cz F4.d) F4.u2) q));have r5:su (n+1) g5:=R.keep _ _ _ r4 λb o hb q=>b5.extBut _ _ (gB hb (cz F4.e) F4.v2) q;generalize hob:({ cls:=.type "tuple",dict:=none,data:=.seq [x,y].toArray }:Obj)=ob;have zp:xw (g5.push ob) z TI TO .ellipsis:=aj _ z5;refine aa (aa (iq zp (by simp) λg7 z7 b7=>?_));have z7':xw g7 z TI TO (rawInt g5.objs.size):=z7;refine iq z7' (by simp) λg8 z8 b8=>ai ⟨_,rfl, ?_⟩;have up:∀c o,c≠z->g5.get? c=some o->g8.get? c=some o:=λc o c1 q=>b8.extBut _ _ c1 (b7.extBut _ _ c1 (aj _ q));have lz:z<g5.objs.size:=au z5;have T8:mq g8 g5.objs.size x y:=b8.extBut _ _ (ji lz) (b7.extBut _ _ (ji lz) (by rw[<-hob];exact ay _ rfl));refine k g8 g5.objs.size (lh sz.symm) z8 (up _ _ F4.g (all5 _ _ F4.g F4.h F4.k F4.l hTI)) (up _ _ (cz F4.a) t5') (P.keep _ _ _ p5 λb o hb q=>up _ _ (gB hb (cz F4.b) F4.u1) q) (R.keep _ _ _ r5 λb o hb q=>up _ _ (gB hb (cz F4.c) F4.v1) q) T8 λc o c1 c2 c3 c4 q=>up _ _ c1 (all5 c o c1 c2 c3 c4 q)
end
section
variable{prog:bf}{w:cg}{A:cf}{E:af->ag->Prop}{s:ag}{z TI TO i j u v:ah}{xs ys:List af}{st su:Nat->ck->Prop}
theorem RZ {n:Nat}{a b:af}{Q:PySem.Fin->ag->Prop}(hh:A.handled=none) (F4:Four z TI TO i j u v) (P:Draws prog w i u xs st) (R:Draws prog w j v ys su) (hz:xw s.heap z TI TO .none) (hTI:mq s.heap TI (.ref i) (.ref j)) (hTO:mq s.heap TO a b)
  (p:st n s.heap) (r:su n s.heap) (hend:xs[n]?=none∨ys[n]?=none)
  (k:∀h' e,uA z TO i j s.heap h'->(∃o,h'.get? e=some o/\o.cls=.type "StopIteration")->E (.ref e) { s with heap:=h' }):
  wpAny (model prog w) A (kz.«zip.__next__» ⟨[.ref z],[]⟩) Q E s:=by
 refine aa (ai (aa (ff hz rfl (x:=.bool false) rfl (aa (ff hz rfl (x:=.ref TI) rfl (aa (iu hTI rfl ?_)))))));have fr:∀{Q':Bool->ag->Prop}{E':af->ag->Prop},Q' true s->wpAny (model prog w) A (o7 (.ref z)) Q' E' s:=λq=>aa (ff hz rfl (x:=.none) rfl (ai q));refine aa (fr ?_);rw[if_pos rfl];refine aa (qj (aa (ff hz rfl (x:=.ref TO) rfl (aa (iq hz (by simp) λg1 z1 b1=>?_)))));have z1':xw g1 z TI TO .ellipsis:=z1;have p1:st n g1:=P.keep n _ _ p λb o hb q=>b1.extBut _ _ (gB hb (cz F4.b) F4.u1) q;have fin:∀(g:ck) (e:ah),xw g z TI TO .ellipsis->uA z TO i j s.heap g->(∃o,g.get? e=some o/\o.cls=.type "StopIteration")->
   wpAny (model prog w) A (setField (.ref z) 0 .none) (λ_ s'=>E (.ref e) s') E { s with heap:=g }:=λg e zz bt ⟨o,he,hc⟩=>
  iq zz (by simp) λg' _ b'=>k g' e (λc u c1 c2 c3 c4 q=>b'.extBut _ _ c1 (bt c u c1 c2 c3 c4 q)) ⟨o,b'.extBut _ _ (λq=>by subst q;rw[zz]at he;cases he;simp at hc) he,hc⟩
 refine aa ?_;show wpAny _ _ (forIn [(gh i,0),(gh j,1)] _ _) _ _ _;rw[n9];refine aa (aa (pz ?_));show wpAny _ _ (dv (.ref i) >>= _) _ _ _
 cases hx:xs[n]? with
 |none=>exact aa (P.done A n _ _ _ hh hx p1 λg2 e b2 he=>fin g2 e (b2 _ _ F4.b z1') (λc u c1 _ c3 _ q=>b2 _ _ c3 (b1.extBut _ _ c1 q)) he)
 |some x=>
  have hy:ys[n]?=none:=by
   rcases hend with q|q
   ·rw[hx]at q;cases q
   ·exact q
  refine aa (P.item A n x _ _ _ hx p1 λg2 p2 b2=>ai ?_);have t2:mq g2 TO a b:=b2.extBut _ _ F4.d (b1.extBut _ _ (cz F4.a) hTO);refine aa (iu t2 rfl (aa (rg t2 λg3 t3 b3=>aa (wpAny_letGo (ai ?_)))));dsimp only;rw[n9];refine aa (aa (pz ?_));show wpAny _ _ (dv (.ref j) >>= _) _ _ _;have r3:su n g3:=R.keep n _ _ r λb o hb q=>b3.extBut _ _ (gB hb (cz F4.e) F4.v2) (b2.extBut _ _ (gB hb (cz F4.f) F4.v3) (b1.extBut _ _ (gB hb (cz F4.c) F4.v1) q));exact aa (R.done A n _ _ _ hh hy r3 λg4 e b4 he=>fin g4 e (b4 _ _ F4.c (b3.extBut _ _ F4.a (b2.extBut _ _ F4.b z1'))) (λc u c1 c2 c3 c4 q=>b4 _ _ c4 (b3.extBut _ _ c2 (b2.extBut _ _ c3 (b1.extBut _ _ c1 q)))) he)
theorem uB {it t:ah}{items:Array af}(hne:t≠it):Draws prog w it t items.toList (λi h=>h.IsTupleIter it t i/\h.IsTuple t items) where
 keep:=λi h h' ⟨⟨o,e,r⟩,⟨o2,e2,r2⟩⟩ k=>⟨⟨o,k _ _ (.inl rfl) e,r⟩,⟨o2,k _ _ (.inr rfl) e2,r2⟩⟩
 there:=λi h ⟨⟨o,e,_,d⟩,_⟩=>⟨o,_,e,d⟩
 item:=λA i x s Q E hx ⟨a,b⟩ k=>RV a b (by simpa using hx) λh' a' sb=>k h' ⟨a',b.extBut sb.extBut hne⟩ sb
 done:=λA i s Q E hh hx ⟨a,b⟩ k=>RX hh a b (by simpa using hx) k
end
def yR (K:ao) (t u:ah):It:=
 ⟨λi H=>∃vs ws v w,SqT K H t vs/\SqT K H u ws/\vs[i]?=some v/\ws[i]?=some w,
  λi H x H'=>∃p v w,x=.ref p/\H p=none/\H'=aM H p (.tup [v,w])/\(∀vs,SqT K H t vs->vs[i]?=some v)/\∀ws,SqT K H u ws->ws[i]?=some w,
  λi H=>∃vs ws,SqT K H t vs/\SqT K H u ws/\(vs.length<=i∨ws.length<=i)⟩
structure ZipAt (z TI TO i j t u:ah) (n:Nat) (h:ck):Prop where
 zp:xw h z TI TO .none
 ti:mq h TI (.ref i) (.ref j)
 to:∃a b,mq h TO a b
 i1:h.IsTupleIter i t n
 i2:h.IsTupleIter j u n
section
variable{X:Cx}{pins:List (ah×Obj)}{σ:St}{H:Hp}{s:ag}
theorem Inv.turns {h':ck}{ch:List ah}{T:ah}{vs:List V}{its:List af}(I:Inv X pins σ H s) (hch:∀b∈ch,cI X pins H b) (k:∀b o,b∉ch->s.heap.get? b=some o->h'.get? b=some o) (there:∀b∈ch,∃o,h'.get? b=some o)
  (hT:s.heap.objs.size<=T) (hv:Vals vs its) (hl:vs.length<=bq) (tp:IsTupX h' T its.toArray):Inv X pins σ (aM H T (.tup vs)) { s with heap:=h' }:=by
 have nT:H T=none:=I.hok.fresh hT;have nch:∀b o,H b=some o->b∉ch:=λb o q z=>by rw[(hch b z).1]at q;cases q
 have un:Un (cM X.stack) ch H (aM H T (.tup vs)) s.heap h':=
  ⟨λb o q _ _ hb=>k b o hb q,λb o q _ _ hb=>⟨o.slots,k b o hb q⟩,λb o q n _=>by rw[aZ (bc (av (au q) hT))];exact n,
   λb o q hb=>⟨o,k b o hb q⟩,λb xs q=>bU nT b _ q,λb o u q=>bU nT b _ q,λb ps q=>⟨#[],by rw[bU nT b _ q];simp⟩⟩
 have ok:HOk X.prog X.w (aM H T (.tup vs)) h':=λb o q=>by
  by_cases hb:b=T
  ·subst hb;rw[bX]at q;cases q;exact⟨hl,its,hv,tp⟩
  ·rw[aZ hb]at q;refine(I.hok b o q).stay (λc v hc z=>k c v ?_ z) (λc z=>bU nT c _ z) λc xs z=>bU nT c _ z
   rcases hc with rfl|hc
   ·exact nch c o q
   ·exact nch c _ hc
 exact I.call (g':=s.gens) (d':=s.drawn) (t':=s.toks) un ok I.bare λb hb=>let ⟨_,f1,_,f3,f4,f5⟩:=hch b hb;⟨f3,f1,f4,f5⟩
theorem Inv.turns0 {h':ck}{ch:List ah}(I:Inv X pins σ H s) (hch:∀b∈ch,cI X pins H b) (k:∀b o,b∉ch->s.heap.get? b=some o->h'.get? b=some o):Inv X pins σ H { s with heap:=h' }:=by
 have nch:∀b o,H b=some o->b∉ch:=λb o q z=>by rw[(hch b z).1]at q;cases q
 refine I.call (g':=s.gens) (d':=s.drawn) (t':=s.toks) (ch:=ch) ⟨λb o q _ _ hb=>k b o hb q,λb o q _ _ hb=>⟨o.slots,k b o hb q⟩,λ_ _ _ n _=>n,λb o q hb=>⟨o,k b o hb q⟩,λ_ _ q=>q,λ_ _ _ q=>q,λb ps q=>⟨#[],by rw[q];simp⟩⟩ (λb o q=>?_) I.bare λb hb=>let ⟨_,f1,_,f3,f4,f5⟩:=hch b hb;⟨f3,f1,f4,f5⟩;refine(I.hok b o q).stay (λc v hc z=>k c v ?_ z) (λ_ z=>z) λ_ _ z=>z
 rcases hc with rfl|hc
 ·exact nch c o q
 ·exact nch c _ hc
end
theorem R0 {P:bf}{w:cg}{K:ao}{elts:List bj}{kk:Nat}{tp:Pos}{z TI TO i j t u:ah}(F4:Four z TI TO i j t u) (hti:t≠i) (huj:u≠j):
  Turn P w K (.Tuple elts kk tp) (yR K t u) [z,TI,TO,i,j] z (ZipAt z TI TO i j t u) where
 mem:=by simp
 obj:=λn h st b hb=>by
  obtain⟨zp,ti,⟨a,b',to⟩,⟨o1,e1,_,d1⟩,⟨o2,e2,_,d2⟩⟩:=st;simp at hb
  rcases hb with rfl|rfl|rfl|rfl|rfl
  ·exact⟨_,zp,λv q=>by cases q⟩
  ·exact⟨_,ti,λv q=>by cases q⟩
  ·exact⟨_,to,λv q=>by cases q⟩
  ·exact⟨_,e1,λv q=>by rw[d1]at q;cases q⟩
  ·exact⟨_,e2,λv q=>by rw[d2]at q;cases q⟩
 keep:=λn h h' st k=>by obtain⟨zp,ti,⟨a,b',to⟩,⟨o1,e1,r1⟩,⟨o2,e2,r2⟩⟩:=st;exact⟨k _ (by simp) _ zp,k _ (by simp) _ ti,⟨a,b',k _ (by simp) _ to⟩,⟨o1,k _ (by simp) _ e1,r1⟩,⟨o2,k _ (by simp) _ e2,r2⟩⟩
 item:=by
  intro X hP hw hK hc n pins s σ H E I hf st hg;subst hP hw hK;obtain⟨vs,ws,v,w',hq,hr,hv,hw'⟩:=hg;obtain⟨its,rv,p1,z1⟩:=I.tuple hq;obtain⟨jts,rw',p2,z2⟩:=I.tuple hr;obtain⟨x,hx,rx⟩:=rv.get hv;obtain⟨y,hy,ry⟩:=rw'.get hw';obtain⟨zp,ti,⟨a,b,to⟩,i1,i2⟩:=st;have hT:s.TypeIs (.ref z) "zip" := ⟨_,zp,rfl⟩;unfold pyNext;refine aa (sy (fv (name:=ie "__next__") hT F.slot_zip_next (gg F.slot_zip_next hT F.entry_zip_next
   (RY F4 (uB (items:=its.toArray) hti) (uB (items:=jts.toArray) huj) zp ti to ⟨i1,p1⟩ ⟨i2,p2⟩ (by simpa using hx) (by simpa using hy) λh' T hnew a1 a2 a3 a4 a5 a6 bt=>ai ⟨_,rfl, ?_⟩) (F.args_zip_next_1 _))))
  refine wpAny_letOwnedTupleGo_zip a1 λh2 z2' sb=>?_;have kp:∀b o,b∉[z,TI,TO,i,j]->s.heap.get? b=some o->h2.get? b=some o:=λb o hb q=>by simp at hb;obtain⟨n1,n2,n3,n4,n5⟩:=hb;exact sb.extBut _ _ n1 (bt b o n1 n3 n4 n5 q)
  have Tz:T≠z:=ji (av (au zp) hnew);have T2:mq h2 T x y:=sb.extBut _ _ Tz a6;have th:∀b∈[z,TI,TO,i,j],∃o,h2.get? b=some o:=λb hb=>by
   obtain⟨⟨o1,e1,_⟩,_⟩:=a4;obtain⟨⟨o2,e2,_⟩,_⟩:=a5;simp at hb
   rcases hb with rfl|rfl|rfl|rfl|rfl
   ·exact⟨_,z2'⟩
   ·exact⟨_,sb.extBut _ _ F4.g a2⟩
   ·exact⟨_,sb.extBut _ _ (cz F4.a) a3⟩
   ·exact⟨_,sb.extBut _ _ (cz F4.b) e1⟩
   ·exact⟨_,sb.extBut _ _ (cz F4.c) e2⟩
  have I2:=Inv.turns (T:=T) (vs:=[v,w']) (its:=[x,y]) I hf kp th hnew (.cons rx (.cons ry .nil)) (by show 2<=bq;decide) ⟨_,T2,rfl,rfl,_,rfl⟩;have nT:H T=none:=I.hok.fresh hnew;refine⟨.ref T,_,I2,rfl,⟨T,v,w',rfl,nT,rfl,λvs' h'=>by rw[I.tuple_inj h' hq];exact hv,λws' h'=>by rw[I.tuple_inj h' hr];exact hw'⟩, ?_,λb hb=>?_⟩
  ·exact⟨z2',sb.extBut _ _ F4.g a2,⟨_,_,sb.extBut _ _ (cz F4.a) a3⟩,a4.1.extBut sb.extBut (cz F4.b),a5.1.extBut sb.extBut (cz F4.c)⟩
  ·obtain⟨o,q,_⟩:∃o,s.heap.get? b=some o/\True:=by
    obtain⟨o1,e1,_⟩:=i1;obtain⟨o2,e2,_⟩:=i2;simp at hb
    rcases hb with rfl|rfl|rfl|rfl|rfl
    ·exact⟨_,zp,trivial⟩
    ·exact⟨_,ti,trivial⟩
    ·exact⟨_,to,trivial⟩
    ·exact⟨_,e1,trivial⟩
    ·exact⟨_,e2,trivial⟩
   rw[aZ (bc (av (au q) hnew))];exact(hf b hb).1
 done:=by
  intro X hP hw hK hc n pins s σ H E I hf st hg;subst hP hw hK;obtain⟨vs,ws,hq,hr,hend⟩:=hg;obtain⟨its,rv,p1,z1⟩:=I.tuple hq;obtain⟨jts,rw',p2,z2⟩:=I.tuple hr;have l1:=rv.length;have l2:=rw'.length;obtain⟨zp,ti,⟨a,b,to⟩,i1,i2⟩:=st;have hT:s.TypeIs (.ref z) "zip" := ⟨_,zp,rfl⟩;unfold pyNext;refine aa (sy (fv (name:=ie "__next__") hT F.slot_zip_next (gg F.slot_zip_next hT F.entry_zip_next
   (RZ (show X.A.in1.handled=none from I.ok.hd hc) F4 (uB (items:=its.toArray) hti) (uB (items:=jts.toArray) huj) zp ti to ⟨i1,p1⟩ ⟨i2,p2⟩ (by
    rcases hend with q|q
    ·exact .inl (by simp;omega)
    ·exact .inr (by simp;omega)) λh' e bt ⟨o,he,hcl⟩=>aa (xa (T := "StopIteration") (b:=true) ⟨o,he,hcl⟩ isSubtype_stop (ai ⟨rfl, ?_⟩))) (F.args_zip_next_1 _))))
  refine Inv.turns0 I hf λb o hb q=>?_;simp at hb;exact bt b o hb.1 hb.2.2.1 hb.2.2.2.1 hb.2.2.2.2 q
 self:=λ_ _ _ _ _ st h=>wpAny_pyIter_zip st.zp h
def FO (t u:ah) (h:ck) (z:ah) (h':ck):Prop:=∃TI TO i j,ZipAt z TI TO i j t u 0 h'/\Four z TI TO i j t u/\(∀b∈[z,TI,TO,i,j],h.objs.size<=b)/\∀b o,h.get? b=some o->h'.get? b=some o
theorem qM {h h':ck}{o:Obj}(e:h'=h.push o) (nf:o.isFreed=false):h'.get? h.objs.size=some o:=by rw[e];exact ay _ nf
theorem R3 (n t u:Nat) (lt:t<n) (lu:u<n):Four (n+4) (n+2) (n+3) n (n+1) t u:=by
 have ne:∀{a b:Nat},(a<b∨b<a)->a≠b:=λh=>by omega
 exact⟨ne (by omega),ne (by omega),ne (by omega),ne (by omega),ne (by omega),ne (by omega),ne (by omega),ne (by omega),ne (by omega),ne (by omega),ne (by omega),ne (by omega),ne (by omega),ne (by omega),ne (by omega),ne (by omega),ne (by omega),ne (by omega)⟩
theorem R4 {t u:ah}{hp h1 h2 h3 h4 h5:ck}{n:Nat}(hn:n=hp.objs.size) (lt:t<n) (lu:u<n)
  (e1:h1=hp.push { cls:=.type "tuple_iterator",data:=.fields #[.ref t,.int 0 0] }) (e2:h2=h1.push { cls:=.type "tuple_iterator",data:=.fields #[.ref u,.int 0 0] }) (e3:h3=h2.push { cls:=.type "tuple",data:=.seq #[.ref n,.ref (n+1)] })
  (e4:h4=h3.push { cls:=.type "tuple",data:=.seq #[.none,.none] }) (e5:h5=h4.push { cls:=.type "zip",data:=.fields #[.none,.bool false,.bool false,.ref (n+2),.ref (n+3)] }):FO t u hp (n+4) h5:=by
 have z1:h1.objs.size=n+1:=by rw[e1,dz,hn]
 have z2:h2.objs.size=n+2:=by rw[e2,dz,z1]
 have z3:h3.objs.size=n+3:=by rw[e3,dz,z2]
 have z4:h4.objs.size=n+4:=by rw[e4,dz,z3]
 have up:∀(h:ck) (o:Obj) (b:ah) (q:Obj),h.get? b=some q->(h.push o).get? b=some q:=λh o b q e=>aj _ e;have g1:=qM e1 rfl;have g2:=qM e2 rfl;have g3:=qM e3 rfl;have g4:=qM e4 rfl;have g5:=qM e5 rfl;rw[<-hn]at g1;rw[z1]at g2;rw[z2]at g3;rw[z3]at g4;rw[z4]at g5;have u2:∀b q,h2.get? b=some q->h5.get? b=some q:=λb q e=>by rw[e5,e4,e3];exact up _ _ _ _ (up _ _ _ _ (up _ _ _ _ e))
 have u1:∀b q,h1.get? b=some q->h5.get? b=some q:=λb q e=>u2 b q (by rw[e2];exact up _ _ _ _ e);have u3:∀b q,h3.get? b=some q->h5.get? b=some q:=λb q e=>by rw[e5,e4];exact up _ _ _ _ (up _ _ _ _ e)
 have u4:∀b q,h4.get? b=some q->h5.get? b=some q:=λb q e=>by rw[e5];exact up _ _ _ _ e
 refine⟨n+2,n+3,n,n+1,⟨g5,u3 _ _ g3,⟨_,_,u4 _ _ g4⟩,⟨_,u1 _ _ g1,rfl,rfl⟩,⟨_,u2 _ _ g2,rfl,rfl⟩⟩, ?_, ?_,λb q e=>u1 b q (by rw[e1];exact up _ _ _ _ e)⟩
 ·exact R3 n t u lt lu
 ·intro b hb;rw[<-hn];simp at hb
  rcases hb with rfl|rfl|rfl|rfl|rfl
  ·exact pd _ _
  ·exact pd _ _
  ·exact pd _ _
  ·exact ak _
  ·exact pd _ _
theorem R5 {t u:ah}(xs ys:Array af):Meets (kz.«zip.__new__» ⟨[.type "zip",.ref t,.ref u],[]⟩) (λ_ R s=>s.heap.IsTuple t xs/\s.heap.IsTuple u ys/\∀h' z,FO t u s.heap z h'->R (.ok (.ret (.ref z))) { s with heap:=h' }):=
 .of_wp λprog w A R s h=>by
  obtain⟨ht,hu,k⟩:=h;obtain⟨hp,g,d,tk,os⟩:=s;have sub:=sub_zip;have ht':(⟨hp,g,d,tk,os⟩:ag).heap.IsTuple t xs:=ht;have hu':(⟨hp.push { cls:=.type "tuple_iterator",data:=.fields #[.ref t,.int 0 0] },g,d,tk,os⟩:ag).heap.IsTuple u ys:=hu.push _
  wp_walk using p0 ht',p0 hu'
  have lt:t<hp.objs.size:=by obtain⟨o,e,_⟩:=ht;exact au e
  have lu:u<hp.objs.size:=by obtain⟨o,e,_⟩:=hu;exact au e
  simp only[dz];refine⟨_,rfl,k _ _ (R4 rfl lt lu rfl rfl rfl rfl ?_)⟩;simp only[dz];rfl
section
variable{X:Cx}{G:Cfg}{E:XK}{a b:bj}{elts:List bj}{kk:Nat}{tp p pos:Pos}{ta:TA}{ms:M (List Dv)}
def R6 (K:ao) (ta:TA):TI:=λσ H R=>ta σ H λvs H1=>∃t u xs ys,vs=[.ref t,.ref u]/\SqT K H1 t xs/\SqT K H1 u ys/\R (yR K t u) H1
theorem R7:cx "zip" = some (.type "zip"):=by decide +kernel
theorem R8 (hg:Gl X "zip") (hm:X.mg "zip" = none) (ha:PA X [a,b] ta) (hs:aq [a,b] X.env=[(false,eval a X.env),(false,eval b X.env)]:=by rfl) (hs2:aq [b] X.env=[(false,eval b X.env)]:=by rfl):
  PI X (.Tuple elts kk tp) (.Call (.Name "zip" p) [a,b] [] pos) (R6 X.K ta):=by
 intro pins s σ H R I h;refine Call_ (mO I hg hm R7 (ik (aR (ha pos pins s σ H _ I h) λus s1 ⟨vs,H1,I1,r1,q1⟩=>?_) (by rw[hs,hs2]) (by rw[hs2];rfl)));obtain⟨t,u,xs,ys,e,hq,hr,q⟩:=q1;subst e;obtain⟨u1,u2,rfl,e1,e2⟩:=pN r1;cases e1;cases e2;obtain⟨its,rv,p1,_⟩:=I1.tuple hq;obtain⟨jts,rw',p2,_⟩:=I1.tuple hr;refine callType_new F.called_zip (by decide) (F.typeCall_zip_2 _ _) (F.newCall_zip_2 _ _) (λobj=>F.args_object_init_3 obj _ _) F.entry_zip_new (R5 its.toArray jts.toArray) ⟨p1,p2,λh' z nz=>?_⟩;obtain⟨TI,TO,i,j,za,f4,fresh,kp⟩:=nz;refine⟨⟨_,za.zp,rfl⟩, ?_⟩;have I2:Inv X pins σ H1 { s1 with heap:=h' }:=I1.kept (t':=s1.toks) kp;refine wpAny_pyIter_zip za.zp ⟨z,[z,TI,TO,i,j],_,_,H1,rfl,I2,R0 f4 f4.u3 f4.v4,za,λb hb=>I1.fpOk (fresh b hb) (I1.hok.fresh (fresh b hb)),q⟩
def lU (xs ys:List Dv):Src:=cO ((xs.zip ys).map λq=>.tup [q.1,q.2])
def lV:List Dv->Hs->Rs Src
 | [.tup xs,.tup ys],h=>.ok (lU xs ys) h
 |_,_=>.bad
theorem ItOk.zip {μ:Nat->ah}{n:Nat}{H:Hp}{t u:ah}{vs ws:List V}{xs ys:List Dv}{K:ao}(e:H t=some (.tup vs)) (e':H u=some (.tup ws)) (r:RelDL G μ n H xs vs) (r':RelDL G μ n H ys ws):ItOk G μ n H (lU xs ys) (yR K t u):=by
 intro k μ2 h2 H2 x2 s2;have f:=x2.im t (.tup vs) trivial e;have f':=x2.im u (.tup ws) trivial e';have g:=RelDL.mono x2 _ _ r;have g':=RelDL.mono x2 _ _ r';have hl:(lU xs ys).n=min xs.length ys.length:=by simp[lU,cO]
 constructor
 ·intro hk d hd;have hd':((xs.zip ys).map λq=>Dv.tup [q.1,q.2])[k]?=some d:=hd;rw[dj]at hd'
  cases q:(xs.zip ys)[k]? with
  |none=>rw[q]at hd';cases hd'
  |some xy=>
   rw[q]at hd';cases hd';obtain⟨qx,qy⟩:=oh.mp q;obtain⟨v,ev,rv⟩:=g.get qx;obtain⟨w',ew,rw'⟩:=g'.get qy;refine⟨⟨vs,ws,v,w',SqT.of f,SqT.of f',ev,ew⟩,λx H' hy=>?_⟩;obtain⟨pp,v1,w1,rfl,np,rfl,a1,a2⟩:=hy;have b1:=a1 vs (SqT.of f);have b2:=a2 ws (SqT.of f');rw[ev]at b1;rw[ew]at b2
   cases b1;cases b2
   have sm:Same H2 (aM H2 pp (.tup [v,w'])):=bU np;exact⟨sm,pp,_,rfl,bX,RelDL.cons (RelD.mono (Ext.same sm) _ _ rv) (RelDL.cons (RelD.mono (Ext.same sm) _ _ rw') RelDL.nil)⟩
 ·intro hk _;refine⟨vs,ws,SqT.of f,SqT.of f', ?_⟩;rw[g.length,g'.length,hk,hl];omega
theorem FP (hg:Gl X "zip") (hm:X.mg "zip" = none) (ha:cS X G E [a,b] ms) (hs:aq [a,b] X.env=[(false,eval a X.env),(false,eval b X.env)]:=by rfl) (hs2:aq [b] X.env=[(false,eval b X.env)]:=by rfl):
  jO X G E (.Tuple elts kk tp) (.Call (.Name "zip" p) [a,b] [] pos) (aQ lV ms):=λhK=>
 PI.imp (R8 hg hm (ha hK) hs hs2) λσ H R ⟨μ,ρ,h,rs,s,o⟩=>iT rs s o λμ1 ds h1 vs H1 x1 rs1 s1 r1 o1=>by
  unfold lV at o1
  split at o1
  ·rename_i xs ys;obtain⟨v,v',rfl,rv,rv'⟩:=tO r1;obtain⟨t,us,rfl,e,r⟩:=rv;obtain⟨u,ws,rfl,e',r'⟩:=rv';exact⟨t,u,us,ws,rfl,SqT.of e,SqT.of e',o1.val s1 (ItOk.zip e e' r r')⟩
  ·exact o1.elim
end
section
variable{prog:bf}{w:cg}{A:cf}{E:af->ag->Prop}{s:ag}{K:Frag}{e C N:ah}{o:Obj}
theorem R9 {Q:Bool->ag->Prop}(X:K.In s.heap) (he:s.heap.get? e=some o) (hc:o.cls=.ref C) (hn:subIn K (.ref N) (.type "BaseException")=some true) (ht:subIn K (.type "type") (.type "tuple")=some false) (hk:kitCls K (.ref N) (.ref N)=some true) {b:Bool}(hs:subIn K (.ref C) (.ref N)=some b) (q:Q b s):
  wpAny (model prog w) A (excMatches (.ref e) (.ref N)) Q E s:=by
 have L1:=(kit_cls (M:=model prog w) X hk).1;have L2:=(kit_cls (M:=model prog w) X hk).2.1;have L3:=looks_subIn (M:=model prog w) X hn;have L4:=looks_subIn (M:=model prog w) X hs;have L5:=looks_subIn (M:=model prog w) X ht;obtain⟨hp,g,d,tk,os⟩:=s;unfold excMatches
 repeat (any_goals (first|assumption|(with_reducible refine wpAny_loadPart_at he ?_;rw[hc])|with_reducible refine L1.at ?_|with_reducible refine L2.at ?_|with_reducible refine L3.at ?_|with_reducible refine L4.at ?_|with_reducible refine L5.at ?_|wp_step))
 cases b
 all_goals (repeat (any_goals (first|assumption|wp_step)))
end
def hO (P:bf) (w:cg) (K:ao) (mg:Str->Option af) (base:ck) (N:List Str) (qual:Str) (scope:gn) (f:ah) (cd:af) (cl:List (Str×ah)) (A:cf) (outer:List Env) (s:ag) (H:Hp) (E:XK):Cx where
 prog:=P
 w:=w
 K:=K
 mg:=mg
 base:=base
 A:=A.deeper (kn qual scope s.heap.objs.size f cd cl)
 N:=N
 s₀:=s
 H₀:=H
 env:=kn qual scope s.heap.objs.size f cd cl
 outer:=outer
 stack:=kn qual scope s.heap.objs.size f cd cl::outer
 ex:=[]
 calm:=true
 fn:=λ_=>false
 pn:=[]
 xe:=λe s'=>wpAny (model P w) (A.deeper (kn qual scope s.heap.objs.size f cd cl)) (leaving (kn qual scope s.heap.objs.size f cd cl) e) (λ_ s''=>bE P w base outer H s E e s'') (λe' s''=>bE P w base outer H s E e' s'') s'
structure LamScope (N:List Str) (sc:gn):Prop where
 kind:sc.kind=.function
 co:sc.isCoroutine=false
 gen:sc.isGenerator=false
 nocell:∀x∈sc.names,x.2≠.cell
 fr:∀x∈N,sc.names.lookup x=some .free
 all:∀x∈sc.names,x.2=.free->x.1∈N
structure LamAt (G:Cfg) (base:ck) (H:Hp) (μ:Nat->ah) (n:Nat) (N:List Str) (params:jz) (body:bj) (scope:gn) (f c':ah) (cl:List (Str×ah)) (ds:List Dv):Prop where
 ob:∃pm ctv,H f=some (.frz (jl "<lambda>" G.lq params body scope cl pm c' ctv) (.own 0))
 cd:∃oc,H c'=some (.frz oc (.own 0))/\tG G.lq oc
 inj:∀x y c,cl.lookup x=some c->cl.lookup y=some c->x=y
 len:ds.length=N.length
 at_:∀(i:Nat) (x:Str),N[i]?=some x->∃c,cl.lookup x=some c
 cell:∀(x:Str) (c:ah),cl.lookup x=some c->∃o u,base.get? c=some o/\o.data=.cell u
 val:∀(i:Nat) (x:Str) (c:ah) (d:Dv),N[i]?=some x->ds[i]?=some d->cl.lookup x=some c->∃o u v,base.get? c=some o/\o.data=.cell (some u)/\RelV v u/\RelD G μ n H d v
section
variable{P:bf}{w:cg}{K:ao}{mg:Str->Option af}{base:ck}{N:List Str}{qual:Str}{scope:gn}{f:ah}{cdv:af}{cl:List (Str×ah)}{A:cf}{outer:List Env}{s0:ag}{H0:Hp}{E0:XK}{G:Cfg}{E:XK}{k:Nat}
theorem SA (hr:Room k (A.deeper (kn qual scope s0.heap.objs.size f cdv cl))) (hK:K=G.K) (hE:∀u H',E u none H'->E0 u none H') (hF:yK E):
  Good (hO P w K mg base N qual scope f cdv cl A outer s0 H0 E0) G E k where
 calm:=rfl
 room:=hr
 K:=hK
 own:=yg
 pas:=by intro pins σ H s u s' I ⟨e,C,H',eu,os,bare,un,hok,fl,he⟩;subst eu;have I':=I.call' os un hok bare (λb z=>absurd z (by simp));refine aa (yJ (P:=P) (w:=w) (H:=H') (base:=base) I'.ok.frames I'.stack rfl hok I'.stkFree fl λh'' H'' un2 hok2 fl2 sx=>?_);have I2:=I'.call (h':=h'') (g':=s'.gens) (d':=s'.drawn) (t':=s'.toks) un2 hok2 I'.bare (λb z=>absurd z (by simp));obtain⟨T,a0,h1,_⟩:=id fl;obtain⟨T2,a2,h3,_⟩:=id fl2;have xe1:cN C e T a0 s'.heap:=(show ObjOk P w H' s'.heap e _ from hok e _ h1).1;have:E (.ref e) none H'':=hF e H' H'' sx ⟨C,T,a0,T2,a2,h1,⟨_,xe1⟩,h3⟩ he;exact⟨e,C,H'',rfl,I2.os,I2.bare,I2.base,hok2,fl2,hE _ _ this⟩
 rais:=by intro pins σ H s h' e C args I mx he;refine aa (E9 (P:=P) (w:=w) (H:=H) (base:=base) I.ok.frames I.stack rfl I.hok I.stkFree I.bk mx λh'' H'' un2 hok2 fl2 sm=>?_);have I2:=I.call (h':=h'') (g':=s.gens) (d':=s.drawn) (t':=s.toks) un2 hok2 I.bare (λb z=>absurd z (by simp));obtain⟨T2,a2,h3,_⟩:=id fl2;exact⟨e,C,H'',rfl,I2.os,I2.bare,I2.base,hok2,fl2,hE _ _ (he H'' sm ⟨T2,a2,h3⟩)⟩
end
def FQ {α:Type}:Rs α->Sr
 | .ex c h=>.ex c h
 |_=>.bad
section
variable{P:bf}{w:cg}{K:ao}{mg:Str->Option af}{base:ck}{N:List Str}{params:jz}{body:bj}{scope:gn}{f c':ah}{cl:List (Str×ah)}{A:cf}{outer:List Env}{s:ag}{H:Hp}{E:XK}{G:Cfg}{k:Nat}{μ:Nat->ah}{h:Hs}{ds:List Dv}
theorem SD {h1:ck}{tk:Nat}{σ:St}{E₀:XK}(S:LamScope N scope) (hd:A.handled=none) (e0:Env0 P w K mg base A outer s H) (L:LamAt G base H μ h.length N params body scope f c' cl ds)
  (hall:∀x c,cl.lookup x=some c->x∈N)
  (hns:h1.Ns s.heap.objs.size λ_=>none) (hk1:∀b o,s.heap.get? b=some o->h1.get? b=some o)
  (hσ:σ.length=N.length) (hv:∀(i:Nat) (x:Str) (v:V),N[i]?=some x->σ[i]?=some (some v)->∃c o u,cl.lookup x=some c/\base.get? c=some o/\o.data=.cell (some u)/\RelV v u):
  Inv (hO P w K mg base N G.lq scope f (.ref c') cl A outer s H E₀) [] σ H { s with heap:=h1,toks:=tk }:=by
 have noA:∀b:ah,b∉(hO P w K mg base N G.lq scope f (.ref c') cl A outer s H E₀).ex:=λb z=>absurd (show b∈([]:List ah) from z) (by simp);have kfree:∀x,scope.names.lookup x=some .free->x∈N:=λx e=>S.all _ (dw e) rfl;refine⟨⟨e0.mod,S.kind,rfl,rfl,ak _,L.inj,λx hx=>?_,λx c z=>(nomatch z),λ_=>hd,ye e0.frames,.inr ⟨rfl,rfl⟩,λb z=>absurd z (noA b),e0.bs,e0.bsz,λb _ _=>noA b,λb z=>absurd z (noA b),e0.funs,e0.frf⟩,
  rfl,e0.bare,Un.kept hk1,⟨_,hns,λi x v h1' h2 h3=>?_⟩,λx c e=>?_,e0.hok.fresh (ak _),λx c e=>?_,λp hp=>absurd (show p∈([]:List (ah×Obj)) from hp) (by simp),e0.hok.kept hk1,hσ⟩
 ·have hx:scope.names.lookup x=some .cell∨scope.names.lookup x=some .free:=hx
  rcases hx with hx|hx
  ·exact absurd rfl (S.nocell _ (dw hx))
  ·obtain⟨i,hi⟩:=List.getElem?_of_mem (kfree x hx);exact L.at_ i x hi
 ·obtain⟨c,o,u,e1,e2,e3,r⟩:=hv i x v h1' h2;refine⟨u,r,.inr ⟨.inr (S.fr x (br h1')),c,e1,o,hk1 _ _ (e0.bs _ _ e2).1,e3⟩⟩
 ·obtain⟨o,u,e2,e3⟩:=L.cell x c e;exact⟨u,o,hk1 _ _ (e0.bs _ _ e2).1,e3⟩
 ·obtain⟨o,u,e2,e3⟩:=L.cell x c e;exact(e0.bs _ _ e2).2
theorem SE {me:M Dv}{Q:VK}(S:LamScope N scope) (hK:K=G.K) (hb:∀(cl:List (Str×ah)) (pm cdv ct:af),bindArgs (nh "<lambda>" G.lq params body scope cl pm cdv ct) ⟨[],[]⟩=pure [])
  (hbody:∀(f:ah) (cdv:af) (cl:List (Str×ah)) (A:cf) (outer:List Env) (s:ag) (H:Hp) (E₀ E:XK),Good (hO P w K mg base N G.lq scope f cdv cl A outer s H E₀) G E k->aG (hO P w K mg base N G.lq scope f cdv cl A outer s H E₀) G E body me)
  (hr:Room (k+1) A) (e0:Env0 P w K mg base A outer s H) (L:LamAt G base H μ h.length N params body scope f c' cl ds) (hall:∀x c,cl.lookup x=some c->x∈N) (sm:Sim G μ h H) (o:Out G E μ h.length H (me (ds.map some) h) (RelD G) Q):
  codeAny (model P w) A (.call (.ref f) ⟨[],[]⟩) (CR (bE P w base) outer P w H s Q E) s:=by
 obtain⟨pm,ctv,ho⟩:=L.ob;obtain⟨oc,hc,vs,t,hcd,hq⟩:=L.cd;have lim:s.heap.NoLimit:=e0.mod.nolimit.keeps λb o e=>(e0.bs b o e).1;have gc:s.heap.get? c'=some oc:=(e0.hok c' _ hc).1;refine PySem.W.kla_callFunE hr.depth (e0.hok f _ ho).1 rfl S.co S.gen rfl ⟨c',oc,vs,t,rfl,gc,hcd,hq⟩ ?_;rw[hb];refine ai (wpAny_newFunctionEnv S.nocell (λx hx=>absurd hx (by simp)) (λh₁ hns hsb=>⟨lim.fresh _ hsb, ?_⟩) S.kind);show codeAny _ _ (.expr body (kn G.lq scope s.heap.objs.size f (.ref c') cl)) _ _;have hk₁:∀b o,s.heap.get? b=some o->h₁.get? b=some o:=λb o e=>hsb.extBut b o (bc (au e)) (aj _ e);have hvs:∀(i:Nat),i<N.length->∃v:V,∀d,ds[i]?=some d->RelD G μ h.length H d v/\∀x,N[i]?=some x->∃c o u,cl.lookup x=some c/\base.get? c=some o/\o.data=.cell (some u)/\RelV v u:=λi hi=>by
  obtain⟨x,hx⟩:∃x,N[i]?=some x:=⟨_,az hi⟩
  obtain⟨d,hd⟩:∃d,ds[i]?=some d:=⟨_,az (by rw[L.len];exact hi)⟩
  obtain⟨c,ec⟩:=L.at_ i x hx;obtain⟨oo,u,v,e1,e2,r1,r2⟩:=L.val i x c d hx hd ec;refine⟨v,λd' hd'=>?_⟩;rw[hd]at hd';cases hd';refine⟨r2,λx' hx'=>?_⟩;rw[hx]at hx';cases hx';exact⟨c,oo,u,ec,e1,e2,r1⟩
 have hch:∃vs:List V,vs.length=N.length/\∀(i:Nat) (v:V),vs[i]?=some v->∀d,ds[i]?=some d->RelD G μ h.length H d v/\∀x,N[i]?=some x->∃c o u,cl.lookup x=some c/\base.get? c=some o/\o.data=.cell (some u)/\RelV v u:=by
  have:∀m,m<=N.length->∃vs:List V,vs.length=m/\∀(i:Nat) (v:V),vs[i]?=some v->∀d,ds[i]?=some d->RelD G μ h.length H d v/\∀x,N[i]?=some x->∃c o u,cl.lookup x=some c/\base.get? c=some o/\o.data=.cell (some u)/\RelV v u:=by
   intro m
   induction m with
   |zero=>exact λ_=>⟨[],rfl,λi v e=>by simp at e⟩
   |succ m ih=>
    intro hm;obtain⟨vs,hl,hv⟩:=ih (by omega);obtain⟨v,hv'⟩:=hvs m (by omega);refine⟨vs++[v],by simp[hl],λi v' e d hd=>?_⟩
    by_cases hi:i<vs.length
    ·rw[dh hi]at e;exact hv i v' e d hd
    ·rw[dk (by omega)]at e;have:i=m:=by have:=(ax.mp e).1;simp at this;omega
     subst this;simp[hl]at e;subst e;exact hv' d hd
  exact this _ (ak _)
 obtain⟨vs',hl,hv⟩:=hch;have I:Inv (hO P w K mg base N G.lq scope f (.ref c') cl A outer s H E) [] (vs'.map some) H { s with heap:=h₁,toks:=s.toks+([]:List (Str×af)).length }:=by
  refine SD S hr.hd e0 L hall hns hk₁ (by simp[hl]) λi x v h1 h2=>?_;have h3:vs'[i]?=some v:=by
   rw[dj]at h2
   cases q:vs'[i]? with
   |none=>rw[q]at h2;cases h2
   |some a=>rw[q]at h2;cases h2;rfl
  obtain⟨d,hd⟩:∃d,ds[i]?=some d:=⟨_,az (by rw[L.len];exact(ax.mp h1).1)⟩
  exact(hv i v h3 d hd).2 x h1
 have rs:RelS G μ h.length H (ds.map some) (vs'.map some):=⟨by simp[hl,L.len],λi d e=>by
  have h3:ds[i]?=some d:=by
   rw[dj]at e
   cases q:ds[i]? with
   |none=>rw[q]at e;cases e
   |some a=>rw[q]at e;cases e;rfl
  have hi:i<vs'.length:=by rw[hl,<-L.len];exact(ax.mp h3).1
  exact⟨vs'[i],by rw[dj,az hi];rfl,(hv i _ (az hi) d h3).1⟩⟩
 have gd:Good (hO P w K mg base N G.lq scope f (.ref c') cl A outer s H E) G (EB G μ h.length H (FQ (me (ds.map some) h))) k:=SA (hr.deeper _) hK (λu H' ⟨c,h',μ',er,x,s',fl⟩=>by
  cases q:me (ds.map some) h with
  |ok d hh=>rw[q]at er;cases er
  |bad=>rw[q]at er;cases er
  |ex c1 h1=>rw[q]at er o;cases er;exact o μ' H' u x s' fl) yM
 refine PySem.W.kla_codeExpr (js (hbody f (.ref c') cl A outer s H E _ gd hK [] _ (vs'.map some) H Q I ⟨μ,ds.map some,h,rs,sm, ?_⟩) (λu s' ⟨v,H',J,rv,q⟩=>⟨v,H',J.os,J.bare,J.base,J.hok,rv,q⟩) λe s' hs=>hs)
 cases q:me (ds.map some) h with
 |ok d hh=>rw[q]at o;exact o
 |bad=>rw[q]at o;exact o
 |ex c1 h1=>exact λμ' H' u x' s' fl=>⟨c1,h1,μ',rfl,x',s',fl⟩
end
section
variable{X:Cx}{pins:List (ah×Obj)}{σ:St}{H:Hp}{s:ag}
theorem SF {i:Nat}{x:Str}{h':ck}{tk:Nat}{m:Str->Option af}{v:Option af}(I:Inv X pins σ H s) (hN:X.N.Nodup) (hi:X.N[i]?=some x) (hn:s.heap.Ns X.env.locals m)
  (hl:∀(i:Nat) (x:Str) (v:V),X.N[i]?=some x->σ[i]?=some (some v)->nW X.env.scope x->∃u,RelV v u/\CC X.env s.heap m x u)
  (hs:gv X.env.locals s.heap h') (hn':h'.Ns X.env.locals (λy=>if y=x then v else m y)):Inv X pins (σ.set i none) H { s with heap:=h',toks:=tk }:=by
 have cne:=I.cne;have hok:HOk X.prog X.w H h':=λb ob e=>by
  refine(I.hok b ob e).stay (λc w' hc q=>(hs.2 c ?_).trans q) (λ_ q=>q) λ_ _ q=>q
  rintro rfl
  have hfree:=I.free
  rcases hc with hc|hc
  ·rw[<-hc]at e;rw[hfree]at e;cases e
  ·rw[hfree]at hc;cases hc
 refine⟨I.ok,I.os,I.bare,⟨λb o e n hb hx=>?_,λb o e n hb hx=>?_,I.base.free,λb o e hx=>?_,I.base.tups,I.base.frzs,I.base.tbls⟩,⟨_,hn',λj y v' e1 e2 e3=>?_⟩,λy c e=>?_,I.free,I.freeC,λp hp=>?_,hok,by simpa using I.len⟩
 ·exact(hs.2 b (bc (av (au e) I.ok.above))).trans (I.base.keep b o e n hb hx)
 ·obtain⟨sl,e1⟩:=I.base.slot b o e n hb hx;exact⟨sl,(hs.2 b (bc (av (au e) I.ok.above))).trans e1⟩
 ·obtain⟨o',e1⟩:=I.base.there b o e hx;exact⟨o',(hs.2 b (bc (av (au e) I.ok.above))).trans e1⟩
 ·by_cases hj:j=i
  ·subst hj;have hiσ:j<σ.length:=by rw[I.len];exact(ax.mp hi).1
   rw[di hiσ]at e2;cases e2
  ·rw[ed (cz hj)]at e2;obtain⟨u',r',q⟩:=hl j y v' e1 e2 e3;refine⟨u',r', ?_⟩
   rcases q with⟨k,e⟩|⟨k,c,e,z⟩
   ·refine .inl ⟨k, ?_⟩;have:y≠x:=λe=>hj (wX hN e1 (e▸hi));show(if y=x then v else m y)=some u';rw[if_neg this];exact e
   ·exact .inr ⟨k,c,e,z.sameBut hs (cne y c e)⟩
 ·obtain⟨w',z⟩:=I.cell y c e;exact⟨w',z.sameBut hs (cne y c e)⟩
 ·obtain⟨e,n,ne,nf,d⟩:=I.pin p hp;exact⟨(hs.2 p.1 ne).trans e,n,ne,nf,d⟩
def oM (X:Cx) (e:af):Cx:={ X with A:=X.A.mark (some e),calm:=false,xe:=λ_ _=>False }
theorem FR (e:af) (I:Inv X pins σ H s):Inv (oM X e) pins σ H s:=
 have ok:=I.ok
 ⟨⟨ok.mod,ok.kind,ok.glob,ok.blt,ok.above,ok.inj,ok.has,ok.cab,λz=>(nomatch z),ok.frames,ok.stk,ok.exf,ok.bs,ok.bsz,ok.noex,ok.exfs,ok.funs,ok.frf⟩,I.os,I.bare,I.base,I.loc,I.cell,I.free,I.freeC,I.pin,I.hok,I.len⟩
theorem SG {e:af}(ok:X.Ok) (I:Inv (oM X e) pins σ H s):Inv X pins σ H s:=⟨ok,I.os,I.bare,I.base,I.loc,I.cell,I.free,I.freeC,I.pin,I.hok,I.len⟩
end
section
variable{X:Cx}{G:Cfg}{E:XK}{k:Nat}{N:List Str}{params:jz}{body:bj}{scope:gn}{me:M Dv}{ncl:Nat}{NE:ah}
theorem SH {x xn en nm:Str}{p cpos epos np xp ep apos hpos tpos:Pos}{pins:List (ah×Obj)}{σ:St}{H:Hp}{s:ag}{D:Ends}{f c':ah}{cl:List (Str×ah)}{μ:Nat->ah}{h:Hs}{ds:List Dv}
  (hK:X.K=G.K) (hst:X.stack=X.env::X.outer) (hfr:X.env.frame=some X.env.locals) (hnd:X.N.Nodup) (h0:X.N[0]?=some x) (h1:X.N[1]?=some xn) (h2:X.N[2]?=some en) (hfn:∀y,X.fn y=true)
  (l0:X.env.scope.names.lookup x=some .local) (l1:X.env.scope.names.lookup xn=some .local) (l2:X.env.scope.names.lookup en=some .local)
  (d0:(x==("__debug__" : Str))=false) (c0:(x==("__classdict__" : Str))=false) (d2:(en==("__debug__" : Str))=false) (c2:(en==("__classdict__" : Str))=false) (dn:(nm==("__debug__" : Str))=false)
  (hsw:swapsWith (.Call (.Name x p) [] [] cpos) none epos.line X.env=pure false) (hsw2:swapsWith (.Name en ep) (some (.Name xn xp)) apos.line X.env=pure false)
  (hg:Gl X nm) (hm:X.mg nm=some (.ref NE)) (hx1:jf X.K (.ref NE) (.type "BaseException")=some true) (hx2:jf X.K (.type "type") (.type "tuple")=some false) (hx3:tw X.K (.ref NE) (.ref NE)=some true)
  (hsub:∀c,c<ncl->jf X.K (.ref (G.cl c)) (.ref NE)=some true)
  (S:LamScope N scope) (hb:∀(cl:List (Str×ah)) (pm cdv ct:af),bindArgs (nh "<lambda>" G.lq params body scope cl pm cdv ct) ⟨[],[]⟩=pure [])
  (hbody:∀(f:ah) (cdv:af) (cl:List (Str×ah)) (A:cf) (outer:List Env) (s:ag) (H:Hp) (E₀ E:XK),Good (hO X.prog X.w X.K X.mg X.base N G.lq scope f cdv cl A outer s H E₀) G E k->aG (hO X.prog X.w X.K X.mg X.base N G.lq scope f cdv cl A outer s H E₀) G E body me)
  (hr:Room (k+1) X.A) (I:Inv X pins σ H s) (hσ:σ[0]?=some (some (.ref f))) (L:LamAt G X.base H μ h.length N params body scope f c' cl ds) (hall:∀x c,cl.lookup x=some c->x∈N) (sm:Sim G μ h H)
  (hD:match me (ds.map some) h with
   | .ok _ h1=>∀μ' H',Ext μ h.length H μ' h1.length H'->Sim G μ' h1 H'->D.nx σ H'
   | .ex c h1=>c<ncl/\∀μ' H' a,Ext μ h.length H μ' h1.length H'->Sim G μ' h1 H'->RelD G μ' h1.length H' (.exc c) (.ref a)->D.nx (((σ.set 2 (some (.ref a))).set 1 (some (.ref a))).set 2 none) H'
   | .bad=>False):
  wpAny (model X.prog X.w) X.A (exec (.Try [.Expr (.Call (.Name x p) [] [] cpos) epos] [.ExceptHandler (some (.Name nm np)) (some en) [.Assign [.Name xn xp] (.Name en ep) apos] hpos] [] [] tpos) X.env) (SP X pins D) X.xe s:=by
 have hcls:(X.env.scope.kind==.class||(X.env.scope.kind==.module&&X.env.locals != X.env.globals))=false:=by rw[I.ok.kind];rfl
 refine wpAny_Try_except ?_;obtain⟨pm,ctv,ho⟩:=L.ob;refine nc (wpAny_Expr_any (lg (aR (js (wZ (X:=X.nox) (pos:=p) h0 (.inl l0) d0 c0 pins s σ H (λv H'=>v=.ref f/\H'=H) (I.wish _) ⟨_,hσ,rfl,rfl⟩) (λ_ _ q=>q) λ_ _ z=>gb z) λu s1 ⟨v,H',I',r,e1,e2⟩=>?_)) I.quiet hsw);subst e1;subst e2;cases r;have I1:Inv X pins σ H' s1:=I'.unwish;refine PySem.W.callWith_F0 ⟨_,_,_,_,(I1.hok f _ ho).1⟩ ?_;refine yk (md (SE (E:=EB G μ h.length H' (FQ (me (ds.map some) h))) (Q:=λ_ H2=>∃d hh μ',me (ds.map some) h=.ok d hh/\Ext μ h.length H' μ' hh.length H2/\Sim G μ' hh H2) S hK hb hbody hr I1.env0 L hall sm ?_) λr s' hq=>?_)
 ·cases q:me (ds.map some) h with
  |ok d hh=>exact λμ' H' v x' s' _=>⟨d,hh,μ',rfl,x',s'⟩
  |bad=>rw[q]at hD;exact hD.elim
  |ex c1 h1=>exact λμ' H' u x' s' fl=>⟨c1,h1,μ',rfl,x',s',fl⟩
 cases r with
 |ok fl=>
  cases fl with
  |ret u=>obtain⟨v,H2,I2,r2,d,hh,μ',e1,x1,s1⟩:=I1.after hq;refine ku (ku ?_);rw[e1]at hD;exact⟨σ,H2,I2,hD μ' H2 x1 s1⟩
  |next=>exact gb hq
  |brk=>exact gb hq
  |cont=>exact gb hq
 |error ev=>
  obtain⟨e,C,H2,rfl,os,bare,un,hok,fl,c,hh,μ',er,x1,sm1,e',φ,eu,g1,g2⟩:=hq;cases eu
  cases qm:me (ds.map some) h with
  |ok d h3=>rw[qm]at er;cases er
  |bad=>rw[qm]at er;cases er
  |ex c3 h3=>
  rw[qm]at er hD;cases er;obtain⟨hc,hD⟩:=hD;have I2:Inv X pins σ H2 s':=I1.call' os un hok bare (λb z=>absurd z (by simp));refine yJ (P:=X.prog) (w:=X.w) (H:=H2) (base:=X.base) (env:=X.env) (outer:=X.outer) (by rw[<-hst];exact I2.ok.frames) (by rw[<-hst];exact I2.stack) hfr hok (by rw[<-hst];exact I2.stkFree) fl λh4 H4 un4 hok4 fl4 sx4=>?_;have I4:Inv X pins σ H4 { s' with heap:=h4 }:=I2.call (h':=h4) (g':=s'.gens) (d':=s'.drawn) (t':=s'.toks) (by rw[hst];exact un4) hok4 I2.bare (λb z=>absurd z (by simp));obtain⟨sm4,x4⟩:=sm1.sameX sx4 ⟨_,g1⟩;obtain⟨T,a0,w1,w2,w3,w4⟩:=id fl4;obtain⟨T0,b0,v1,_,_,_⟩:=id fl;have hC:C=.ref (G.cl c):=by have xo:cN C e T0 b0 s'.heap:=(show ObjOk X.prog X.w H2 s'.heap e _ from hok e _ v1).1;rw[v1]at g1;cases g1;obtain⟨oo,q1,q2⟩:=g2 _ xo;obtain⟨o2,vs2,q3,q4,_⟩:=xo;rw[q3]at q1;cases q1;rw[<-q4,q2]
  subst hC;have xo4:cN (.ref (G.cl c)) e T a0 h4:=(show ObjOk X.prog X.w H4 h4 e _ from hok4 e _ w1).1;obtain⟨oe,vs,y1,y2,y3,y4,y5,y6⟩:=id xo4;refine wpAny_handleBy_cons (codeAny_handlers_test (js (pK (X:=oM X (.ref e)) (E:=λ_ _=>False) (Q:=λu s5=>u=.ref NE/\Inv X pins σ H4 s5/\s5.heap=h4) (FR _ I4) hg hm ⟨rfl,I4,rfl⟩ dn) (λcv s5 hs5=>?_) λ_ _ z=>gb z)) (by intro z;cases z);obtain⟨rfl,I5,e5⟩:=hs5;refine R9 (K:=X.K) I5.kIn (by rw[e5];exact y1) y2 hx1 hx2 hx3 (hsub c hc) ?_;obtain⟨oT,ts,z1,z2,z3⟩:cV T h4:=(show ObjOk X.prog X.w H4 h4 T _ from hok4 T _ w2).1;have l3:3<ts.size:=(de.mp z3).1;refine codeAny_handlers_suite_as (E5 (e:=e) (T:=T) (by rw[e5];exact y1) y3 y5 (by rw[e5];exact z1) z2 l3 λh6 sb6 tb6=>?_);rw[e5]at sb6;have ge6:h6.get? e=some oe:=sb6.extBut _ _ (cz w4) y1;have I6:Inv X pins σ (aM H4 T (.ext (cV T))) { s5 with heap:=h6 }:=I5.write (x:=T) (e:=T) (o:=.ext (cV T)) (h':=h6) (t':=s5.toks) (by rw[w2];trivial) (.inl rfl) (λb u hb q=>by rw[e5]at q;exact sb6.extBut _ _ hb q) (let ⟨oo,_,q,_⟩:=tb6;⟨oo,q⟩) (tV tb6);have se:Same H4 (aM H4 T (.ext (cV T))):=λb o q=>by
   by_cases hb:b=T
   ·subst hb;rw[w2]at q;cases q;exact bX
   ·rw[aZ hb];exact q
  have w1':(aM H4 T (.ext (cV T))) e=some (.ext (cN (.ref (G.cl c)) e T a0)):=se _ _ w1;have I7:Inv X pins σ (aM (aM H4 T (.ext (cV T))) e (.frz oe (.own 0))) { s5 with heap:=h6 }:=I6.write (x:=e) (e:=e) (o:=.frz oe (.own 0)) (h':=h6) (t':=s5.toks) (by rw[w1'];trivial) (.inl rfl) (λb u hb q=>q) ⟨_,ge6⟩ ⟨ge6,oe,ge6⟩;have sx7:qI e (aM H4 T (.ext (cV T))) (aM (aM H4 T (.ext (cV T))) e (.frz oe (.own 0))):=λb o hb q=>by rw[aZ hb];exact q
  obtain⟨sm7,x7⟩:=(sm4.same se).sameX sx7 ⟨_,w1'⟩;have xx:Ext μ h.length H' μ' hh.length (aM (aM H4 T (.ext (cV T))) e (.frz oe (.own 0))):=x1.trans ((x4 _).trans ((Ext.same se).trans (x7 _)));generalize hH7:aM (aM H4 T (.ext (cV T))) e (.frz oe (.own 0))=H7 at *;have rl:RelD G μ' hh.length H7 (.exc c) (.ref e):=by rw[RelD,<-hH7];exact⟨e,oe,.own 0,rfl,bX,y2,y6,vs,y3⟩
  refine wY (v:=.ref e) I7 hnd h2 (.inl l2) rfl (λs8 I8=>?_) (.inr l2);have I8':Inv (oM X (.ref e)) pins (σ.set 2 (some (.ref e))) H7 s8:=FR _ I8;have hlen:2<σ.length:=by rw[I.len];exact(ax.mp h2).1
  refine js (CG (xD (X:=oM X (.ref e)) (i:=1) (pos:=apos) (pos':=xp) hnd h1 (.inl l1) (wZ (X:=oM X (.ref e)) (pos:=ep) h2 (.inl l2) d2 c2) hsw2 (.inr l1)) pins s8 (σ.set 2 (some (.ref e))) H7 { nx:=λσ' H'=>σ'=(σ.set 2 (some (.ref e))).set 1 (some (.ref e))/\H'=H7,rt:=λ_ _=>False } I8' ⟨.ref e,di hlen,rfl,rfl⟩) (λfl9 s9 hs9=>?_) λ_ _ z=>gb z
  cases fl9 with
  |ret u=>obtain⟨_,_,_,_,_,z⟩:=hs9;exact z.elim
  |brk=>obtain⟨_,_,_,z⟩:=hs9;exact z.elim
  |cont=>obtain⟨_,_,_,z⟩:=hs9;exact z.elim
  |next=>obtain⟨σ9,H9,I9,e9,f9⟩:=hs9;subst e9;subst f9;have I9':Inv X pins _ H9 s9:=SG I8.ok I9;obtain⟨m,hn,hl⟩:=id I9'.loc;refine wpAny_nameGoes_keeps l2 hn hcls λh10 v10 hn10 hs10=>?_;exact⟨_,H9,SF I9' hnd h2 hn hl hs10 hn10,hD μ' H9 e xx sm7 rl⟩
end
def qN:Sr->Rs Dv
 | .rt d h=>.ok d h
 | .nx _ h=>.ok .non h
 |_=>.bad
def lW (n:Nat) (d:Dv):Ev:=none::some d::uh (n - 2) none
def qO (n ncl:Nat) (mb:MS):Rs Dv->Rs Dv
 | .ok _ h1=>qN (mb (lW n .non) h1)
 | .ex c h1=>if c<ncl then qN (mb (lW n (.exc c)) h1)else .bad
 | .bad=>.bad
def uC (G:Cfg) (base:ck) (Nl:List Str) (params:jz) (body:bj) (scope:gn) (me:M Dv) (n ncl:Nat) (mb:MS):Sp:=λvs H Q E=>∃f c' cl ds μ h,vs=[.ref f]/\LamAt G base H μ h.length Nl params body scope f c' cl ds/\(∀x c,cl.lookup x=some c->x∈Nl)/\Sim G μ h H/\Out G E μ h.length H (qO n ncl mb (me (ds.map some) h)) (RelD G) Q
theorem FT {G:Cfg}{E:XK}{μ μ1:Nat->ah}{n n1:Nat}{H H1:Hp}{r:Sr}{Q:VK}(o:Out G E μ n H (qN r) (RelD G) Q) (x:Ext μ n H μ1 n1 H1):SOut G (λ_ _ _=>False) μ1 n1 H1 r { nx:=λ_ H'=>Q .non H',rt:=Q }:=by
 cases r with
 |nx ρ h'=>exact λμ' H' σ' y s _=>o μ' H' .non (x.trans y) s rfl
 |rt d h'=>exact λμ' H' v y s r=>o μ' H' v (x.trans y) s r
 |bk ρ h'=>exact o.elim
 |ct ρ h'=>exact o.elim
 |ex c h'=>exact o.elim
 |bad=>exact o
theorem FU {G:Cfg}{μ:Nat->ah}{n:Nat}{H:Hp}{m:Nat}{d:Dv}{v:V}{σ:St}(hl:σ.length=m) (hm:2<=m) (h1:σ[1]?=some (some v)) (r:RelD G μ n H d v):RelS G μ n H (lW m d) σ:=by
 refine⟨by simp[lW,hl];omega,λi d' e=>?_⟩;unfold lW at e
 match i,e with
 |0,e=>simp at e
 |1,e=>simp at e;subst e;exact⟨v,h1,r⟩
 |i+2,e=>
  simp only[p8,p7]at e
  split at e <;> cases e
section
variable{P:bf}{w:cg}{K:ao}{mg:Str->Option af}{base:ck}{f:ah}{G:Cfg}{k:Nat}{Nm Nl:List Str}{params:jz}{body:bj}{scope:gn}{me:M Dv}{ncl:Nat}{NE:ah}{mb:MS}
theorem SI {x xn en nm q qual:Str}{st:gy}{fd:bp}{p cpos epos np xp ep apos hpos tpos zpos zp npos:Pos}{j:Nat}{rest:List gy}(Fn:Fun K q qual st f fd) (S:FnScope Nm [x] (aT st)) (hK:K=G.K)
  (hdef:gU st=.Assign [.Name xn zp] (.Constant .none j npos) zpos::.Try [.Expr (.Call (.Name x p) [] [] cpos) epos] [.ExceptHandler (some (.Name nm np)) (some en) [.Assign [.Name xn xp] (.Name en ep) apos] hpos] [] [] tpos::rest)
  (h0:Nm[0]?=some x) (h1:Nm[1]?=some xn) (h2:Nm[2]?=some en)
  (l0:(aT st).names.lookup x=some .local) (l1:(aT st).names.lookup xn=some .local) (l2:(aT st).names.lookup en=some .local)
  (d0:(x==("__debug__" : Str))=false) (c0:(x==("__classdict__" : Str))=false) (d2:(en==("__debug__" : Str))=false) (c2:(en==("__classdict__" : Str))=false) (dn:(nm==("__debug__" : Str))=false)
  (hsw:∀L cd,swapsWith (.Call (.Name x p) [] [] cpos) none epos.line (envOfC qual (aT st) L f cd)=pure false) (hsw2:∀L cd,swapsWith (.Name en ep) (some (.Name xn xp)) apos.line (envOfC qual (aT st) L f cd)=pure false)
  (hsw3:∀L cd,swapsWith (.Constant .none j npos) (some (.Name xn zp)) zpos.line (envOfC qual (aT st) L f cd)=pure false)
  (hg:(aT st).names.lookup nm=some .globalImplicit) (hm:mg nm=some (.ref NE)) (hx1:jf K (.ref NE) (.type "BaseException")=some true) (hx2:jf K (.type "type") (.type "tuple")=some false) (hx3:tw K (.ref NE) (.ref NE)=some true)
  (hsub:∀c,c<ncl->jf K (.ref (G.cl c)) (.ref NE)=some true)
  (LS:LamScope Nl scope) (hb:∀(cl:List (Str×ah)) (pm cdv ct:af),bindArgs (nh "<lambda>" G.lq params body scope cl pm cdv ct) ⟨[],[]⟩=pure [])
  (hbody:∀(f:ah) (cdv:af) (cl:List (Str×ah)) (A:cf) (outer:List Env) (s:ag) (H:Hp) (E₀ E:XK),Good (hO P w K mg base Nl G.lq scope f cdv cl A outer s H E₀) G E k->aG (hO P w K mg base Nl G.lq scope f cdv cl A outer s H E₀) G E body me)
  (hrest:∀(cdv:af) (A:cf) (outer:List Env) (s:ag) (H:Hp) (E₀ E:XK),Good (eG (bE P w base) P w K mg base Nm qual (aT st) f cdv A outer s H E₀) G E (k+1)->hJ (eG (bE P w base) P w K mg base Nm qual (aT st) f cdv A outer s H E₀) G E rest mb):
  FnOk P w K mg base (bE P w base) (k+2) f fd [x] (uC G base Nl params body scope me Nm.length ncl mb):=by
 obtain⟨oc,od,kV,doc,pm,an,cdv,ct,osl,rfl,lk,hcd⟩:=Fn.ex;have hNl:2<Nm.length:=(ax.mp h2).1;refine xJ lk hcd S (λvs H Q E ⟨f,c',cl,ds,μ,h,e,_⟩=>by rw[e];rfl) λA outer s H vs Q E hr hsp=>?_;obtain⟨fl,c',cl,ds,μ,h,rfl,L,hall,sm,o⟩:=hsp;refine⟨λD σ H1=>σ=start Nm [.ref fl]/\H1=H/\D={ nx:=λ_ H'=>Q .non H',rt:=Q }, ?_,rfl,rfl,rfl⟩;intro pins s1 σ H1 D I ⟨eσ,eH,eD⟩;subst eH;have hσl:σ.length=Nm.length:=I.len;have hσ0:σ[0]?=some (some (.ref fl)):=by rw[eσ];rfl
 rw[hdef];have gd:Good (eG (bE P w base) P w K mg base Nm qual (aT st) f cdv A outer s H1 E) G (λ_ _ _=>False) (k+1):=yL hr hK (λ_ _ z=>z.elim) (λ_ _ _ _ _ z=>z);have hset:(σ.set 1 (some .non))[0]?=some (some (.ref fl)):=by rw[ed (by decide)];exact hσ0
 refine nc (aR (xD (X:=eG (bE P w base) P w K mg base Nm qual (aT st) f cdv A outer s H1 E) (i:=1) (pos:=zpos) (pos':=zp) S.nd h1 (.inl l1) (CD (j:=j) (pos:=npos)) (hsw3 _ _) (.inl rfl) pins s1 σ H1 { nx:=λσ' H'=>σ'=σ.set 1 (some .non)/\H'=H1,rt:=λ_ _=>False } I ⟨rfl,rfl⟩) λfl2 s2 q2=>?_)
 cases fl2 with
 |ret u=>obtain⟨_,_,_,_,_,z⟩:=q2;exact z.elim
 |brk=>obtain⟨_,_,_,z⟩:=q2;exact z.elim
 |cont=>obtain⟨_,_,_,z⟩:=q2;exact z.elim
 |next=>
  obtain⟨σ2,H2,I2,e2,f2⟩:=q2;subst e2;subst f2;refine nc (aR (SH (X:=eG (bE P w base) P w K mg base Nm qual (aT st) f cdv A outer s H2 E) (G:=G) (N:=Nl) (me:=me) (ncl:=ncl) (NE:=NE) (k:=k) (D:={ nx:=tP G (λ_ _ _=>False) mb D,rt:=λ_ _=>False })
   hK rfl rfl S.nd h0 h1 h2 (λ_=>rfl) l0 l1 l2 d0 c0 d2 c2 dn (hsw _ _) (hsw2 _ _) hg hm hx1 hx2 hx3 hsub LS hb hbody hr I2 hset L hall sm ?_) λfl3 s3 q3=>?_)
  ·cases qm:me (ds.map some) h with
   |bad=>rw[qm]at o;exact o
   |ok d hh=>rw[qm]at o;intro μ' H' x' s';refine⟨μ',lW Nm.length .non,hh,FU (v:=.non) (by rw[jr];exact hσl) (by omega) (di (by omega)) rfl,s', ?_⟩;rw[eD];exact FT o x'
   |ex c hh=>
    rw[qm]at o;unfold qO at o;dsimp only at o
    split at o
    ·rename_i hc;refine⟨hc,λμ' H' a x' s' r'=>?_⟩;refine⟨μ',lW Nm.length (.exc c),hh,FU (v:=.ref a) (by simp only[jr];exact hσl) (by omega) ?_ r',s', ?_⟩
     ·rw[ed (by decide),di (by simp only[jr];omega)]
     ·rw[eD];exact FT o x'
    ·exact o.elim
  ·cases fl3 with
   |ret u=>obtain⟨_,_,_,_,_,z⟩:=q3;exact z.elim
   |brk=>obtain⟨_,_,_,z⟩:=q3;exact z.elim
   |cont=>obtain⟨_,_,_,z⟩:=q3;exact z.elim
   |next=>obtain⟨σ3,H3,I3,q3⟩:=q3;exact hrest cdv A outer s H2 E _ gd hK pins s3 σ3 H3 D I3 q3
end
theorem SJ:∀(l:List af) (a b:Int) (t u:Tok) (c:af),rj l->rj (l++[.int a t,.int b u,c]):=by
 intro l a b t u c h
 fun_induction rj l with
 |case1=>trivial
 |case2 x t y u z rest ih=>exact ih h
 |case3 l h1 h2=>exact h.elim
theorem SK {pos:Pos}{cv c:af}{a b:Int}{t u:Tok}:∀(l:List af),rj l->codeAmong pos (l++[.int a t,.int b u,c])=some cv->codeAmong pos l=some cv∨cv=c:=by
 intro l h
 fun_induction rj l with
 |case1=>
  intro e;simp only[List.nil_append,codeAmong]at e
  split at e
  ·cases e;exact .inr rfl
  ·cases e
 |case2 x t y u z rest ih=>
  intro e;simp only[List.cons_append,codeAmong]at e ⊢
  split at e
  ·rename_i hc;rw[if_pos hc];exact .inl e
  ·rename_i hc;rw[if_neg hc];exact ih h e
 |case3 l h1 h2=>exact h.elim
def lA (mg:Str->Option af) (base:ck):Prop:=∃bm ob,mg "__builtins__" = some (.ref bm)/\bm≠builtinsNs/\base.get? bm=some ob/\ob.cls=.type "module"/\ob.dict=some builtinsNs/\ob.data=.plain
def FV (H H':Hp):Prop:=∀a o,(∀ps,o≠.tbl ps)->H a=some o->H' a=some o
section
variable{X:Cx}{G:Cfg}{params:jz}{body:bj}{scope:gn}{lpos:Pos}{c P:ah}
theorem SN (hdef:defaultsOf params X.env=([],[])) (hq:X.env.qual ++ "<lambda>" = G.lq) (hP:G.tab=some P) (hcode:X.env.code=.ref c) (hC:jv X.base c P) (hB:lA X.mg X.base)
  (hfree:∀x,(x,bu)∈scope.names->X.env.kindOf x=some .cell∨X.env.kindOf x=some .free):
  PE X (.Lambda params body scope lpos) (λσ H Q=>TabOk G H/\∀f c' pm ctv oc H1,FV H H1->TabOk G H1->H1 f=some (.frz (jl "<lambda>" G.lq params body scope (cD X.env scope.names []) pm c' ctv) (.own 0))->H1 c'=some (.frz oc (.own 0))->tG G.lq oc->Q (.ref f) H1):=by
 intro pins s σ H Q I ⟨hT,h⟩;obtain⟨ps,t1,t2,t3⟩:=hT P hP;have gP:s.heap.get? P=some (q5 ps):=I.hok P _ t1;have hcl:closureFor scope X.env=pure (cD X.env scope.names []):=DY λx hx=>I.ok.has x (hfree x hx);have hgs:s.heap.Ns cw X.mg:=I.mod.glob.keeps I.bk;obtain⟨bm,ob,b1,b2,b3,b4,b5,b6⟩:=hB;have b3':=I.bk _ _ b3;have hgP:cw≠P:=λq=>by obtain⟨o,es,ep,e,hd,_⟩:=hgs;rw[q,gP]at e;cases e;cases hd
 have hbP:bm≠P:=λq=>by rw[q,gP]at b3';cases b3';cases b4
 have hbG:bm≠cw:=λq=>by obtain⟨o,es,ep,e,hd,_⟩:=hgs;rw[<-q,b3']at e;cases e;rw[hd]at b6;cases b6
 have hba:s.heap.BuiltinsAt X.mg P:=⟨bm,ob,b1,b2,hbG,hbP,b3',b4,b5,b6⟩
 refine PySem.W.kla_eval hdef ?_;rw[hq]
 cases hc:codeAmong lpos ps.toList with
 |some cv=>obtain⟨c',oc,ec,h2,h3⟩:=t3 lpos cv hc;subst ec;refine PySem.W.kla_makeFunctionHit (mg:=X.mg) hcl I.ok.glob hgs hcode (hC.keeps I.bk) gP t2 hc hba λctv h' tk hk hsz=>?_;have hn:H h'.objs.size=none:=I.hok.fresh hsz;have kk:∀b u,s.heap.get? b=some u->(h'.push { cls:=.type "function",data:=.func (nh "<lambda>" G.lq params body scope (cD X.env scope.names []) ((X.mg "__name__").getD .none) (.ref c') ctv) }).get? b=some u:=λb u q=>aj _ (hk b u q);have gf:=ay h' (o:=jl "<lambda>" G.lq params body scope (cD X.env scope.names []) ((X.mg "__name__").getD .none) c' ctv) rfl;have I1:=I.laid (a:=h'.objs.size) (o:=.frz (jl "<lambda>" G.lq params body scope (cD X.env scope.names []) ((X.mg "__name__").getD .none) c' ctv) (.own 0)) (t':=tk) kk hsz ⟨gf,_,gf⟩;have sm:Same H (aM H h'.objs.size (.frz (jl "<lambda>" G.lq params body scope (cD X.env scope.names []) ((X.mg "__name__").getD .none) c' ctv) (.own 0))):=bU hn;exact⟨.ref h'.objs.size,_,I1,rfl,h _ c' _ ctv oc _ (λa o _ q=>sm a o q) (hT.keep λa o _ _ q=>sm a o q) bX (sm _ _ h2) h3⟩
 |none=>
  refine PySem.W.kla_makeFunction (mg:=X.mg) hcl I.ok.glob hgs hcode (hC.keeps I.bk) gP t2 hc hgP hba λc' ctv h' tk hx hge hlt hrec htb=>?_;obtain⟨c₂,oc,vs,t,e2,hoc,hd,hv⟩:=hrec;cases e2;generalize hfo:jl "<lambda>" G.lq params body scope (cD X.env scope.names []) ((X.mg "__name__").getD .none) c' ctv=fo;have nfo:fo.isFreed=false:=by rw[<-hfo];rfl
  have gf:(h'.push fo).get? h'.objs.size=some fo:=ay h' nfo;have goc:(h'.push fo).get? c'=some oc:=aj _ hoc;have gP':=aj fo htb;generalize hps:ps++#[rawInt lpos.line,rawInt lpos.col,.ref c']=ps' at gP';have lP:P<s.heap.objs.size:=au gP;have kk:∀b u,b≠P->s.heap.get? b=some u->(h'.push fo).get? b=some u:=λb u hb q=>aj _ (hx b u hb q);have lt0:∀b u,s.heap.get? b=some u->b<s.heap.objs.size:=λb u q=>au q;have nPc:P≠c':=bc (av lP hge);have nPf:P≠h'.objs.size:=bc (av lP (dm hge (gp hlt)));have ncf:c'≠h'.objs.size:=bc hlt;have lH:∀b o,H b=some o->b<s.heap.objs.size:=λb o q=>I.hok.lt q;have H1e:∀b,b≠P->b<s.heap.objs.size->aM (aM (aM H P (.tbl ps')) c' (.frz oc (.own 0))) h'.objs.size (.frz fo (.own 0)) b=H b:=λb h1 h2=>by rw[aZ (bc (av h2 (dm hge (gp hlt)))),aZ (bc (av h2 hge)),aZ h1]
  have eP:aM (aM (aM H P (.tbl ps')) c' (.frz oc (.own 0))) h'.objs.size (.frz fo (.own 0)) P=some (.tbl ps'):=by rw[aZ nPf,aZ nPc,bX]
  have ec:aM (aM (aM H P (.tbl ps')) c' (.frz oc (.own 0))) h'.objs.size (.frz fo (.own 0)) c'=some (.frz oc (.own 0)):=by rw[aZ ncf,bX]
  have ef:aM (aM (aM H P (.tbl ps')) c' (.frz oc (.own 0))) h'.objs.size (.frz fo (.own 0)) h'.objs.size=some (.frz fo (.own 0)):=bX;have cases1:∀b o,aM (aM (aM H P (.tbl ps')) c' (.frz oc (.own 0))) h'.objs.size (.frz fo (.own 0)) b=some o->(b=h'.objs.size/\o=.frz fo (.own 0))∨(b=c'/\o=.frz oc (.own 0))∨(b=P/\o=.tbl ps')∨(b≠P/\H b=some o):=λb o q=>by
   by_cases q1:b=h'.objs.size
   ·subst q1;rw[bX]at q;cases q;exact .inl ⟨rfl,rfl⟩
   rw[aZ q1]at q
   by_cases q2:b=c'
   ·subst q2;rw[bX]at q;cases q;exact .inr (.inl ⟨rfl,rfl⟩)
   rw[aZ q2]at q
   by_cases q3:b=P
   ·subst q3;rw[bX]at q;cases q;exact .inr (.inr (.inl ⟨rfl,rfl⟩))
   rw[aZ q3]at q;exact .inr (.inr (.inr ⟨q3,q⟩))
  generalize aM (aM (aM H P (.tbl ps')) c' (.frz oc (.own 0))) h'.objs.size (.frz fo (.own 0))=H1 at *;have keepO:∀b o,(∀ps,o≠.tbl ps)->H b=some o->H1 b=some o:=λb o hn q=>by rw[H1e b (λz=>by subst z;rw[t1]at q;cases q;exact hn _ rfl) (lH b o q)];exact q
  have un:Un X.fs [] H H1 s.heap (h'.push fo):=by
   have nP:∀b,H b=none->b≠P:=λb n z=>by subst z;rw[t1]at n;cases n
   refine⟨λb o q n _ _=>kk b o (nP b n) q,λb o q n _ _=>⟨o.slots,kk b o (nP b n) q⟩,λb o q n _=>by rw[H1e b (nP b n) (lt0 b o q)];exact n,λb o q _=>?_,λb xs q=>keepO b _ (λ_ z=>by cases z) q,λb o u q=>keepO b _ (λ_ z=>by cases z) q,λb qs q=>?_⟩
   ·by_cases hb:b=P
    ·subst hb;exact⟨_,gP'⟩
    ·exact⟨_,kk b o hb q⟩
   ·by_cases hb:b=P
    ·subst hb;rw[t1]at q;cases q;exact⟨#[rawInt lpos.line,rawInt lpos.col,.ref c'],by rw[eP,hps]⟩
    ·exact⟨#[],by rw[H1e b hb (lH b _ q),q];simp⟩
  have hok1:HOk X.prog X.w H1 (h'.push fo):=λb o q=>by
   rcases cases1 b o q with⟨rfl,rfl⟩|⟨rfl,rfl⟩|⟨rfl,rfl⟩|⟨hb,q⟩
   ·exact⟨gf,_,gf⟩
   ·exact⟨goc,_,goc⟩
   ·exact gP'
   ·refine(I.hok b o q).stay (λb2 u hb2 z=>kk b2 u ?_ z) (λb2 z=>keepO b2 _ (λ_ z=>by cases z) z) λb2 xs z=>keepO b2 _ (λ_ z=>by cases z) z
    rcases hb2 with rfl|hb2
    ·exact hb
    ·rintro rfl;rw[t1]at hb2;cases hb2
  have I1:Inv X pins σ H1 { s with heap:=h'.push fo,toks:=tk }:=I.un un hok1;refine⟨.ref h'.objs.size,H1,I1,rfl,h h'.objs.size c' ((X.mg "__name__").getD .none) ctv oc H1 keepO ?_ (by rw[hfo];exact ef) ec ⟨vs,t,hd,hv⟩⟩;intro P' eP';rw[hP]at eP';cases eP';have hl:ps'.toList=ps.toList++[rawInt lpos.line,rawInt lpos.col,.ref c']:=by rw[<-hps];simp
  refine⟨ps',eP,by rw[hl];exact SJ _ _ _ _ _ _ t2,λpos cv q=>?_⟩;rw[hl]at q
  rcases SK _ t2 q with q|q
  ·obtain⟨a,oa,z1,z2,z3⟩:=t3 pos cv q;exact⟨a,oa,z1,keepO a _ (λ_ z=>by cases z) z2,z3⟩
  ·exact⟨c',oc,q,ec,vs,t,hd,hv⟩
end
def nC:List Nat->Ev->Option (List Dv)
 | [],_=>some []
 |i::r,ρ=>match ρ[i]? with
  |some (some d)=>(match nC r ρ with
   |some ds=>some (d::ds)
   |none=>none)
  |_=>none
theorem FW {ρ:Ev}:∀{caps:List Nat}{ds:List Dv},nC caps ρ=some ds->ds.length=caps.length/\∀(i:Nat) (d:Dv),ds[i]?=some d->∃j,caps[i]?=some j/\ρ[j]?=some (some d)
 | [],ds,e=>by unfold nC at e;cases e;exact⟨rfl,λi d e=>by simp at e⟩
 |j::r,ds,e=>by
  unfold nC at e
  split at e
  ·rename_i d0 h0
   split at e
   ·rename_i ds0 h1;cases e;obtain⟨l,k⟩:=FW h1;refine⟨by simp[l],λi d q=>?_⟩
    cases i with
    |zero=>simp at q;subst q;exact⟨j,rfl,h0⟩
    |succ i=>exact k i d (by simpa using q)
   ·cases e
  ·cases e
def lX (caps:List Nat) (n ncl:Nat) (mb:MS) (me:M Dv):M Dv:=λρ h=>match nC caps ρ with
 |some ds=>qO n ncl mb (me (ds.map some) h)
 |none=>.bad
def hV (base h:ck) (cs:List ah):ck:=PySem.W.hideAll h ((bo h.objs.size).filter λb=>!((base.get? b).isSome||cs.contains b))
theorem yS {base h:ck}{cs:List ah}{b:ah}{o:Obj}(e:h.get? b=some o) (hb:(∃u,base.get? b=some u)∨b∈cs):(hV base h cs).get? b=some o:=
 yd _ e λz=>by
  have:=(my.mp z).2
  rcases hb with⟨u,hb⟩|hb
  ·simp[hb]at this
  ·simp[hb]at this
theorem FX {base h:ck}{cs:List ah}{b:ah}{o:Obj}(e:(hV base h cs).get? b=some o):h.get? b=some o/\((∃u,base.get? b=some u)∨b∈cs):=by
 have e1:=yi _ e;refine⟨e1, ?_⟩
 by_cases hb:(∃u,base.get? b=some u)∨b∈cs
 ·exact hb
 ·exfalso
  have hm:b∈(bo h.objs.size).filter λb=>!((base.get? b).isSome||cs.contains b):=by
   refine my.mpr ⟨bx.mpr (au e1), ?_⟩
   cases q:base.get? b with
   |some u=>exact absurd (.inl ⟨u,q⟩) hb
   |none=>have:b∉cs:=λz=>hb (.inr z);simp[this]
  have:=ya (h:=h) _ hm;unfold hV at e;rw[this]at e;cases e
theorem Out.ext {α β:Type}{G:Cfg}{E:XK}{μ μ1:Nat->ah}{n n1:Nat}{H H1:Hp}{r:Rs α}{R:(Nat->ah)->Nat->Hp->α->β->Prop}{Q:β->Hp->Prop}(o:Out G E μ n H r R Q) (x:Ext μ n H μ1 n1 H1):Out G E μ1 n1 H1 r R Q:=by
 cases r with
 |bad=>exact o
 |ex c h'=>exact λμ' H' u y=>o μ' H' u (x.trans y)
 |ok d h'=>exact λμ' H' u y=>o μ' H' u (x.trans y)
theorem FY {env:Env}{scope:gn}{x:Str}{c:ah}(hf:∀x,(x,bu)∈scope.names->∃c,env.cells.lookup x=some c) (e:(cD env scope.names []).lookup x=some c):(x,bu)∈scope.names/\env.cells.lookup x=some c:=by
 rcases sY _ _ e with q|⟨q1,q2⟩
 ·cases q
 ·obtain⟨c',h'⟩:=hf x q1;rw[h']at q2;subst q2;exact⟨q1,h'⟩
section
variable{X:Cx}{G:Cfg}{E:XK}{k:Nat}{q x:Str}{p pos lpos:Pos}{params:jz}{body:bj}{scope:gn}{c P fr:ah}{fdr:bp}{Nl:List Str}{me:M Dv}{n ncl j:Nat}{mb:MS}{caps:List Nat}
theorem SO (g:Good X G E k) (hj:j<=k) (hfn:∀y,X.fn y=true)
  (F:∀base,X.K.In base->base.Ns cw X.mg->FnOk X.prog X.w X.K X.mg base (bE X.prog X.w base) j fr fdr [x] (uC G base Nl params body scope me n ncl mb))
  (hg:Gl X q) (hm:X.mg q=some (.ref fr)) (hk:jt X.K (.ref fr)=true) (hb:Binds X.K fdr [x] [])
  (hdef:defaultsOf params X.env=([],[])) (hq:X.env.qual ++ "<lambda>" = G.lq) (hP:G.tab=some P) (hcode:X.env.code=.ref c) (hC:jv X.base c P) (hB:lA X.mg X.base)
  (LS:LamScope Nl scope) (hkind:∀y∈Nl,X.env.scope.names.lookup y=some .cell) (hcl:caps.length=Nl.length) (hcap:∀(i j:Nat) (y:Str),caps[i]?=some j->Nl[i]?=some y->X.N[j]?=some y)
  (hdb:(q==("__debug__" : Str))=false) (he:aq [.Lambda params body scope lpos] X.env=[(false,eval (.Lambda params body scope lpos) X.env)]:=by rfl):
  aG X G E (.Call (.Name q p) [.Lambda params body scope lpos] [] pos) (lX caps n ncl mb me):=by
 intro hK pins s σ H Q I ⟨μ,ρ,h,rs,sm,o⟩;unfold lX at o
 cases hcd:nC caps ρ with
 |none=>rw[hcd]at o;exact o.elim
 |some ds=>
 rw[hcd]at o;obtain⟨hdl,hdg⟩:=FW hcd;have hfree:∀y,(y,bu)∈scope.names->X.env.kindOf y=some .cell∨X.env.kindOf y=some .free:=λy hy=>.inl (hkind y (LS.all _ hy rfl));have hfc:∀y,(y,bu)∈scope.names->∃c,X.env.cells.lookup y=some c:=λy hy=>I.ok.has y (hfree y hy);refine lg (pK I hg hm ?_ hdb);refine ym (h₀:=X.base) I.ok.mod.kin hk (aR (fK (SN (G:=G) (lpos:=lpos) (body:=body) hdef hq hP hcode hC hB hfree) gJ he pos pins s σ H
  (λvs H1=>∃f c' pm ctv oc,vs=[.ref f]/\FV H H1/\TabOk G H1/\H1 f=some (.frz (jl "<lambda>" G.lq params body scope (cD X.env scope.names []) pm c' ctv) (.own 0))/\H1 c'=some (.frz oc (.own 0))/\tG G.lq oc) I
  ⟨sm.tab,λf c' pm ctv oc H1 st tb e1 e2 e3=>⟨f,c',pm,ctv,oc,rfl,st,tb,e1,e2,e3⟩⟩) λus s1 ⟨vs,H1,I1,r,f,c',pm,ctv,oc,ev,st,tb,e1,e2,e3⟩=>⟨I1.kIn, ?_⟩) he rfl
 subst ev;generalize hcs:cD X.env scope.names []=cl at *;have kb:∀b u,X.base.get? b=some u->(hV X.base s1.heap (cl.map (·.2))).get? b=some u:=λb u e=>yS (I1.bk _ _ e) (.inl ⟨u,e⟩);have clc:∀y cc,(y,cc)∈cl->cl.lookup y=some cc->X.env.cells.lookup y=some cc:=λy cc _ e=>(FY hfc (by rw[hcs];exact e)).2;have memc:∀b,b∈cl.map (·.2)->∃y,X.env.cells.lookup y=some b:=λb hb=>by
  obtain⟨⟨y,cc⟩,hm1,rfl⟩:=dg.mp hb;have:∀(l:List (Str×jn)) (acc:List (Str×ah)),(∀y cc,(y,cc)∈acc->X.env.cells.lookup y=some cc)->(∀y,(y,bu)∈l->∃c,X.env.cells.lookup y=some c)->∀y cc,(y,cc)∈cD X.env l acc->X.env.cells.lookup y=some cc:=by
   intro l
   induction l with
   |nil=>exact λacc h1 _=>h1
   |cons a l ih=>
    obtain⟨y0,k0⟩:=a;intro acc h1 h2;rw[cD];refine ih _ (λy cc hm2=>?_) λy hy=>h2 y (aw _ hy)
    cases hk0:k0==bu with
    |true=>
     rw[hk0,if_pos rfl]at hm2
     rcases bg.mp hm2 with z|z
     ·cases z;have ek:k0=.free:=by cases k0 <;> first|rfl|cases hk0
      subst ek;obtain⟨c3,h3⟩:=h2 y0 (ba ..);rw[h3];rfl
     ·exact h1 _ _ z
    |false=>rw[hk0,if_neg (by simp)]at hm2;exact h1 _ _ hm2
  exact⟨y,this scope.names [] (λ_ _ z=>by cases z) hfc y cc (by rw[hcs];exact hm1)⟩
 have M0:=I1.ok.mod;have nsk:∀{a:ah}{m:Str->Option af},X.base.Ns a m->(hV X.base s1.heap (cl.map (·.2))).Ns a m:=λhn=>hn.keeps kb;have hM:Mod X.K X.mg (hV X.base s1.heap (cl.map (·.2))):=⟨M0.kin.keeps kb,nsk M0.glob,(let ⟨mb,a,b⟩:=M0.blt;⟨mb,nsk a,b⟩),M0.nolimit.keeps kb⟩
 have hbs:∀b u,(hV X.base s1.heap (cl.map (·.2))).get? b=some u->s1.heap.get? b=some u/\H1 b=none:=λb u e=>by
  obtain⟨g1,g2⟩:=FX e;refine⟨g1, ?_⟩
  rcases g2 with⟨u',g2⟩|g2
  ·exact(I1.bs _ _ g2).2
  ·obtain⟨y,hy⟩:=memc b g2;exact I1.freeC y b hy
 have nbf:∀b∈cM X.stack,(hV X.base s1.heap (cl.map (·.2))).get? b=none:=λb hb=>by
  cases qq:(hV X.base s1.heap (cl.map (·.2))).get? b with
  |none=>rfl
  |some u=>
   exfalso
   obtain⟨g1,g2⟩:=FX qq
   rcases g2 with⟨u',g2⟩|g2
   ·have:=(I1.stack.mem hb).1;rw[this]at g2;cases g2
   ·obtain⟨y,hy⟩:=memc b g2
    rcases bg.mp (I1.stkSub b hb)with z|z
    ·exact I1.cne y b hy z
    ·obtain⟨v0,ob,ho1,hd1⟩:=I1.cell y b hy;have fm:∀z∈X.fs,z<X.s₀.heap.objs.size:=λz hz=>by obtain⟨_,o2,h2,_⟩:=I1.ok.funs.mem hz;exact au h2
     exact absurd (av (fm b z) (I1.ok.cab y b (hfn y) hy)) (fq _)
 have hfun:s1.heap.FunFrames (hV X.base s1.heap (cl.map (·.2))) X.stack:=by
  have all:∀(l:List Env),(∀b∈cM l,b∈cM X.stack)->s1.heap.FunFrames X.base l->s1.heap.FunFrames (hV X.base s1.heap (cl.map (·.2))) l:=by
   intro l
   induction l with
   |nil=>intro _ _;trivial
   |cons env r ih=>
    intro hs hl;obtain⟨hk',⟨L,o',hf',hn',ho',hd'⟩,hr'⟩:=hl;have hL:L∈cM (env::r):=by unfold cM;rw[bz,hf'];exact ba
    exact⟨hk',⟨L,o',hf',nbf L (hs L hL),ho',hd'⟩,ih (λb hb=>hs b (by unfold cM;rw[bz,hf'];exact aw _ hb)) hr'⟩
  exact all X.stack (λ_ hb=>hb) I1.stack
 have e0:Env0 X.prog X.w X.K X.mg (hV X.base s1.heap (cl.map (·.2))) X.A X.stack s1 H1:=⟨I1.ok.frames,hM,hbs,lh (y9 _ _),hfun,I1.stkFree,I1.hok,I1.bare⟩
 have xt:Ext μ h.length H μ h.length H1:=⟨ak _,λ_ _=>rfl,λa u im z=>st a u (λps w=>by subst w;exact im) z⟩
 have sm1:Sim G μ h H1:=⟨sm.inj,λi ob z=>by
  have r0:=sm.ob i ob z
  cases ob with
  |lst xs=>obtain⟨vs,z1,z2⟩:=r0;exact⟨vs,st _ _ (λ_ w=>by cases w) z1,RelDL.mono xt _ _ z2⟩,tb⟩
 have look:∀y cc,cl.lookup y=some cc->(y,bu)∈scope.names/\X.env.cells.lookup y=some cc:=λy cc e=>FY hfc (by rw[hcs];exact e);have memL:∀y cc,cl.lookup y=some cc->cc∈cl.map (·.2):=λy cc e=>dg.mpr ⟨(y,cc),dw e,rfl⟩;have L:LamAt G (hV X.base s1.heap (cl.map (·.2))) H1 μ h.length Nl params body scope f c' cl ds:=by
  refine⟨⟨pm,ctv,e1⟩,⟨oc,e2,e3⟩,λy z cc a b=>I1.ok.inj y z cc (look y cc a).2 (look z cc b).2,hdl.trans hcl,λi y hy=>?_,λy cc e=>?_,λi y cc d hy hd e=>?_⟩
  ·have hf1:=LS.fr y (br hy);have:=pQ (env:=X.env) (x:=y) scope.names [] (.inl (dw hf1));rw[hcs]at this;exact⟨_,this⟩
  ·obtain⟨v0,ob,ho1,hd1⟩:=I1.cell y cc (look y cc e).2;exact⟨ob,v0,yS ho1 (.inr (memL y cc e)),hd1⟩
  ·obtain⟨jj,hjj,hρ⟩:=hdg i d hd;obtain⟨v,hv,rd⟩:=rs.at_ jj d hρ;have hNj:=hcap i jj y hjj hy;have hyk:=hkind y (br hy);obtain⟨m,hn,hl⟩:=I1.loc;obtain⟨u,ru,lk⟩:=hl jj y v hNj hv (.inr (.inl hyk))
   rcases lk with⟨kl,_⟩|⟨_,c4,ec4,ob,ho1,hd1⟩
   ·have kl':X.env.scope.names.lookup y=some .local:=kl;rw[hyk]at kl';cases kl'
   ·rw[(look y cc e).2]at ec4;cases ec4;exact⟨ob,u,v,yS ho1 (.inr (memL y cc e)),hd1,ru,RelD.mono xt _ _ rd⟩
 have hall:∀y cc,cl.lookup y=some cc->y∈Nl:=λy cc e=>LS.all _ (look y cc e).1 rfl;have hlen:(us++([]:List af)).length=[x].length:=by rw[kj,<-r.length];rfl
 have hbt:=hb s1 us I1.kIn hlen;rw[kj]at hbt;refine yk (md ((F _ hM.kin hM.glob).run X.A X.stack s1 H1 ⟨us,[]⟩ us [.ref f] Q E (g.room.mono hj) e0 hbt r ⟨f,c',cl,ds,μ,h,rfl,L,hall,sm1,o.ext xt⟩) λrr s' hq'=>?_)
 cases rr with
 |ok fl=>
  cases fl with
  |ret u=>exact I1.after hq'
  |next=>exact gb hq'
  |brk=>exact gb hq'
  |cont=>exact gb hq'
 |error ev=>
  obtain⟨e,C,H',eu,os,bare,un,hok,fl,hE⟩:=hq';refine g.pas pins σ H1 s1 ev s' I1 ⟨e,C,H',eu,os,bare,un,hok, ?_,hE⟩;obtain⟨T,a0,w1,w2,w3,w4⟩:=fl;refine⟨T,a0,w1,w2, ?_,w4⟩
  cases qq:X.base.get? e with
  |none=>rfl
  |some u=>have:=kb e u qq;rw[w3]at this;cases this
end
section
variable{X:Cx}{G:Cfg}
open Classical in
noncomputable def eJ (H:Hp) (tx:Dt) (u:af):Bool:=decide (∃v t,RelV v u/\Den iI H t v/\bA t tx=true)
open Classical in
theorem FZ {H:Hp}{tx t:Dt}{u:af}{v:V}(r:RelV v u) (d:Den iI H t v):eJ H tx u=bA t tx:=by
 unfold eJ
 cases q:bA t tx with
 |true=>exact decide_eq_true ⟨v,t,r,d,q⟩
 |false=>refine decide_eq_false λ⟨v',t',r',d',q'⟩=>?_;have e:=r'.inj r;subst e;rw[Den.inj t' t v' d' d,q]at q';cases q'
theorem yT {H:Hp}{tx:Dt}:∀{ts:List Dt}{vs:List V}{us:List af},DenL iI H ts vs->Vals vs us->us.any (eJ H tx)=ts.any λt=>bA t tx
 | [],_,_,d,r=>by rw[DenL]at d;subst d;cases r;rfl
 |t::ts,_,_,d,r=>by
  rw[DenL]at d;obtain⟨v,rr,rfl,d1,d2⟩:=d
  cases r with
  |cons r1 r2=>rw[List.any_cons,List.any_cons,FZ r1 d1,yT d2 r2]
def yU (K:ao) (neg:Bool):R2:=λx y H Q=>∃a vs ts tx,y=.ref a/\(SqL K H a vs∨SqT K H a vs)/\DenL iI H ts vs/\Den iI H tx x/\(∀t∈ts,dX t<=bR/\nod t=true)/\nod tx=true/\Q (.bl (if neg then !(ts.any λt=>bA t tx)else ts.any λt=>bA t tx)) H
theorem F0 {pins:List (ah×Obj)}{σ:St}{H:Hp}{s:ag}{x:V}{v:af}{vs:List V}{its:List af}{ts:List Dt}{tx:Dt}(hu:X.A.units+64<cLine) (I:Inv X pins σ H s) (rx:RelV x v) (r:Vals vs its) (d:DenL iI H ts vs) (dx:Den iI H tx x)
  (ht:∀t∈ts,dX t<=bR/\nod t=true) (nx:nod tx=true):∀y,y∈its.toArray->qt X.A.in1 s y v (eJ H tx y):=λy hy=>by
 have hy':y∈its:=by simpa using hy
 obtain⟨j,hj,e⟩:=qh.mp hy';have hl:=r.length;obtain⟨u,eu,ru⟩:=r.get (i:=j) (x:=vs[j]'(by omega)) (az (by omega));have:u=y:=by rw[az hj,e]at eu;cases eu;rfl
 subst this;obtain⟨t,et,dt⟩:=d.get (i:=j) (az (by omega:j<vs.length));obtain⟨h1,h2⟩:=ht t (br et);rw[FZ ru dt];exact(xX I.hok bR X.A.in1 t tx _ x _ v h1 (by show X.A.units+1+bR+1<cLine;unfold bR;omega) h2 nx dt dx ru rx).2
theorem SQ (hu:X.A.units+64<cLine):OpR X (compareOp .In) (yU X.K false):=by
 intro pins s σ H x y v u Q I r1 r2 ⟨a,vs,ts,tx,e,hs,d,dx,ht,nx,q⟩;subst e;cases r2
 rcases hs with hs|hs
 ·obtain⟨its,r,pl,hz⟩:=I.list hs;refine SeqAt.in_listAt (eJ H tx) pl.isList (F0 hu I r1 r d dx ht nx) ?_;exact⟨.bl _,H,I,by rw[show its.toArray.any (eJ H tx)=its.any (eJ H tx)by simp,yT d r];rfl,q⟩
 ·obtain⟨its,r,pl,hz⟩:=I.tuple hs;refine SeqAt.in_tupleAt (eJ H tx) pl (F0 hu I r1 r d dx ht nx) ?_;exact⟨.bl _,H,I,by rw[show its.toArray.any (eJ H tx)=its.any (eJ H tx)by simp,yT d r];rfl,q⟩
def oO (scr:List Int) (neg:Bool) (x c:Dv) (h:Hs):Rs Dv:=match fY scr c h with
 |some ys=>match bB (bK bR h) ys,bK bR h x with
  |some ts,some tx=>.ok (.bl (if neg then !(ts.any λt=>bA t tx)else ts.any λt=>bA t tx)) h
  |_,_=>.bad
 |none=>.bad
theorem F1 {μ:Nat->ah}{h:Hs}{H:Hp}(s:Sim G μ h H):∀{xs:List Dv}{vs:List V}{ts:List Dt},RelDL G μ h.length H xs vs->bB (bK bR h) xs=some ts->DenL iI H ts vs/\∀t∈ts,dX t<=bR/\nod t=true
 | [],_,_,r,e=>by cases e;rw[RelDL]at r;subst r;exact⟨DenL.nil,λt ht=>by simp at ht⟩
 |x::xs,_,_,r,e=>by
  rw[RelDL]at r;obtain⟨v,rr,rfl,r1,r2⟩:=r;unfold bB at e
  cases q:bK bR h x with
  |none=>rw[q]at e;cases e
  |some y=>
   rw[q]at e;dsimp only at e
   cases q2:bB (bK bR h) xs with
   |none=>rw[q2]at e;cases e
   |some ys=>
    rw[q2]at e;cases e;obtain⟨a1,a2,a3⟩:=oG s _ x v y r1 q;obtain⟨b1,b2⟩:=F1 s r2 q2;refine⟨DenL.cons a1 b1,λt ht=>?_⟩
    rcases bg.mp ht with rfl|ht
    ·exact⟨a2,a3⟩
    ·exact b2 t ht
theorem SS (neg:Bool):dO G (yU G.K neg) (oO G.scr neg):=by
 intro E μ h H x y vx vy Q s rx ry o;unfold oO at o
 cases q:fY G.scr y h with
 |none=>rw[q]at o;exact o.elim
 |some ys=>
  rw[q]at o;dsimp only at o
  split at o
  ·rename_i ts tx e1 e2;obtain⟨a,vs,rfl,hs,r⟩:=yD s ry q;obtain⟨b1,b2⟩:=F1 s r e1;obtain⟨c1,c2,c3⟩:=oG s _ x vx tx rx e2;exact⟨a,vs,ts,tx,rfl,hs,b1,c1,b2,c3,o.val s rfl⟩
  ·exact o.elim
end
section
variable{X:Cx}{G:Cfg}
end
def gF (c:M Bool) (body:MS):Nat->MS
 |0=>λ_ _=>.bad
 |f+1=>λρ h=>(c ρ h).thenS λb h1=>if b=true then(match body ρ h1 with
  | .nx ρ2 h2=>gF c body f ρ2 h2
  | .ct ρ2 h2=>gF c body f ρ2 h2
  | .bk ρ2 h2=>.nx ρ2 h2
  |r=>r)else .nx ρ h1
section
variable{X:Cx}{G:Cfg}{E:XK}{c:bj}{body:List gy}{mc:M Bool}{mb:MS}{pos:Pos}
theorem F2 (n:Nat) (hp:vj (model X.prog X.w) X.A X.env X.xe) (hc:gK X G E c mc) (hb:hJ X G E body mb):gZ X G E (.While c body [] pos) (gF mc mb n):=λhK=>PS.imp (MQ hp (hc hK) (hb hK)) λD σ H ⟨μ,ρ,h,rs,s,o⟩=>by
 refine⟨λm σ H=>∃μ ρ h,RelS G μ h.length H ρ σ/\Sim G μ h H/\SOut G E μ h.length H (gF mc mb m ρ h) D,⟨n,μ,ρ,h,rs,s,o⟩, ?_⟩
 rintro m σ1 H1 ⟨μ1,ρ1,h1,rs1,s1,o1⟩
 cases m with
 |zero=>exact o1.elim
 |succ m=>
  refine EZ rs1 s1 o1 λμ2 b h2 H2 x2 rs2 s2 o2=>?_
  cases b with
  |false=>rw[if_neg (by decide)]at o2 ⊢;exact o2 μ2 H2 σ1 Ext.refl s2 rs2
  |true=>
   rw[if_pos rfl]at o2 ⊢;refine⟨λσ' H'=>∃μ ρ h,RelS G μ h.length H' ρ σ'/\Sim G μ h H'/\SOut G E μ h.length H' (gF mc mb m ρ h) D,λσ' H' z=>⟨m,kh m,z⟩,μ2,ρ1,h2,rs2,s2, ?_⟩
   cases q:mb ρ1 h2 with
   |nx ρ3 h3=>rw[q]at o2;exact λμ4 H4 σ4 x4 s4 mM=>⟨μ4,ρ3,h3,mM,s4,SOut.ext o2 x4⟩
   |ct ρ3 h3=>rw[q]at o2;exact λμ4 H4 σ4 x4 s4 mM=>⟨μ4,ρ3,h3,mM,s4,SOut.ext o2 x4⟩
   |bk ρ3 h3=>rw[q]at o2;exact o2
   |rt d h3=>rw[q]at o2;exact o2
   |ex d h3=>rw[q]at o2;exact o2
   |bad=>rw[q]at o2;exact o2.elim
end
section
variable{X:Cx}{G:Cfg}{E:XK}{e o:bj}{mo me:M Dv}{pos apos cpos np p2:Pos}{y:Str}
def uD (x i:Dv) (h:Hs):Rs Dv:=match x,i with
 | .ref j,.int n=>match getL h j with
  |some xs=>match dN xs.length n with
   |some k=>match xs[k]? with
    |some d=>if xs.length<=1000000 then .ok d (h.set j (.lst (xs.eraseIdx k)))else .bad
    |none=>.bad
   |none=>.bad
  |none=>.bad
 |_,_=>.bad
theorem F3 {μ:Nat->ah}{n:Nat}{H:Hp}:∀{ds:List Dv}{vs:List V}(k:Nat),RelDL G μ n H ds vs->RelDL G μ n H (ds.eraseIdx k) (vs.eraseIdx k)
 | [],_,_,h=>by rw[RelDL]at h;subst h;exact RelDL.nil
 |d::ds,_,0,h=>by rw[RelDL]at h;obtain⟨v,r,rfl,h1,h2⟩:=h;exact h2
 |d::ds,_,k+1,h=>by rw[RelDL]at h;obtain⟨v,r,rfl,h1,h2⟩:=h;exact RelDL.cons h1 (F3 k h2)
def qP (mo me:M Dv):M Dv:=λρ h=>(mo ρ h).bind λx h1=>if iK x h1=true then(me ρ h1).bind λd h2=>uD x d h2 else .bad
theorem SU (ho:aG X G E (.Name y np) mo) (he:aG X G E e me) (hs:aq [e] X.env=[(false,eval e X.env)]:=by rfl) (hl:(apos.endLine==cpos.line)=true:=by rfl):aG X G E (.Call (.Attribute (.Name y np) "pop" apos) [e] [] cpos) (qP mo me):=λhK=>
 PE.imp (xQ oq PySem.F.slot_list_pop PySem.F.type_list_pop O7 (ho hK) (fK (he hK) gJ hs) rfl (by rw[hs];rfl) hl hs rfl) λσ H Q ⟨μ,ρ,h,rs,s,oo⟩=>cR rs s oo λμ1 x h1 vx H1 x1 rs1 s1 r1 o1=>by
  split at o1
  ·rename_i hl;refine⟨yQ s1 r1 hl,cR rs1 s1 o1 λμ2 d h2 vd H2 x2 rs2 s2 r2 o2=>?_⟩
   cases x with
   |ref j=>
    cases d with
    |int n=>
     dsimp only[uD]at o2
     cases q:getL h2 j with
     |none=>rw[q]at o2;exact o2.elim
     |some xs=>
      rw[q]at o2;dsimp only at o2
      cases q2:dN xs.length n with
      |none=>rw[q2]at o2;exact o2.elim
      |some k=>
       rw[q2]at o2;dsimp only at o2
       cases q3:xs[k]? with
       |none=>rw[q3]at o2;exact o2.elim
       |some d'=>
        rw[q3]at o2;dsimp only at o2
        split at o2
        ·rename_i hz;obtain⟨vs,ea,ra⟩:=s2.ob j _ (cT q);obtain⟨_,rfl⟩:=RelD.mono x2 _ _ r1;rw[RelD]at r2;subst r2;obtain⟨v,ev,rv⟩:=ra.get q3;obtain⟨i1,i2,i3,i4⟩:=xK q2;obtain⟨x3,s3⟩:=s2.write (cT q) (F3 k ra);exact⟨_,vs,n,k,v,rfl,rfl,ea,by omega,by omega,by rw[ra.length];exact i1,ev,o2 μ2 _ _ x3 s3 (RelD.mono x3 _ _ rv)⟩
        ·exact o2.elim
    |_=>exact o2.elim
   |_=>exact o2.elim
  ·exact o1.elim
def lY (xs:List Dv) (lo hi:Option Int):List Dv:=(xs.drop (HT.sIx xs.length 0 lo)).take (HT.sIx xs.length xs.length hi - HT.sIx xs.length 0 lo)
theorem F5 {μ:Nat->ah}{n:Nat}{H:Hp}{xs:List Dv}{vs:List V}(r:RelDL G μ n H xs vs) (lo hi:Option Int):RelDL G μ n H (lY xs lo hi) (lN vs lo hi):=by unfold lY lN;rw[r.length];exact(r.drop _).take _
abbrev MO:=Ev->Hs->Rs (Option Int)
def SV (G:Cfg) (E:XK) (m:MO):TO:=λσ H Q=>∃μ ρ h,RelS G μ h.length H ρ σ/\Sim G μ h H/\Out G E μ h.length H (m ρ h) (λ_ _ _ a b=>b=a) Q
def uE (X:Cx) (G:Cfg) (E:XK) (pe:Option bj) (m:MO):Prop:=X.K=G.K->PO X pe (SV G E m)
theorem PO.imp {pe:Option bj}{t t':TO}(h:PO X pe t) (i:∀σ H Q,t' σ H Q->t σ H Q):PO X pe t':=λpins s σ H Q I q=>h pins s σ H Q I (i σ H Q q)
def qQ:MO:=λ_ h=>.ok none h
def F6:Dv->Hs->Rs (Option Int)
 | .int i,h=>.ok (some i) h
 |_,_=>.bad
def qR (m:M Dv):MO:=λρ h=>(m ρ h).bind F6
theorem SX:uE X G E none qQ:=λ_=>PO.imp OI λσ H Q ⟨μ,ρ,h,rs,s,oo⟩=>oo.val s rfl
theorem SY (he:aG X G E e me):uE X G E (some e) (qR me):=λhK=>PO.imp (OJ (he hK)) λσ H Q ⟨μ,ρ,h,rs,s,oo⟩=>cR rs s oo λμ1 d h1 v H1 x1 rs1 s1 r1 o1=>by
 cases d with
 |int i=>exact⟨i,r1,o1.val s1 rfl⟩
 |_=>exact o1.elim
end
section
variable{X:Cx}{G:Cfg}{E:XK}{pos:Pos}
theorem S0:aG X G E (.Dict [] [] pos) (mC .edc):=λ_ pins s σ H Q I ⟨μ,ρ,h,rs,sm,o⟩=>by have hb:sysModules<s.heap.objs.size:=Nat.lt_trans (by decide) (I.mod.glob.keeps I.bk).lt;have hn:=I.hok.fresh (ak s.heap.objs.size);refine wpAny_Dict_empty ⟨.ref s.heap.objs.size,_,I.laid (a:=s.heap.objs.size) (o:=.dK []) (t':=s.toks) (λ_ _ q=>aj _ q) (ak _) ⟨ja _,beq_eq_false_iff_ne.mpr (cz (bc hb)),[],.nil,Heap.DictOf.new s.heap⟩,rfl, ?_⟩;exact o μ _ _ (Ext.same (bU hn)) (sm.same (bU hn)) ⟨_,rfl,bX⟩
theorem S1 {x:Str}{i:Int}{t:Tok}(hg:Gl X x) (hm:X.mg x=some (.int i t)) (hd:(x==("__debug__" : Str))=false:=by decide):aG X G E (.Name x pos) (mC (.int i)):=λ_=>PE.imp (xA (v:=.int i) hg hm ⟨t,rfl⟩ hd) λσ H Q ⟨μ,ρ,h,rs,s,o⟩=>o.val s (show RelD G μ _ H (.int i) (.int i) from rfl)
def yV:Dv->Hs->Rs Dv
 | .int i,h=>.ok (.int (-i)) h
 |_,_=>.bad
theorem S3:jM G (rU λi=>.int (-i)) yV:=by
 intro E μ h H x vx Q s r o
 cases x with
 |int i=>rw[RelD]at r;subst r;exact⟨i,rfl,o.val s rfl⟩
 |_=>exact o.elim
end
def F7 (lo st:Int) (n:Nat):It:=⟨λi _=>i<n,λi H x H'=>H'=H/\x=.int (lo+i*st),λi _=>n<=i⟩
theorem S4 {P:bf}{w:cg}{K:ao}{tg:bj}(it:ah) (lo st:Int) (n:Nat):Turn P w K tg (F7 lo st n) [it] it (λi h=>xi h it (lo+(i:Nat)*st) ((n:Int) - (i:Nat)) st) where
 mem:=by simp
 obj:=λi h st b hb=>by
  have e:b=it:=by simpa using hb
  subst e;exact⟨_,st,λv z=>by
   have z':yx _=Data.cell v:=z
   cases z'⟩
 keep:=λi h h' st k=>k it (by simp) _ st
 item:=by intro X hP hw hK hc i pins s σ H E I hf rK hg;subst hP hw hK;obtain⟨f0,f1,f2,f3,f4,f5⟩:=hf it (by simp);have W:=Walks.range (prog:=X.prog) (w:=X.w) (I.ok.hd hc) it lo st n;refine W.item i s _ _ hg rK λv h' tk hv st' kk=>?_;obtain⟨t,rfl⟩:=hv;have I1:Inv X pins σ H { s with heap:=h',toks:=tk }:=I.turned (λb o hb e=>kk b o (by simpa using hb) e) f0 f1 f3 f4 f5;exact⟨_,rfl,sO (s:={ s with heap:=h',toks:=tk }) (n := "range_iterator") st' rfl rfl (by decide) ⟨.int (lo+i*st),H,I1,⟨t,rfl⟩,⟨rfl,rfl⟩,st',λb hb=>(hf b hb).1⟩⟩
 done:=by intro X hP hw hK hc i pins s σ H E I hf rK hg;subst hP hw hK;obtain⟨f0,f1,f2,f3,f4,f5⟩:=hf it (by simp);exact wpAny_pyNext_range_end (I.ok.hd hc) rK (by have:n<=i:=hg;omega) λh' eb=>⟨rfl,I.turned (t':=s.toks) (λb o hb e=>eb b o hb e) f0 f1 f3 f4 f5⟩
 self:=λ_ _ _ _ _ st h=>wpAny_pyIter_rangeiter st h
section
variable{X:Cx}{G:Cfg}{E:XK}{tg a b c:bj}{p pos:Pos}{ms:M (List Dv)}
def lZ (lo hi st:Int):Nat:=if lo<hi then((hi - lo - 1) / st+1).toNat else 0
def yW (lo hi st:Int):Src:=⟨lZ lo hi st,λk _=>some (.int (lo+k*st)),λ_=>true⟩
def jC (i:Int):Bool:=decide (-1000000<i)&&decide (i<1000000)
def oP:List Dv->Hs->Rs Src
 | [.int i,.int j,.int k],h=>if(jC i&&jC j&&jC k&&decide (0<k))=true then .ok (yW i j k) h else .bad
 |_,_=>.bad
theorem S5 {μ:Nat->ah}{n:Nat}{H:Hp}{d d' d'':Dv}{vs:List V}(r:RelDL G μ n H [d,d',d''] vs):∃v v' v'',vs=[v,v',v'']/\RelD G μ n H d v/\RelD G μ n H d' v'/\RelD G μ n H d'' v'':=by rw[RelDL]at r;obtain⟨v,r1,rfl,a1,r⟩:=r;obtain⟨v',v'',rfl,a2,a3⟩:=tO r;exact⟨v,v',v'',rfl,a1,a2,a3⟩
theorem S6 (hg:Gl X "range") (hm:X.mg "range" = none) (ha:cS X G E [a,b,c] ms) (hs:aq [a,b,c] X.env=[(false,eval a X.env),(false,eval b X.env),(false,eval c X.env)]:=by rfl) (hs2:aq [b,c] X.env=[(false,eval b X.env),(false,eval c X.env)]:=by rfl):
  jO X G E tg (.Call (.Name "range" p) [a,b,c] [] pos) (aQ oP ms):=λhK pins s σ H R I ⟨μ,ρ,h,rs,sm,o⟩=>by
 refine Call_ (mO I hg hm yj (ik (aR (ha hK pos pins s σ H _ I (iT rs sm o λμ1 ds h1 vs H1 x1 rs1 s1 r1 o1=>show ∃i j k:Int,vs=[.int i,.int j,.int k]/\(jC i&&jC j&&jC k&&decide (0<k))=true/\R (F7 i k (lZ i j k)) H1 from ?_)) λus s1 ⟨vs,H1,I1,r1,q1⟩=>?_) (by rw[hs,hs2]) (by rw[hs2];rfl)))
 ·unfold oP at o1
  split at o1
  ·rename_i i j k
   split at o1
   ·rename_i hj;obtain⟨v,v',v'',rfl,a1,a2,a3⟩:=S5 r1;rw[RelD]at a1 a2 a3;subst a1;subst a2;subst a3;refine⟨i,j,k,rfl,hj,o1.val s1 ?_⟩;intro kk μ2 h2 H2 x2 s2;refine⟨λhk d hd=>?_,λhk _=>lh hk.symm⟩;cases hd;exact⟨hk,λx H' hy=>by obtain⟨rfl,rfl⟩:=hy;exact⟨Same.refl _,rfl⟩⟩
   ·exact o1.elim
  ·exact o1.elim
 ·obtain⟨i,j,k,e,hj,q⟩:=q1;subst e;simp only[jC,cy,decide_eq_true_eq]at hj;obtain⟨⟨⟨⟨i1,i2⟩,j1,j2⟩,k1,k2⟩,k0⟩:=hj
  cases r1 with
  |cons r rr=>
  cases rr with
  |cons r' rr=>
  cases rr with
  |cons r'' rr=>
  cases rr;obtain⟨t,rfl⟩:=r;obtain⟨t',rfl⟩:=r';obtain⟨t'',rfl⟩:=r'';have hsz:0<=cu i j k/\cu i j k<=2000001/\((lZ i j k:Nat):Int)=cu i j k:=by
   unfold cu lZ;rw[if_pos k0]
   split
   ·rename_i hij;have h0:0<=(j - i - 1) / k:=Int.ediv_nonneg (by omega) (by omega);have h1:(j - i - 1) / k<=j - i - 1:=Int.ediv_le_self _ (by omega);refine⟨by omega,by omega,by omega⟩
   ·exact⟨by omega,by omega,rfl⟩
  have hmul:(cu i j k)*k<=2000001*1000000:=Int.mul_le_mul hsz.2.1 (by omega) (by omega) (by omega);have hmul0:0<=(cu i j k)*k:=Int.mul_nonneg hsz.1 (by omega);have small:u6 i j k=true:=by unfold u6;simp only[Builtin.Range.rangeFitsLong,cy,u5,decide_eq_true_eq,beq_iff_eq];have cm:k*cu i j k=cu i j k*k:=Int.mul_comm _ _;generalize cu i j k=z at *;refine⟨by omega,.inr ?_⟩;rw[if_pos k0];simp only[cy,decide_eq_true_eq];omega
  refine call_range_3 (by omega) ?_ (.inl (PyProof.noPylong_small (by omega)));refine wpAny_pyIter_range (IsRange.new ..) small ?_;have I2:Inv X pins σ H1 { s1 with heap:=s1.heap.push { cls:=.type "range",data:=.fields #[.int i t,.int j t',.int k t''] },toks:=s1.toks }:=I1.kept λb o e=>aj _ e;refine⟨(s1.heap.push { cls:=.type "range",data:=.fields #[.int i t,.int j t',.int k t''] }).objs.size,[(s1.heap.push { cls:=.type "range",data:=.fields #[.int i t,.int j t',.int k t''] }).objs.size],_,_,H1,rfl,
   I2.kept (t':=s1.toks) λb o e=>aj _ e,S4 _ i k (lZ i j k), ?_,λb hb=>?_,q⟩
  ·show xi _ _ (i+((0:Nat):Int)*k) (((lZ i j k:Nat):Int) - ((0:Nat):Int)) k;rw[hsz.2.2];have e1:i+((0:Nat):Int)*k=i:=by simp
   rw[e1];have e2:cu i j k - ((0:Nat):Int)=cu i j k:=by simp
   rw[e2];exact ay _ rfl
  ·have e:b=(s1.heap.push { cls:=.type "range",data:=.fields #[.int i t,.int j t',.int k t''] }).objs.size:=by simpa using hb
   subst e;exact I2.fpOk (ak _) (I2.hok.fresh (ak _))
end
structure Lawful (lp:bf) (w:cg) (K:ao) (mg:Str->Option af) (base:ck) (k:Nat) (fa:ah) (fd:bp) (x:Str) (P a:ah) (ns:List Int):Prop where
 ex:∃(G:Cfg) (lawF:List Dv->Hs->Rs Dv) (hh:Hs),G.K=K/\G.scr=ns/\G.sa=a/\G.tab=some P/\lawF [.scr] []=.ok (.bl true) hh/\FnOk lp w K mg base (bE lp w base) k fa fd [x] (cF G lawF)
theorem S7 {lp:bf}{w:cg}{K:ao}{mg mb:Str->Option af}{k:Nat}{fa a c P:ah}{fd:bp}{x:Str}{s₁:ag}{vs:List af}{ns:List Int}
  (KX:K.In s₁.heap) (hns:s₁.heap.Ns cw mg) (hb:s₁.heap.Ns builtinsNs mb) (hbb:∀x:Str,x ≠ "__name__"->mb x=cx x) (hlim:s₁.heap.NoLimit) (hg:s₁.gens=#[])
  (ha:s₁.heap.get? a=some { cls:=.type "list",data:=.seq vs.toArray }) (hi:kv vs ns) (hl:ns.length<=bq) (hr:Room k callerA)
  (hC:jv s₁.heap c P) (hP:s₁.heap.get? P=some (q5 #[])) (hB:lA mg s₁.heap) (hnt:PySem.W.noTabs K=true)
  (F:∀base:ck,K.In base->base.Ns cw mg->jv base c P->lA mg base->Lawful lp w K mg base k fa fd x P a ns) (hbind:∀(s:ag) (u:af),BindsTo s fd ⟨[u],[]⟩ [(x,u)]):
  codeAny (model lp w) callerA (.call (.ref fa) ⟨[.ref a],[]⟩) (λr s'=>r=.ok (.ret (.bool true))/\OldK s₁.heap s'.heap/\s'.os=s₁.os/\ph s'.gens) s₁:=by
 have rv:=DU hi;have lenV:=hi.length;have KP:K.lookup P=none:=by
  cases q:K.lookup P with
  |none=>rfl
  |some o=>have e:=KX P o q;rw[hP]at e;cases e;have:=fw.mp hnt (P,q5 #[]) (PySem.W.mem_of_lookupK q);exact absurd (show false=true from this) ib
 have aP:a≠P:=λz=>by rw[z,hP]at ha;cases ha
 have core:∀H:Hp,H P=some (.tbl #[])->FzL K H a (ns.map V.int)->HOk lp w H s₁.heap->(∀b,H b≠none->b=a∨b=P)->(H a≠none->K.lookup a=none)->(∀u,H a=some u->∃o xs,u=.frz o (.lst xs))->
   codeAny (model lp w) callerA (.call (.ref fa) ⟨[.ref a],[]⟩) (λr s'=>r=.ok (.ret (.bool true))/\OldK s₁.heap s'.heap/\s'.os=s₁.os/\ph s'.gens) s₁:=by
  intro H hHP hS hok hA hK hF;have base_of:∀{b:ah}{o:Obj},s₁.heap.get? b=some o->H b=none->(iR s₁.heap H).get? b=some o:=λe n=>LG e n;have none_of:∀{b:ah},b≠a->b≠P->H b=none:=λ{b} h1 h2=>by
   cases q:H b with
   |none=>rfl
   |some u=>exact((hA b (by rw[q];simp)).elim h1 h2).elim
  have noD:∀{b:ah}{o:Obj}{es:Array DictEntry}{ep:Nat},s₁.heap.get? b=some o->o.data=.dict es ep->H b=none:=λ{b o es ep} e d=>none_of (λz=>by
    subst z;rw[ha]at e;cases e;have d':Data.seq vs.toArray _=Data.dict es ep:=d
    cases d') (λz=>by
    subst z;rw[hP]at e;cases e;have d':yx _=Data.dict es ep:=d
    cases d')
  have nsK:∀{b:ah}{m:Str->Option af},s₁.heap.Ns b m->(iR s₁.heap H).Ns b m:=λ{b m} ⟨o,es,ep,e,d,r⟩=>⟨o,es,ep,base_of e (noD e d),d,r⟩
  have hKb:K.In (iR s₁.heap H):=λb o e=>base_of (KX b o e) (by
   cases q:H b with
   |none=>rfl
   |some u=>
    rcases hA b (by rw[q];simp)with z|z
    ·subst z;rw[hK (by rw[q];simp)]at e;cases e
    ·subst z;rw[KP]at e;cases e)
  have hM:Mod K mg (iR s₁.heap H):=⟨hKb,nsK hns,⟨mb,nsK hb,hbb⟩,let ⟨mc,h1,h2⟩:=hlim;⟨mc,nsK h1,h2⟩⟩
  have hCb:jv (iR s₁.heap H) c P:=by obtain⟨o,vs',file,tf,flags,tg,inF,text,tt,e1,r1,r⟩:=hC;refine⟨o,vs',file,tf,flags,tg,inF,text,tt,base_of e1 (none_of (λz=>?_) r.2.2.2.2.2.2.2),r1,r⟩;subst z;rw[ha]at e1;cases e1;exact absurd r1 (by intro w;injection w with w;exact absurd w (by decide))
  have hBb:lA mg (iR s₁.heap H):=by
   obtain⟨bm,ob,b1,b2,b3,b4,b5,b6⟩:=hB;refine⟨bm,ob,b1,b2,base_of b3 (none_of (λz=>?_) (λz=>?_)),b4,b5,b6⟩
   ·subst z;rw[ha]at b3;cases b3;exact absurd b4 (by intro w;injection w with w;exact absurd w (by decide))
   ·subst z;rw[hP]at b3;cases b3;cases b4
  have e0:Env0 lp w K mg (iR s₁.heap H) callerA [] s₁ H:=⟨rfl,hM,λb o e=>LH e,lh (LF _ _),trivial,λb hb=>absurd (show b∈([]:List ah) from hb) (by simp),hok,.of_eq hg⟩
  obtain⟨G,lawF,hh,g1,g2,g3,g4,hlaw,Fn⟩:=(F _ hKb (nsK hns) hCb hBb).ex;have rd:RelDL G (λ_=>0) 0 H [.scr] [.ref a]:=by refine RelDL.cons ?_ RelDL.nil;rw[RelD,g1,g2,g3];exact⟨rfl,hS⟩
  have sm:Sim G (λ_=>0) [] H:=⟨λi j h1=>absurd h1 (by simp),λi o q=>by simp at q,λP' e=>by
   rw[g4]at e;cases e;exact⟨#[],hHP,trivial,λpos cv q=>by
    have q':(none:Option af)=some cv:=q
    cases q'⟩⟩
  refine md (Fn.run callerA [] s₁ H ⟨[.ref a],[]⟩ [.ref a] [.ref a] (λv _=>v=.bl true) (λ_ _ _=>False) hr e0 (hbind s₁ (.ref a)) (.cons rfl .nil) ⟨λ_=>0,[],[.scr],rd,sm, ?_⟩) λr s' h=>?_
  ·rw[hlaw];exact λμ' H' v _ _ r=>r
  cases r with
  |error e=>obtain⟨_,_,_,_,_,_,_,_,_,z⟩:=h;exact z.elim
  |ok fl=>
   cases fl with
   |next=>exact gb h
   |brk=>exact gb h
   |cont=>exact gb h
   |ret u=>
    obtain⟨v,H',os,bare,un,hok',r',q⟩:=h;have q':v=.bl true:=q;subst q';obtain rfl:u=zc true:=r';have kept:∀b o,b≠P->s₁.heap.get? b=some o->s'.heap.get? b=some o:=λb o hbP e=>by
     cases q:H b with
     |none=>exact un.keep b o e q (by intro z;exact absurd (show b∈([]:List ah) from z) (by simp)) (by simp)
     |some u=>
      rcases hA b (by rw[q];simp)with z|z
      ·subst z;obtain⟨ob,xs,rfl⟩:=hF u q;have z2:=un.frzs b ob _ q;obtain⟨e1,_⟩:=hok b _ q;obtain⟨e2,_⟩:=hok' b _ z2;rw[e]at e1;cases e1;exact e2
      ·exact absurd z hbP
    obtain⟨more,hm⟩:=un.tbls P #[] hHP;have gP:s'.heap.get? P=some (q5 (#[]++more)):=hok' P _ hm;refine⟨rfl,⟨λb o e=>?_,λb o e=>?_⟩,os,bare⟩
    ·by_cases hb:b=P
     ·subst hb;rw[hP]at e;cases e;exact .inr (.inl ⟨(hC.tab hP).isCodeTable,rfl,#[],more,rfl,gP⟩)
     ·exact .inl (kept b o hb e)
    ·by_cases hb:b=P
     ·subst hb;exact⟨_,gP⟩
     ·exact⟨_,kept b o hb e⟩
 cases hk:K.lookup a with
 |some o=>
  have e:=KX a o hk;rw[ha]at e;cases e;refine core (λb=>if b=P then some (.tbl #[])else none) (if_pos rfl) (.inr ⟨_,vs.toArray,_,hk,rfl,rfl,rfl,by rw[ar,lenV];exact hl,by simpa using rv⟩) (λb u z=>?_) (λb z=>?_) (λz=>absurd (if_neg aP) z) (λu z=>?_)
  ·by_cases hb:b=P
   ·have z':=(if_pos hb).symm.trans z;cases z';subst hb;exact hP
   ·have z':=(if_neg hb).symm.trans z;cases z'
  ·by_cases hb:b=P
   ·exact .inr hb
   ·exact absurd (if_neg hb) z
  ·have z':=(if_neg aP).symm.trans z;cases z'
 |none=>
  have ea:(λb=>if b=a then some (HO.frz { cls:=.type "list",data:=.seq vs.toArray } (.lst (ns.map V.int)))else if b=P then some (.tbl #[])else none) a=some (.frz { cls:=.type "list",data:=.seq vs.toArray } (.lst (ns.map V.int))):=if_pos rfl;refine core (λb=>if b=a then some (.frz { cls:=.type "list",data:=.seq vs.toArray } (.lst (ns.map V.int)))else if b=P then some (.tbl #[])else none) ((if_neg (cz aP)).trans (if_pos rfl)) (.inl ⟨{ cls:=.type "list",data:=.seq vs.toArray },ea⟩) (λb u z=>?_) (λb z=>?_) (λ_=>hk) (λu z=>?_)
  ·by_cases hb:b=a
   ·have z':=(if_pos hb).symm.trans z;cases z';subst hb;exact⟨ha,by rw[bh];exact hl,vs,_,rv,ha⟩
   ·have z':=(if_neg hb).symm.trans z
    by_cases hb2:b=P
    ·have z2:=(if_pos hb2).symm.trans z';cases z2;subst hb2;exact hP
    ·have z2:=(if_neg hb2).symm.trans z';cases z2
  ·by_cases hb:b=a
   ·exact .inl hb
   ·by_cases hb2:b=P
    ·exact .inr hb2
    ·exact absurd ((if_neg hb).trans (if_neg hb2)) z
  ·have z':=ea.symm.trans z;cases z';exact⟨_,_,rfl⟩
open L2
theorem hW {α:Type}{P:List α->Prop}(h:∀a,P [a]):∀us:List α,us.length=1->P us
 | [a],_=>h a
theorem jS {α:Type}{P:List α->Prop}(h:∀a b,P [a,b]):∀us:List α,us.length=2->P us
 | [a,b],_=>h a b
theorem S8 {α:Type}{P:List α->Prop}(h:∀a b c,P [a,b,c]):∀us:List α,us.length=3->P us
 | [a,b,c],_=>h a b c
theorem iL {P:Nat->Bool->Prop}:∀c b,List.lookup c ([]:List (Nat×Bool))=some b->P c b:=λ_ _ h=>nomatch h
theorem dF {P:Nat->Bool->Prop}{x:Nat}{y:Bool}{l:List (Nat×Bool)}(h:P x y) (hl:∀c b,l.lookup c=some b->P c b):∀c b,List.lookup c ((x,y)::l)=some b->P c b:=λc b e=>by
 rw[gu]at e
 cases q:c==x with
 |true=>rw[q]at e;exact eq_of_beq q▸(cn e)▸h
 |false=>rw[q]at e;exact hl c b e
theorem S9 {P:Nat->Prop}:∀c,c<0->P c:=λc h=>absurd h (Nat.not_lt_zero c)
theorem jD {P:Nat->Prop}{n:Nat}(h0:P 0) (h:∀c,c<n->P (c+1)):∀c,c<n+1->P c
 |0,_=>h0
 |c+1,hc=>h c (Nat.lt_of_succ_lt_succ hc)
open PySem.Calls
abbrev Ys {β:Type}(ob:Frag->β) (obE:β):cg->ck->Prop:=λ_ h=>∃K:Frag,K.In h/\noTabs K=true/\ob K=obE
theorem ys_of {β:Type}{ob:Frag->β}{obE:β}:∀(w:cg) (s:ag),ob (pJ s.heap)=obE->Ys ob obE w s.heap:=λ_ s e=>⟨pJ s.heap,sH _ _,sJ _ _,e⟩
theorem ys_keeps {β:Type}{ob:Frag->β}{obE:β}:∀(w:cg) (h h':ck),Ys ob obE w h->(∀b o,h.get? b=some o->h'.get? b=some o)->Ys ob obE w h':=λ_ _ _ ⟨K,x,n,e⟩ k=>⟨K,x.keeps k,n,e⟩
theorem walkK {β:Type}{ob:Frag->β}{obE:β}{l:OpenLaw}{n k:Nat}{q:bf}{loose:List Str}{XP:(Str->Option af)->ck->Prop}{d:DefRec}{x:Str}
  (hn:l.most=some n) (hn2:n<=bq) (hdf:d.params.defaults=[]) (hr:Room k callerA) (hfind:(recsOf q).find? (λe=>e.name==d.name)=some d)
  (F:∀(K:Frag) (w:cg) (mg:Str->Option af) (fa:ah) (h:ck),ob K=obE->noTabs K=true->K.In h->h.Ns cw mg->mg d.name=some (.ref fa)->
   ∃(fd:bp) (c P:ah),(∀(s:ag) (u:af),BindsTo s fd ⟨[u],[]⟩ [(x,u)])/\tabIn K d.name=some (c,P)/\noTabs K=true /\
    ∀(base:ck) (a:ah) (ns:List Int),ns.length<=n->K.In base->base.Ns cw mg->CodeHd base c P->lA mg base->Lawful l.prog w K mg base k fa fd x P a ns):
  WalkO q loose XP (Ys ob obE) l.row.toRowW d [] (λf vs=>PySem.call f vs):=by
 refine Att.attach_call hn hdf λw s₀ s₁ mg mb fa o pm cd doc a vs ns G Y ho hd hcd hmg hobj hints hlen hg=>?_;obtain⟨K,KX,hnt',hob⟩:=Y;obtain⟨fd,c,P,hb,ht,hnt,hF⟩:=F K w mg fa _ hob hnt' KX G.T.g hmg;obtain⟨hC,hP⟩:=tab_of G.T KX hfind ht;exact S7 KX G.T.g G.T.b G.T.builtins G.T.nolimit hg hobj hints (dm hlen hn2) hr hC hP G.T.bmain hnt (λbase h1 h2 h3 h4=>hF base a ns hlen h1 h2 h3 h4) hb
theorem TB {K:Frag}{f c:ah}{st:gy}{n:Str}{ps:List Str}(h:cQ K f=some (fnOf n n (lO st) (gU st) (aT st) .none .none .none .none none (.ref c) .none)) (hc:codeIn K (.ref c) n=true) (hk:keepIn K (.ref f)=true)
  (hb:∀(kV doc pm:af) (an:Option ah) (cdv ct:af) (us:List af),us.length=ps.length->bindArgs (fnOf n n (lO st) (gU st) (aT st) .none kV doc pm an cdv ct) ⟨us,[]⟩=pure (ps.zip us)):
  ∃fd:bp,Fun K n n st f fd/\Binds K fd ps []/\fd.code=.ref c/\∀us:List af,us.length=ps.length->bindArgs fd ⟨us,[]⟩=pure (ps.zip us):=by
 obtain⟨oc,od,kV,dc,pm,an,ct,sl,e⟩:=K0 h;exact⟨_,DV e hc hk,(DV e hc hk).binds hb,rfl,hb kV dc pm an (.ref c) ct⟩
theorem dB {F:List (Frag->Bool)}{K:Frag}(h:F.all (λf=>f K)=true) (i:Nat) {g:Frag->Prop}[∀K,Decidable (g K)] (e:F[i]?=some (λK=>decide (g K)):=by rfl):g K:=dA h i e
theorem bV {K:Frag}{h:ck}{mg:Str->Option af}{n:Str}{v:af}{F:List (Frag->Bool)}(X:K.In h) (G:h.Ns cw mg) (hc:F.all (λf=>f K)=true) (i:Nat) (e:F[i]?=some (λK=>decide (nsIn K cw n=some (some v))):=by rfl):mg n=some v:=mg_of X G (dA hc i e)
theorem yX {env:Env}{x:Str}:∀{l:List (Str×jn)},l.lookup x=some .free->(l.map λ(n,k)=>if(k==bu&&env.scope.kind==.function&&env.kindOf n==some .cell)then(n,df)else(n,k)).lookup x≠some .local
 | [],h=>by simp at h
 |(n,q)::r,h=>by
  rw[gu]at h;rw[da]
  cases e:x==n with
  |true=>
   rw[e]at h;have hq:q=.free:=cn h;subst hq;dsimp only
   split
   ·rw[gu,e];simp
   ·rw[gu,e];simp
  |false=>
   rw[e]at h;dsimp only
   split
   ·rw[gu,e];exact yX h
   ·rw[gu,e];exact yX h
theorem TF {X:Cx}{sc os:gn}{oN N:List Str}{cap:List (Option Nat)}(hs:X.env.scope.names=os.names) (hN:X.N=oN) (h1:sc.kind=.function) (h2:∀p∈sc.names,p.2=.local->sc.names.lookup p.1=some .local) (h3:cap.length=N.length)
  (h4:∀p∈sc.names,p.2=.free->os.names.lookup p.1=some .cell∨os.names.lookup p.1=some .free) (h5:∀p∈sc.names,p.2=.free->(p.1,df)∉sc.names) (h6:∀q∈cap.zip N,∀j∈q.1,oN[j]?=some q.2/\sc.names.lookup q.2=some .free):CapOk X sc N cap:=by
 refine⟨h1,h2,h3,λx hx=>?_,λx hx=>h5 _ hx rfl,λi j x e1 e2=>?_⟩
 ·have:=h4 _ hx rfl;rw[<-hs]at this;exact this
 ·have hm:(some j,x)∈cap.zip N:=br (i:=i) (oh.mpr ⟨e1,e2⟩);obtain⟨a,b⟩:=h6 _ hm j rfl;rw[hN];refine⟨a,dw b, ?_⟩;exact yX b
def lB:Dv->Dv->Hs->Rs Dv:=gX λi j=>.int (i - j)
def nE:Dv->Dv->Hs->Rs Dv:=iW tL λi j=>.int (i*j)
def gM:Dv->Dv->Hs->Rs Dv:=iW mU λi j=>.int (i % j)
def qS:Dv->Dv->Hs->Rs Dv:=iW pY λi j=>.int (i ^ j.toNat)
def oQ:Dv->Dv->Hs->Rs Dv:=gX λi j=>.bl (decide (i<=j))
def uF:Dv->Dv->Hs->Rs Dv:=gX λi j=>.bl (decide (i>j))
def uG:Dv->Dv->Hs->Rs Dv:=gX λi j=>.bl (decide (i>=j))
section
variable{X:Cx}{G:Cfg}{E:XK}{k:Nat}{a b:bj}{ma mb:M Dv}{pos:Pos}
theorem yY (ha:aG X G E a ma) (hb:aG X G E b mb):aG X G E (.BinOp a .Sub b pos) (m2 lB ma mb):=mR ND P9 ha hb
theorem qT (ha:aG X G E a ma) (hb:aG X G E b mb):aG X G E (.BinOp a .Mult b pos) (m2 nE ma mb):=mR NF (tK QA) ha hb
theorem nF (ha:aG X G E a ma) (hb:aG X G E b mb):aG X G E (.BinOp a .Mod b pos) (m2 gM ma mb):=mR NG (tK QB) ha hb
theorem F8 (ha:aG X G E a ma) (hb:aG X G E b mb):aG X G E (.BinOp a .Pow b pos) (m2 qS ma mb):=mR NH (tK QC) ha hb
theorem TH (ha:aG X G E a ma):aG X G E (.UnaryOp .USub a pos) (m1 yV ma):=P4 NJ S3 ha
theorem TJ (ha:aG X G E a ma) (hb:aG X G E b mb):aG X G E (.Compare a [.Gt] [b] pos) (m2 uF ma mb):=tH NK pX ha hb (mP _)
theorem mD (g:Good X G E k) (ha:aG X G E a ma) (hb:aG X G E b mb):aG X G E (.Compare a [.Eq] [b] pos) (m2 bS ma mb):=tH (EO g.room.units) ER ha hb (mP _)
theorem TL (ha:aG X G E a ma) (hb:aG X G E b mb):gK X G E (.Compare a [.GtE] [b] pos) (mB (m2 uG ma mb)):=tI NL pX ha hb (mP _)
theorem uH (g:Good X G E k) (ha:aG X G E a ma) (hb:aG X G E b mb):gK X G E (.Compare a [.Eq] [b] pos) (mB (m2 bS ma mb)):=tI (EO g.room.units) ER ha hb (mP _)
theorem mE (g:Good X G E k) (ha:aG X G E a ma) (hb:aG X G E b mb):gK X G E (.Compare a [.NotEq] [b] pos) (mB (m2 bY ma mb)):=tI (P7 g.room.units) P8 ha hb (mP _)
variable{c:bj}{mc:M Dv}
theorem TM (ha:aG X G E a ma) (hb:aG X G E b mb) (hc:aG X G E c mc) (hm:lastMarks [.LtE,.LtE] [b,c]=false:=by with_unfolding_all rfl):aG X G E (.Compare a [.LtE,.LtE] [b,c] pos) (oC oQ oQ ma mb mc):=P0 CP CP pX pX ha hb hc hm
end
def oR:Ty->Option Bool
 | .bl=>some true | .int=>some true | .exc _=>none|_=>some false
def jT:Ty->Option Bool
 | .bl=>some true | .exc _=>none|_=>some false
def gN:Ty->Option Bool
 | .tup=>some true | .exc _=>none|_=>some false
def qU:Ty->Option Bool
 | .lst=>some true | .exc _=>none|_=>some false
def qV:Ty->Option Bool
 | .str=>some true | .exc _=>none|_=>some false
def oS:Ty->Option Bool
 | .tup=>some true | .lst=>some true | .exc _=>none|_=>some false
section
variable{K:ao}{cl:Nat->ah}
theorem TN:∀ty bb,oR ty=some bb->cq K (jA cl ty) (.type "int")=some bb:=by intro ty bb h;cases ty <;> first|(cases h;rfl)|cases h
theorem TQ:∀ty bb,jT ty=some bb->cq K (jA cl ty) (.type "bool")=some bb:=by intro ty bb h;cases ty <;> first|(cases h;rfl)|cases h
theorem TR:∀ty bb,gN ty=some bb->cq K (jA cl ty) (.type "tuple")=some bb:=by intro ty bb h;cases ty <;> first|(cases h;rfl)|cases h
theorem TU:∀ty bb,qU ty=some bb->cq K (jA cl ty) (.type "list")=some bb:=by intro ty bb h;cases ty <;> first|(cases h;rfl)|cases h
theorem TV:∀ty bb,qV ty=some bb->cq K (jA cl ty) (.type "str")=some bb:=by intro ty bb h;cases ty <;> first|(cases h;rfl)|cases h
theorem TX:∀ty bb,oS ty=some bb->PySem.W.kitAny K (jA cl ty) [.type "tuple",.type "list"]=some bb:=by intro ty bb h;cases ty <;> first|(cases h;rfl)|cases h
end
theorem TY:cx "int" = some (.type "int"):=by decide +kernel
theorem TZ:cx "bool" = some (.type "bool"):=by decide +kernel
theorem F9:cx "str" = some (.type "str"):=by decide +kernel
theorem T1:cx "ValueError" = some (.type "ValueError"):=by decide +kernel
def cZ (nn:Option Bool) (tbl:List (Nat×Bool)):Ty->Option Bool
 | .exc c=>tbl.lookup c
 | .non=>nn
 |_=>none
section
variable{X:Cx}{G:Cfg}{E:XK}{a:bj}{ma:M Dv}{p q r pos:Pos}
theorem T3 (hg:Gl X "isinstance") (hm:X.mg "isinstance" = none) (hg':Gl X "int") (hm':X.mg "int" = none) (ha:aG X G E a ma) (he:aq [a,.Name "int" q] X.env=[(false,eval a X.env),(false,eval (.Name "int" q) X.env)]:=by rfl):
  aG X G E (.Call (.Name "isinstance" p) [a,.Name "int" q] [] pos) (m1 (aV oR) ma):=mZ hg hm ha (lS hg' hm' TY) (.inl ⟨_,rfl⟩) rfl TN (λc bb h=>by cases h) he
theorem yZ (hg:Gl X "isinstance") (hm:X.mg "isinstance" = none) (hg':Gl X "bool") (hm':X.mg "bool" = none) (ha:aG X G E a ma) (he:aq [a,.Name "bool" q] X.env=[(false,eval a X.env),(false,eval (.Name "bool" q) X.env)]:=by rfl):
  aG X G E (.Call (.Name "isinstance" p) [a,.Name "bool" q] [] pos) (m1 (aV jT) ma):=mZ hg hm ha (lS hg' hm' TZ) (.inl ⟨_,rfl⟩) rfl TQ (λc bb h=>by cases h) he
theorem qW (hg:Gl X "isinstance") (hm:X.mg "isinstance" = none) (hg':Gl X "tuple") (hm':X.mg "tuple" = none) (ha:aG X G E a ma) (he:aq [a,.Name "tuple" q] X.env=[(false,eval a X.env),(false,eval (.Name "tuple" q) X.env)]:=by rfl):
  aG X G E (.Call (.Name "isinstance" p) [a,.Name "tuple" q] [] pos) (m1 (aV gN) ma):=mZ hg hm ha (lS hg' hm' tM) (.inl ⟨_,rfl⟩) rfl TR (λc bb h=>by cases h) he
theorem GA (hg:Gl X "isinstance") (hm:X.mg "isinstance" = none) (hg':Gl X "list") (hm':X.mg "list" = none) (ha:aG X G E a ma) (he:aq [a,.Name "list" q] X.env=[(false,eval a X.env),(false,eval (.Name "list" q) X.env)]:=by rfl):
  aG X G E (.Call (.Name "isinstance" p) [a,.Name "list" q] [] pos) (m1 (aV qU) ma):=mZ hg hm ha (lS hg' hm' tN) (.inl ⟨_,rfl⟩) rfl TU (λc bb h=>by cases h) he
theorem T4 (hg:Gl X "isinstance") (hm:X.mg "isinstance" = none) (hg':Gl X "str") (hm':X.mg "str" = none) (ha:aG X G E a ma) (he:aq [a,.Name "str" q] X.env=[(false,eval a X.env),(false,eval (.Name "str" q) X.env)]:=by rfl):
  aG X G E (.Call (.Name "isinstance" p) [a,.Name "str" q] [] pos) (m1 (aV qV) ma):=mZ hg hm ha (lS hg' hm' F9) (.inl ⟨_,rfl⟩) rfl TV (λc bb h=>by cases h) he
theorem T5:∀us',Vals [.ty "tuple",.ty "list"] us'->us'=[.type "tuple",.type "list"]:=by
 intro us' h
 cases h with
 |cons r rr=>
  cases rr with
  |cons r' rr=>
   cases rr
   cases r;cases r'
   rfl
theorem T6 {kt:Nat}{p':Pos}(hg:Gl X "isinstance") (hm:X.mg "isinstance" = none) (hg':Gl X "tuple") (hm':X.mg "tuple" = none) (hg'':Gl X "list") (hm'':X.mg "list" = none) (ha:aG X G E a ma)
  (he:aq [a,.Tuple [.Name "tuple" q,.Name "list" r] kt p] X.env=[(false,eval a X.env),(false,eval (.Tuple [.Name "tuple" q,.Name "list" r] kt p) X.env)]:=by rfl):
  aG X G E (.Call (.Name "isinstance" p') [a,.Tuple [.Name "tuple" q,.Name "list" r] kt p] [] pos) (m1 (aV oS) ma):=
 RH (cs:=[.ty "tuple",.ty "list"]) hg hm ha (fK (lS hg' hm' tM) (fK (lS hg'' hm'' tN) gJ)) (by decide) T5 TX (λc bb h=>by cases h) he
theorem jE {x:Str}{C:ah}{nn:Option Bool}{tbl:List (Nat×Bool)}(hg:Gl X "isinstance") (hm:X.mg "isinstance" = none) (hg':Gl X x) (hm':X.mg x=some (.ref C)) (ha:aG X G E a ma)
  (hn:∀b,nn=some b->cq G.K (.type "NoneType") (.ref C)=some b) (ht:∀c b,tbl.lookup c=some b->cq G.K (.ref (G.cl c)) (.ref C)=some b/\ExK G.K (G.cl c)) (hd:(x==("__debug__" : Str))=false:=by decide)
  (he:aq [a,.Name x q] X.env=[(false,eval a X.env),(false,eval (.Name x q) X.env)]:=by rfl) (he2:aq [.Name x q] X.env=[(false,eval (.Name x q) X.env)]:=by rfl):
  aG X G E (.Call (.Name "isinstance" p) [a,.Name x q] [] pos) (m1 (aV (cZ nn tbl)) ma):=
 mZ hg hm ha (xA (v:=.ref C) hg' hm' rfl hd) (.inr ⟨_,rfl⟩) rfl (λty bb h=>by
  cases ty with
  |exc c=>exact(ht c bb h).1
  |non=>exact hn bb h
  |_=>cases h) (λc bb h=>(ht c bb h).2) he he2
theorem T7 {nn:Option Bool}{tbl:List (Nat×Bool)}(hg:Gl X "isinstance") (hm:X.mg "isinstance" = none) (hg':Gl X "ValueError") (hm':X.mg "ValueError" = none) (ha:aG X G E a ma)
  (hn:∀b,nn=some b->cq G.K (.type "NoneType") (.type "ValueError")=some b) (ht:∀c b,tbl.lookup c=some b->cq G.K (.ref (G.cl c)) (.type "ValueError")=some b/\ExK G.K (G.cl c))
  (he:aq [a,.Name "ValueError" q] X.env=[(false,eval a X.env),(false,eval (.Name "ValueError" q) X.env)]:=by rfl):
  aG X G E (.Call (.Name "isinstance" p) [a,.Name "ValueError" q] [] pos) (m1 (aV (cZ nn tbl)) ma):=
 mZ hg hm ha (lS hg' hm' T1) (.inl ⟨_,rfl⟩) rfl (λty bb h=>by
  cases ty with
  |exc c=>exact(ht c bb h).1
  |non=>exact hn bb h
  |_=>cases h) (λc bb h=>(ht c bb h).2) he
end
section
variable{P:bf}{w:cg}{K:ao}{mg:Str->Option af}{base:ck}{f:ah}{G:Cfg}{k:Nat}{N:List Str}
theorem T9 {x qual:Str}{st:gy}{fd:bp}{ps:List Str}{mb:MS}(Fn:Fun K x qual st f fd) (S:FnScope N ps (aT st)) (hK:K=G.K)
  (hbody:∀(cdv:af) (A:cf) (outer:List Env) (s:ag) (H:Hp) (E₀ E:XK),fd.code=cdv->Good (eG (bE P w base) P w K mg base N qual (aT st) f cdv A outer s H E₀) G E k->hJ (eG (bE P w base) P w K mg base N qual (aT st) f cdv A outer s H E₀) G E (gU st) mb):
  FnOk P w K mg base (bE P w base) (k+1) f fd ps (cF G (aS ps.length N.length mb)):=by
 obtain⟨oc,od,kV,doc,pm,an,cdv,ct,osl,rfl,lk,hcd⟩:=Fn.ex;have hlen:∀vs H Q E,cF G (aS ps.length N.length mb) vs H Q E->vs.length=ps.length:=λvs H Q E ⟨μ,h,ds,r,sm,o⟩=>by
  rw[r.length];unfold aS at o
  by_cases hd:ds.length=ps.length
  ·exact hd
  ·rw[if_neg hd]at o;exact o.elim
 refine xJ lk hcd S hlen λA outer s H vs Q E hr hsp=>?_;have hl:=hlen _ _ _ _ hsp;obtain⟨μ,h,ds,r,sm,o⟩:=hsp;have o':Out G E μ h.length H (bG (mb (bI N.length ds) h)) (RelD G) Q:=by unfold aS at o;rw[if_pos (by rw[<-r.length];exact hl)]at o;exact o
 refine⟨_,hbody cdv A outer s H E (EB G μ h.length H (mb (bI N.length ds) h)) rfl (yL hr hK (λu H' ⟨c,h',μ',er,x,s',fl⟩=>?_) yM) hK, ?_⟩
 ·rw[er]at o';exact o' μ' H' u x s' fl
 ·refine⟨μ,bI N.length ds,h,FA r N,sm, ?_⟩
  cases q:mb (bI N.length ds) h with
  |bad=>rw[q]at o';exact o'.elim
  |bk ρ h'=>rw[q]at o';exact o'.elim
  |ct ρ h'=>rw[q]at o';exact o'.elim
  |rt d h'=>rw[q]at o';exact o'
  |nx ρ h'=>rw[q]at o';exact λμ' H' σ' x' s' rs'=>o' μ' H' .non x' s' rfl
  |ex c h'=>exact λμ' H' u x' s' fl=>⟨c,h',μ',rfl,x',s',fl⟩
theorem UA {fd:bp}{ps:List Str}:FnOk P w K mg base (bE P w base) k f fd ps (cF G (λ_ _=>.bad)):=⟨λvs H Q E ⟨_,_,_,_,_,o⟩=>o.elim,λ_ _ _ _ _ _ _ _ _ _ _ _ _ ⟨_,_,_,_,_,o⟩=>o.elim⟩
end
section
variable{X:Cx}{G:Cfg}{E:XK}{k:Nat}{q x:Str}{p pos lpos:Pos}{params:jz}{body:bj}{scope os:gn}{c P fr:ah}{fdr:bp}{Nl oN:List Str}{me:M Dv}{n ncl j:Nat}{mb:MS}{caps:List Nat}
theorem UB (g:Good X G E k) (hj:j<=k) (hfn:∀y,X.fn y=true)
  (F:∀base,X.K.In base->base.Ns cw X.mg->FnOk X.prog X.w X.K X.mg base (bE X.prog X.w base) j fr fdr [x] (uC G base Nl params body scope me n ncl mb))
  (hg:Gl X q) (hm:X.mg q=some (.ref fr)) (hk:jt X.K (.ref fr)=true) (hb:Binds X.K fdr [x] [])
  (hdef:defaultsOf params X.env=([],[])) (hq:X.env.qual ++ "<lambda>" = G.lq) (hP:G.tab=some P) (hcode:X.env.code=.ref c) (hC:jv X.base c P) (hB:lA X.mg X.base)
  (LS:LamScope Nl scope) (hs:X.env.scope.names=os.names) (hN:X.N=oN) (hkind:∀y∈Nl,os.names.lookup y=some .cell) (hcl:caps.length=Nl.length) (hcap:∀z∈caps.zip Nl,oN[z.1]?=some z.2)
  (hdb:(q==("__debug__" : Str))=false:=by decide) (he:aq [.Lambda params body scope lpos] X.env=[(false,eval (.Lambda params body scope lpos) X.env)]:=by rfl):
  aG X G E (.Call (.Name q p) [.Lambda params body scope lpos] [] pos) (lX caps n ncl mb me):=
 SO g hj hfn F hg hm hk hb hdef hq hP hcode hC hB LS (λy hy=>by rw[hs];exact hkind y hy) hcl (λi j y e1 e2=>by rw[hN];exact hcap (j,y) (br (i:=i) (oh.mpr ⟨e1,e2⟩))) hdb he
end
def eY:Dv->Bool
 | .scr=>false
 |_=>true
def aW (x y:Dv) (h:Hs):Rs Dv:=if eY x=true then eR [] x y h else .bad
def fR (x:Dv) (h:Hs):Rs Dv:=if eY x=true then gY [] x h else .bad
def jF (x:Dv) (h:Hs):Rs Dv:=if eY x=true then oJ [] x h else .bad
def nG (neg:Bool) (x y:Dv) (h:Hs):Rs Dv:=if eY y=true then oO [] neg x y h else .bad
theorem zA {scr:List Int}{x:Dv}{h:Hs}(e:eY x=true):fY [] x h=fY scr x h:=by cases x <;> first|rfl|cases e
section
variable{X:Cx}{G:Cfg}{E:XK}{k:Nat}{a b e:bj}{es:List bj}{ma mb:M Dv}{aQ:M (List Dv)}{p pos:Pos}
theorem UC:dO G (xP G.K) aW:=by
 intro E μ h H x y vx vy Q s rx ry o;unfold aW at o
 split at o
 ·rename_i hx;refine ES E μ h H x y vx vy Q s rx ry ?_;have e:eR G.scr x y h=eR [] x y h:=by cases x <;> cases y <;> first|rfl|exact absurd hx (by decide)
  rw[e];exact o
 ·exact o.elim
theorem UD:jM G (EU G.K) fR:=by
 intro E μ h H x vx Q s rx o;unfold fR at o
 split at o
 ·rename_i hx;refine EV E μ h H x vx Q s rx ?_;unfold gY at o ⊢;rw[<-zA hx];exact o
 ·exact o.elim
theorem UE:jM G (λx H Q=>∃p ys,x=.ref p/\(SqL G.K H p ys∨SqT G.K H p ys)/\∀l,H l=none->Q (.ref l) (aM H l (.lst ys))) jF:=by
 intro E μ h H x vx Q s rx o;unfold jF at o
 split at o
 ·rename_i hx;refine QN E μ h H x vx Q s rx ?_;unfold oJ at o ⊢;rw[<-zA hx];exact o
 ·exact o.elim
theorem UG (neg:Bool):dO G (yU G.K neg) (nG neg):=by
 intro E μ h H x y vx vy Q s rx ry o;unfold nG at o
 split at o
 ·rename_i hx;refine SS neg E μ h H x y vx vy Q s rx ry ?_;unfold oO at o ⊢;rw[<-zA hx];exact o
 ·exact o.elim
theorem dZ (ha:aG X G E a ma) (hb:aG X G E b mb) (hs:sU b:=by intro _ _;rfl):aG X G E (.Subscript a b pos) (m2 aW ma mb):=λhK=>PE.imp (xN (by have:=DP (X:=X);rw[hK]at this;exact this) (ha hK) (hb hK) hs) λ_ _ _ t=>oA UC t
theorem qX (hg:Gl X "len") (hm:X.mg "len" = none) (ha:cS X G E (e::es) aQ)
  (he:aq (e::es) X.env=(false,eval e X.env)::aq es X.env:=by rfl) (hpl:(backTo pos (aq es X.env)).any (·.1)=false:=by rfl):aG X G E (.Call (.Name "len" p) (e::es) [] pos) (aD (f1 fR) aQ):=λhK=>
 qA (CallR.imp (DQ (X:=X)) λxs H Q ⟨v,h1,a,ys,h2,h3,h4⟩=>⟨a,ys,by rw[h1,h2],by rw[hK];exact h3,h4⟩) (oH UD) hg hm ue ha (by decide) (by decide) he hpl hK
theorem GB (hg:Gl X "list") (hm:X.mg "list" = none) (ha:cS X G E (e::es) aQ)
  (he:aq (e::es) X.env=(false,eval e X.env)::aq es X.env:=by rfl) (hpl:(backTo pos (aq es X.env)).any (·.1)=false:=by rfl):aG X G E (.Call (.Name "list" p) (e::es) [] pos) (aD (f1 jF) aQ):=λhK=>
 yC (CallR.imp (OW (X:=X)) λxs H Q ⟨v,h1,a,ys,h2,h3,h4⟩=>⟨a,ys,by rw[h1,h2],by rw[hK];exact h3,h4⟩) (oH UE) hg hm tN ha (by decide) (by decide) he hpl hK
end
theorem UH (h l:Hs) (k:Nat):getL (h++l) (h.length+k)=getL l k:=by unfold getL;rw[dk (by omega),show h.length+k - h.length=k by omega]
theorem UI (h l:Hs):getL (h++l) h.length=getL l 0:=UH h l 0
section
variable{n:Nat}
end
section
variable{ma mb mc:M Dv}{aQ:M (List Dv)}{t u:M Bool}{f f':Dv->Dv->Hs->Rs Dv}{g:Dv->Hs->Rs Dv}{F:List Dv->Hs->Rs Dv}
end
section
variable{mi mi':M Src}{st st':cK}{test test':M Bool}{inner:MC}{me:M Dv}{cap:List (Option Nat)}
end
section
variable{mo me mi:M Dv}{ml:M (List Dv)}{m u:MS}{t:M Bool}
end
def jU:Dv->Option Int
 | .int i=>some i
 |_=>none
theorem uI {G:Cfg}{μ:Nat->ah}{n:Nat}{H:Hp}:∀{xs:List Dv}{vs:List V}{ns:List Int},RelDL G μ n H xs vs->bB jU xs=some ns->vs=ns.map V.int
 | [],_,ns,r,e=>by cases e;rw[RelDL]at r;subst r;rfl
 |x::xs,_,ns,r,e=>by
  rw[RelDL]at r;obtain⟨v,rr,rfl,r1,r2⟩:=r;unfold bB at e
  cases x with
  |int i=>
   dsimp only[jU]at e
   cases q:bB jU xs with
   |none=>rw[q]at e;cases e
   |some zs=>rw[q]at e;cases e;rw[RelD]at r1;subst r1;rw[uI r2 q];rfl
  |_=>cases e
section
variable{X:Cx}{G:Cfg}{E:XK}{e a b:bj}{es:List bj}{ma mb:M Dv}{aQ:M (List Dv)}{p pos:Pos}
end
section
variable{X:Cx}{G:Cfg}{E:XK}{a:bj}{elts:List bj}{kk:Nat}{tp p pos:Pos}{ma:M Dv}{ms:M (List Dv)}
end
section
variable{X:Cx}{G:Cfg}{E:XK}{e a b:bj}{es:List bj}{ma mb:M Dv}{aQ:M (List Dv)}{p pos:Pos}
theorem UJ:cx "sorted" = some (.builtin "sorted"):=by decide +kernel
end
section
variable{X:Cx}{G:Cfg}{E:XK}{e o a b:bj}{es:List bj}{ma mb mo me:M Dv}{aQ:M (List Dv)}{p pos np apos cpos:Pos}{y:Str}
def zB (_ j:Int):Prop:=0<j/\j<18446744073709551616
theorem UK:OpR X (binaryOp .FloorDiv) (rI zB λi j=>.int (i / j)):=sQ λi j _ _ _ _ _ hc q=>by
 have h1:(0:Int)<j:=hc.1;have h2:j<18446744073709551616:=hc.2;refine floordiv_int (by omega) (by rw[Int.fdiv_eq_ediv_of_nonneg i (by omega)];exact q) (.inl (PyProof.noPylong_of_log2 ?_));have h3:j.natAbs≠0:=by omega
 have h4:j.natAbs<2 ^ 64:=by omega
 have:=(Nat.log2_lt h3).mpr h4;omega
def qY (_ j:Int):Bool:=decide (0<j)&&decide (j<18446744073709551616)
theorem UL (i j:Int) (h:qY i j=true):zB i j:=by unfold qY at h;unfold zB;simpa only[cy,decide_eq_true_eq]using h
def qZ:Dv->Dv->Hs->Rs Dv:=iW qY λi j=>.int (i / j)
theorem GC (ha:aG X G E a ma) (hb:aG X G E b mb):aG X G E (.BinOp a .FloorDiv b pos) (m2 qZ ma mb):=mR UK (tK UL) ha hb
def GD (K:ao):R2:=λx y H Q=>∃a b ys,x=.ref a/\y=.ref b/\SqT K H a []/\SqT K H b ys/\Q (.ref b) H
theorem op_catT0:OpR X (binaryOp .Add) (GD X.K):=by
 intro pins s σ H x y v u Q I rx ry ⟨a,b,ys,e1,e2,ha,hb,q⟩;subst e1;subst e2;cases rx;cases ry;obtain⟨its,r1,p1,_⟩:=I.tuple ha;obtain⟨its2,r2,p2,_⟩:=I.tuple hb;have hn:its=[]:=r1.nil_iff.mpr rfl;subst hn;obtain⟨⟨cls,dd,data,sl⟩,ho,hc,n,hd⟩:=p1;obtain⟨⟨cls2,dd2,data2,sl2⟩,ho2,hc2,n2,hd2⟩:=p2;simp only at hc hd hc2 hd2;subst hc hd hc2 hd2;exact concat_meets ⟨_,ho,rfl⟩ ⟨_,ho2,rfl⟩ vn ze p6 oi (nu _ _)
  (tuple_addW0 a b _ _ n n2 dd dd2 sl sl2 rfl) ⟨ho,ho2,⟨.ref b,H,I,rfl,q⟩⟩
def bL (x y:Dv) (h:Hs):Rs Dv:=match x,y with
 | .tup [],.tup ys=>.ok (.tup ys) h
 |x,y=>kS x y h
theorem UM:dO G (λx y H Q=>GD G.K x y H Q∨yA G.K x y H Q) bL:=by
 intro E μ h H x y vx vy Q s rx ry o;unfold bL at o
 split at o
 ·rename_i ys;obtain⟨a,vs,rfl,ea,ra⟩:=rx;obtain⟨b,ws,rfl,eb,rb⟩:=id ry;have:vs=[]:=by rw[RelDL]at ra;exact ra
  subst this;exact .inl ⟨a,b,ws,rfl,rfl,SqT.of ea,SqT.of eb,o.val s ry⟩
 ·exact .inr (QE E μ h H _ _ vx vy Q s rx ry o)
theorem gO (ha:aG X G E a ma) (hb:aG X G E b mb):aG X G E (.BinOp a .Add b pos) (m2 bL ma mb):=λhK=>mR (op_catT0.or QD) (by rw[hK];exact UM) ha hb hK
def rA (k:Int):List Int->Option Nat
 | []=>none
 |n::ns=>if n=k then some 0 else(rA k ns).map (·+1)
end
section
variable{X:Cx}{G:Cfg}{E:XK}{k:Nat}{a b:bj}{ma mb mo:M Dv}{pos:Pos}
theorem UN (g:Good X G E k) (ha:aG X G E a ma) (hb:aG X G E b mb) (hm:lastMarks [.In] [b]=false:=by with_unfolding_all rfl):aG X G E (.Compare a [.In] [b] pos) (m2 (nG false) ma mb):=λhK=>tH (SQ g.room.units) (by rw[hK];exact UG false) ha hb hm hK
end
theorem nI {H:Hs}{n:Nat}{xs ys:List Dv}(e:getL H n=some xs):getL (H.set n (.lst ys)) n=some ys:=by have h:=(ax.mp (cT e)).1;unfold getL;rw[di h]
theorem rB {H:Hs}{n j:Nat}{o:Ob}(h:n≠j):getL (H.set n o) j=getL H j:=by unfold getL;rw[ed h]
theorem nJ {H:Hs}{n:Nat}{xs:List Dv}(e:getL H n=some xs):n<H.length:=(ax.mp (cT e)).1
theorem jV {H l:Hs}{n:Nat}{xs:List Dv}(e:getL H n=some xs):getL (H++l) n=some xs:=by unfold getL;rw[dh (nJ e),cT e]
structure Fr (S:List Nat) (H H':Hs):Prop where
 le:H.length<=H'.length
 at_:∀j,j<H.length->j∉S->H'[j]?=H[j]?
theorem Fr.refl {S:List Nat}{H:Hs}:Fr S H H:=⟨ak _,λ_ _ _=>rfl⟩
theorem Fr.trans {S T:List Nat}{H H1 H2:Hs}(a:Fr S H H1) (b:Fr T H1 H2) (h:∀j∈T,j∈S∨H.length<=j):Fr S H H2:=⟨dm a.le b.le,λj hj hS=>(b.at_ j (av hj a.le) λz=>(h j z).elim hS λw=>absurd (av hj w) (fq _)).trans (a.at_ j hj hS)⟩
theorem Fr.app {S:List Nat}{H l:Hs}:Fr S H (H++l):=⟨by simp,λj hj _=>dh hj⟩
theorem Fr.set {H:Hs}{n:Nat}{o:Ob}:Fr [n] H (H.set n o):=⟨by simp,λj hj hS=>ed (by simpa using cz (by simpa using hS))⟩
theorem Fr.getL {S:List Nat}{H H':Hs}{j:Nat}{xs:List Dv}(a:Fr S H H') (e:getL H j=some xs) (h:j∉S):getL H' j=some xs:=by unfold L2.Mr.getL at e ⊢;rw[a.at_ j (nJ e) h];exact e
theorem Fr.mono {S T:List Nat}{H H':Hs}(a:Fr S H H') (h:∀j∈S,j∈T):Fr T H H':=⟨a.le,λj hj hT=>a.at_ j hj λz=>hT (h j z)⟩
theorem bO {m u:MS}{ρ ρ1:Ev}{h h1:Hs}(e:m ρ h=.nx ρ1 h1):aL m u ρ h=u ρ1 h1:=by unfold aL;rw[e]
theorem GF {mi:M Src}{st:cK}{b:MS}{ρ:Ev}{h h1:Hs}{src:Src}(e:mi ρ h=.ok src h1):gE mi st b ρ h=fZ src st b src.n 0 ρ h1:=by unfold gE;rw[e];rfl
theorem zC {c:M Bool}{t u:MS}{ρ:Ev}{h h1:Hs}(e:c ρ h=.ok true h1):bD c t u ρ h=t ρ h1:=by unfold bD;rw[e];rfl
theorem nK {c:M Bool}{t u:MS}{ρ:Ev}{h h1:Hs}(e:c ρ h=.ok false h1):bD c t u ρ h=u ρ h1:=by unfold bD;rw[e];rfl
theorem GG {src:Src}{sg:cK}{b:MS}{f k:Nat}{ρ ρ1 ρ2:Ev}{H H2:Hs}{d:Dv}(hg:src.get k H=some d) (hs:sg d ρ=some ρ1) (hb:b ρ1 H=.nx ρ2 H2):fZ src sg b (f+1) k ρ H=fZ src sg b f (k+1) ρ2 H2:=by simp[fZ,hg,hs,hb]
theorem GH {src:Src}{sg:cK}{b:MS}(P:Nat->Ev->Hs->Prop)
  (step:∀k ρ H,k<src.n->P k ρ H->∃d ρ1 ρ2 H2,src.get k H=some d/\sg d ρ=some ρ1/\b ρ1 H=.nx ρ2 H2/\P (k+1) ρ2 H2)
  (fin:∀ρ H,P src.n ρ H->src.fin H=true):∀(f k:Nat) (ρ:Ev) (H:Hs),f+k=src.n->P k ρ H->∃ρ' H',fZ src sg b f k ρ H=.nx ρ' H'/\P src.n ρ' H'
 |0,k,ρ,H,h,p=>by
  have hk:k=src.n:=by omega
  subst hk;exact⟨ρ,H,by simp[fZ,fin ρ H p],p⟩
 |f+1,k,ρ,H,h,p=>by obtain⟨d,ρ1,ρ2,H2,e1,e2,e3,p2⟩:=step k ρ H (by omega) p;rw[GG e1 e2 e3];exact GH P step fin f (k+1) ρ2 H2 (by omega) p2
theorem uJ {mi:M Src}{src:Src}{sg:cK}{b:MS}{ρ:Ev}{H H1:Hs}(hi:mi ρ H=.ok src H1) (P:Nat->Ev->Hs->Prop)
  (step:∀k ρ H,k<src.n->P k ρ H->∃d ρ1 ρ2 H2,src.get k H=some d/\sg d ρ=some ρ1/\b ρ1 H=.nx ρ2 H2/\P (k+1) ρ2 H2)
  (fin:∀ρ H,P src.n ρ H->src.fin H=true) (p:P 0 ρ H1):∃ρ' H',gE mi sg b ρ H=.nx ρ' H'/\P src.n ρ' H':=by
 rw[GF hi];exact GH P step fin src.n 0 ρ H1 (by omega) p
theorem zD {src:Src}{sg:cK}{t:M Bool}{m:MC}(P:Nat->Ev->Hs->List Dv->Prop)
  (step:∀k ρ H acc,k<src.n->P k ρ H acc->∃d ρ1,src.get k H=some d/\sg d ρ=some ρ1 /\
   ((∃H2,t ρ1 H=.ok false H2/\P (k+1) ρ1 H2 acc)∨∃H2 ρ3 acc3 H3,t ρ1 H=.ok true H2/\m ρ1 H2 acc=.ok (ρ3,acc3) H3/\P (k+1) ρ3 H3 acc3))
  (fin:∀ρ H acc,P src.n ρ H acc->src.fin H=true):∀(f k:Nat) (ρ:Ev) (H:Hs) (acc:List Dv),f+k=src.n->P k ρ H acc->∃ρ' H' acc',eW src sg t m f k ρ H acc=.ok (ρ',acc') H'/\P src.n ρ' H' acc'
 |0,k,ρ,H,acc,h,p=>by
  have hk:k=src.n:=by omega
  subst hk;exact⟨ρ,H,acc,by simp[eW,fin ρ H acc p],p⟩
 |f+1,k,ρ,H,acc,h,p=>by
  obtain⟨d,ρ1,e1,e2,e3⟩:=step k ρ H acc (by omega) p
  rcases e3 with⟨H2,e3,p2⟩|⟨H2,ρ3,acc3,H3,e3,e4,p2⟩
  ·obtain⟨ρ',H',acc',e5,p5⟩:=zD P step fin f (k+1) ρ1 H2 acc (by omega) p2;exact⟨ρ',H',acc',by simp[eW,e1,e2,e3,e5],p5⟩
  ·obtain⟨ρ',H',acc',e5,p5⟩:=zD P step fin f (k+1) ρ3 H3 acc3 (by omega) p2;exact⟨ρ',H',acc',by simp[eW,e1,e2,e3,e4,e5],p5⟩
theorem GI (k:Nat) (H:Hs):∀ns:List Int,bB (bK (k+1) H) (ns.map Dv.int)=some (ns.map Dt.int)
 | []=>rfl
 |n::ns=>by rw[da,bB,GI k H ns];rfl
def aH (p:Int×Int):Dv:=.tup [.int p.1,.int p.2]
def iM (p:Int×Int):Dt:=.tup [.int p.1,.int p.2]
theorem GJ (k:Nat) (H:Hs) (p:Int×Int):bK (k+2) H (aH p)=some (iM p):=rfl
theorem zE (k:Nat) (H:Hs):∀ps:List (Int×Int),bB (bK (k+2) H) (ps.map aH)=some (ps.map iM)
 | []=>rfl
 |p::ps=>by rw[da,bB,zE k H ps,GJ];rfl
theorem GK (p q:Int×Int):bA (iM p) (iM q)=decide (p=q):=by obtain⟨a,b⟩:=p;obtain⟨c,d⟩:=q;simp only[iM,bA,fW,Bool.and_true];rw[gz];simp
theorem UO (neg:Bool) (H:Hs) (p:Int×Int) (ps:List (Int×Int)):nG neg (aH p) (.tup (ps.map aH)) H=.ok (.bl (if neg then !decide (p∈ps)else decide (p∈ps))) H:=by
 have e:(ps.map iM).any (λt=>bA t (iM p))=decide (p∈ps):=by
  rw[gz];simp only[List.any_map,sv,Function.comp,GK,decide_eq_true_eq];constructor
  ·rintro ⟨q,hq,rfl⟩;exact hq
  ·intro h;exact⟨p,h,rfl⟩
 have h1:bB (bK bR H) (ps.map aH)=some (ps.map iM):=zE 28 H ps;have h2:bK bR H (aH p)=some (iM p):=GJ 28 H p;show oO [] neg (aH p) (.tup (ps.map aH)) H=_;simp only[oO,fY,h1,h2,e]
section
variable{X:Cx}{G:Cfg}{E:XK}{elt tg iter tg' iter':bj}{ifs ifs':List bj}{sc:gn}{ps px pos:Pos}{N:List Str}{cap:List (Option Nat)}{mi mi':M Src}{st st':cK}{test test':M Bool}{me:M Dv}{i:Nat}{x:Str}
end
end L2.Mr
namespace SoM
open PySem PySem.W PyProof.Rows
variable{n:Nat}{f:Nat->Nat}{s:ag}
def lC (n:Nat) (f:Nat->Nat) (i j:Nat) (C:Bool->ag->Prop) (s:ag):Prop:=i<n/\j<n/\C (decide (f i<f j)) s
def F (f:Nat->Nat) (p:Array Nat) (k:Nat):Nat:=f (p.getD k 0)
def Ent (n:Nat) (p:Array Nat):Prop:=p.size=n/\p.toList.Perm (bo n)
theorem Ent.lt {p:Array Nat}(e:Ent n p) (hn:0<n) (k:Nat):p.getD k 0<n:=by
 by_cases h:k<p.size
 ·have:p.getD k 0=p[k]:=by simp[jm,h]
  rw[this];have hm:p[k]∈p.toList:=by simp
  exact bx.mp (e.2.mem_iff.mp hm)
 ·have:p.getD k 0=0:=by simp[jm,h]
  omega
theorem rC {p q:Array Nat}{i j:Nat}(h:p[i]?=q[j]?):F f p i=F f q j:=by unfold F;simp only[Array.getD_eq_getD_getElem?,h]
theorem Ent.mirror {p:Array Nat}(e:Ent n p) (i j d:Nat):Ent n (mirror p i j d):=⟨(mirror_size ..).trans e.1,((uf.mp (mirror_perm p i j d))).trans e.2⟩
theorem Ent.bubble {p:Array Nat}(e:Ent n p) (k d:Nat):Ent n (bubble p k d):=⟨(bubble_size ..).trans e.1,((uf.mp (bubble_perm p k d))).trans e.2⟩
theorem Ent.rev {p:Array Nat}(e:Ent n p) (i j:Nat):Ent n (kas_rev p i j):=e.mirror _ _ _
theorem rD {p:Array Nat}{i j:Nat}(hj:j<=p.size) (k:Nat):F f (kas_rev p i j) k=if i<=k/\k<j then F f p (i+j - 1 - k)else F f p k:=by
 have e:=getElem?_mirror_all (i:=i) hj k
 by_cases h:i<=k/\k<j
 ·rw[if_pos h]at e ⊢;exact rC e
 ·rw[if_neg h]at e ⊢;exact rC e
theorem GL {p:Array Nat}{k d:Nat}(hs:k<p.size) (hd:d<=k) (i:Nat):F f (bubble p k d) i=if i=k - d then F f p k else if k - d<i/\i<=k then F f p (i - 1)else F f p i:=by
 have e:=getElem?_bubble hs d hd i
 by_cases h1:i=k - d
 ·rw[if_pos h1]at e ⊢;exact rC e
 ·rw[if_neg h1]at e ⊢
  by_cases h2:k - d<i/\i<=k
  ·rw[if_pos h2]at e ⊢;exact rC e
  ·rw[if_neg h2]at e ⊢;exact rC e
def Inc (f:Nat->Nat) (p:Array Nat) (m:Nat):Prop:=∀i j,i<=j->j<m->F f p i<=F f p j
def Dec (f:Nat->Nat) (p:Array Nat) (m:Nat):Prop:=∀i j,i<=j->j<m->F f p j<=F f p i
theorem Inc.succ {p:Array Nat}{m:Nat}(h:Inc f p m) (hm:1<=m) (h1:F f p (m - 1)<=F f p m):Inc f p (m+1):=by
 intro i j hij hj
 by_cases q:j=m
 ·subst q
  by_cases r:i=j
  ·subst r;exact ak _
  ·exact dm (h i (j - 1) (by omega) (by omega)) h1
 ·exact h i j hij (by omega)
theorem Dec.succ {p:Array Nat}{m:Nat}(h:Dec f p m) (hm:1<=m) (h1:F f p m<=F f p (m - 1)):Dec f p (m+1):=by
 intro i j hij hj
 by_cases q:j=m
 ·subst q
  by_cases r:i=j
  ·subst r;exact ak _
  ·exact dm h1 (h i (j - 1) (by omega) (by omega))
 ·exact h i j hij (by omega)
theorem zF {p:Array Nat}(e:Ent n p) (hn:0<n) {Q:Nat->ag->Prop}:∀(fu m:Nat) (s:ag),1<=m->Inc f p m->
  (∀m',m<=m'->m'<=m+fu->Inc f p m'->(m'=m+fu∨F f p m'<F f p (m' - 1))->Q m' s)->(kas_asc p fu m).kasWp (lC n f) Q s
 |0,m,s,h1,hi,h=>h m (ak _) (ak _) hi (.inl rfl)
 |fu+1,m,s,h1,hi,h=>by
  refine⟨e.lt hn _,e.lt hn _, ?_⟩
  by_cases c:f (p.getD m 0)<f (p.getD (m - 1) 0)
  ·rw[decide_eq_true c];exact h m (ak _) (by omega) hi (.inr c)
  ·rw[decide_eq_false c];refine zF e hn fu (m+1) s (by omega) (hi.succ h1 (Nat.le_of_not_lt c)) λm' a b c d=>h m' (by omega) (by omega) c ?_
   rcases d with d|d
   ·exact .inl (by omega)
   ·exact .inr d
theorem uK (hn:0<n) {Q:Array Nat×Nat×Nat->ag->Prop}:∀(fu m q:Nat) (p:Array Nat) (s:ag),Ent n p->q+1<=m->m+fu<=n->Dec f p m->(∀k,m - 1 - q<=k->k<m->F f p k=F f p (m - 1))->
  (∀p' m' q',Ent n p'->q'+1<=m'->m<=m'->m'<=m+fu->Dec f p' m'->(∀k,m' - 1 - q'<=k->k<m'->F f p' k=F f p' (m' - 1))->Q (p',m',q') s)->(kas_desc fu p m q).kasWp (lC n f) Q s
 |0,m,q,p,s,e,h1,h2,hd,he,h=>h p m q e h1 (ak _) (ak _) hd he
 |fu+1,m,q,p,s,e,h1,h2,hd,he,h=>by
  refine⟨e.lt hn _,e.lt hn _, ?_⟩
  by_cases c:f (p.getD m 0)<f (p.getD (m - 1) 0)
  ·have c':F f p m<F f p (m - 1):=c;rw[decide_eq_true c];show KasT.kasWp _ (if true=true then(if q>0 then _ else _)else _) _ _;rw[if_pos rfl]
   by_cases hq:q>0
   ·rw[if_pos hq];have hsz:m<=p.size:=by rw[e.1];omega
    have hF:∀k,F f (kas_rev p (m - (q+1)) m) k=F f p k:=by
     intro k;rw[rD hsz]
     split
     ·rw[he _ (by omega) (by omega),he k (by omega) (by omega)]
     ·rfl
    have hd':Dec f (kas_rev p (m - (q+1)) m) (m+1):=by intro i j hij hj;rw[hF,hF];exact hd.succ (by omega) (gp c') i j hij hj
    refine uK hn fu (m+1) 0 _ s (e.rev _ _) (by omega) (by omega) hd' ?_ λp' m' q' a b c d=>h p' m' q' a b (by omega) (by omega);intro k k1 k2;have:k=m:=by omega
    subst this;rfl
   ·rw[if_neg hq];refine uK hn fu (m+1) 0 _ s e (by omega) (by omega) (hd.succ (by omega) (gp c')) ?_ λp' m' q' a b c d=>h p' m' q' a b (by omega) (by omega);intro k k1 k2;have:k=m:=by omega
    subst this;rfl
  ·have c':¬ F f p m<F f p (m - 1):=c;rw[decide_eq_false c];show KasT.kasWp _ (if false=true then _ else KasT.ask _ _ _) _ _;rw[if_neg (by simp)];refine⟨e.lt hn _,e.lt hn _, ?_⟩
   by_cases c2:f (p.getD (m - 1) 0)<f (p.getD m 0)
   ·rw[decide_eq_true c2];exact h p m q e h1 (ak _) (by omega) hd he
   ·have c2':¬ F f p (m - 1)<F f p m:=c2;rw[decide_eq_false c2];have eq:F f p m=F f p (m - 1):=by omega
    refine uK hn fu (m+1) (q+1) _ s e (by omega) (by omega) (hd.succ (by omega) (by omega)) ?_ λp' m' q' a b c d=>h p' m' q' a b (by omega) (by omega);intro k k1 k2;show F f p k=F f p m
    by_cases r:k=m
    ·subst r;rfl
    ·rw[eq];exact he k (by omega) (by omega)
theorem Dec.rev {p:Array Nat}{m:Nat}(hm:m<=p.size) (h:Dec f p m):Inc f (kas_rev p 0 m) m:=by intro i j hij hj;rw[rD hm,rD hm,if_pos ⟨ja _,by omega⟩,if_pos ⟨ja _,hj⟩];exact h _ _ (by omega) (by omega)
theorem GN (hn:0<n) {p:Array Nat}{m:Nat}{Q:Nat×Array Nat->ag->Prop}(e:Ent n p) (h1:1<=m) (h2:m<=n) (hd:Dec f p m)
  (h:∀m' p',Ent n p'->1<=m'->m'<=n->Inc f p' m'->Q (m',p') s):(kas_tail3 m n p).kasWp (lC n f) Q s:=by
 unfold kas_tail3;rw[KasT.kasWp_bind];refine zF (e.rev 0 m) hn (n - m) m s h1 (hd.rev (by rw[e.1];exact h2)) λm' a b c _=>?_;exact h m' _ (e.rev 0 m) (by omega) (by omega) c
theorem GO (hn:0<n) {p:Array Nat}{m:Nat}{Q:Nat×Array Nat->ag->Prop}(e:Ent n p) (h2:m+1<=n) (hd:Dec f p (m+1))
  (h:∀m' p',Ent n p'->1<=m'->m'<=n->Inc f p' m'->Q (m',p') s):(kas_descPart m n p).kasWp (lC n f) Q s:=by
 unfold kas_descPart;rw[KasT.kasWp_bind];refine uK hn (n - (m+1)) (m+1) 0 p s e (by omega) (by omega) hd (λk k1 k2=>by (have:k=m:=by omega);subst this;rfl) λp' m' q' e' a b c d eq=>?_;show KasT.kasWp _ (if q'>0 then _ else _) _ _
 by_cases hq:q'>0
 ·rw[if_pos hq];have hsz:m'<=p'.size:=by rw[e'.1];omega
  have hF:∀k,F f (kas_rev p' (m' - (q'+1)) m') k=F f p' k:=by
   intro k;rw[rD hsz]
   split
   ·rw[eq _ (by omega) (by omega),eq k (by omega) (by omega)]
   ·rfl
  refine GN hn (e'.rev _ _) (show 1<=m' by omega) (show m'<=n by omega) ?_ h;intro i j hij hj;rw[hF,hF];exact d i j hij hj
 ·rw[if_neg hq];exact GN hn e' (show 1<=m' by omega) (show m'<=n by omega) d h
theorem UP (hn:1<=n) {p:Array Nat}{Q:Nat×Array Nat->ag->Prop}(e:Ent n p)
  (h:∀m' p',Ent n p'->1<=m'->m'<=n->Inc f p' m'->Q (m',p') s):(kas_count n p).kasWp (lC n f) Q s:=by
 unfold kas_count;rw[KasT.kasWp_bind];refine zF e (by omega) (n - 1) 1 s (ak _) (λi j hij hj=>by (have:i=j:=by omega);subst this;exact ak _) λm a b c d=>?_;show KasT.kasWp _ (if(m==n)=true then _ else if m>1 then _ else _) _ _
 by_cases q:m=n
 ·rw[if_pos (beq_iff_eq.mpr q)];exact h m p e (by omega) (by omega) c
 ·rw[if_neg (by intro z;exact q (beq_iff_eq.mp z))];have hlt:F f p m<F f p (m - 1):=by
   rcases d with d|d
   ·omega
   ·exact d
  by_cases q1:m>1
  ·rw[if_pos q1];refine⟨e.lt (by omega) _,e.lt (by omega) _, ?_⟩
   by_cases c2:f (p.getD 0 0)<f (p.getD (m - 1) 0)
   ·rw[decide_eq_true c2];exact h m p e (by omega) (by omega) c
   ·have c2':¬ F f p 0<F f p (m - 1):=c2;rw[decide_eq_false c2];have hsz:m<=p.size:=by rw[e.1];omega
    have eq:∀k,k<m->F f p k=F f p 0:=by intro k hk;have:=c 0 k (by omega) hk;have:=c k (m - 1) (by omega) (by omega);omega
    have hF:∀k,F f (kas_rev p 0 m) k=F f p k:=by
     intro k;rw[rD hsz]
     split
     ·rw[eq _ (by omega),eq k (by omega)]
     ·rfl
    refine GO (by omega) (e.rev _ _) (by omega) ?_ h;intro i j hij hj;rw[hF,hF]
    by_cases r:j=m
    ·subst r
     by_cases r2:i=j
     ·subst r2;exact ak _
     ·have:=eq i (by omega);have:=eq (j - 1) (by omega);omega
    ·rw[eq i (by omega),eq j (by omega)];exact ak _
  ·rw[if_neg q1];have:m=1:=by omega
   subst this;refine GO (by omega) e (by omega) ?_ h;intro i j hij hj
   by_cases r:i=j
   ·subst r;exact ak _
   ·have h1:i=0:=by omega
    have h2:j=1:=by omega
    subst h1;subst h2;exact gp hlt
theorem zG {p:Array Nat}(e:Ent n p) (hn:0<n) {k:Nat}(hi:Inc f p k) {Q:Nat->ag->Prop}:∀(fu l r:Nat) (s:ag),r - l<=fu->l<=r->r<=k->
  (∀i,i<l->F f p i<=F f p k)->(∀i,r<=i->i<k->F f p k<F f p i)->
  (∀l',l'<=k->(∀i,i<l'->F f p i<=F f p k)->(∀i,l'<=i->i<k->F f p k<F f p i)->Q l' s)->(kas_place p k fu l r).kasWp (lC n f) Q s
 |0,l,r,s,h1,h2,h3,ha,hb,h=>by
  have:l=r:=by omega
  subst this;exact h l h3 ha hb
 |fu+1,l,r,s,h1,h2,h3,ha,hb,h=>by
  unfold kas_place
  by_cases q:l>=r
  ·rw[if_pos q];have:l=r:=by omega
   subst this;exact h l h3 ha hb
  ·rw[if_neg q];refine⟨e.lt hn _,e.lt hn _, ?_⟩
   by_cases c:f (p.getD k 0)<f (p.getD ((l+r) / 2) 0)
   ·have c':F f p k<F f p ((l+r) / 2):=c;rw[decide_eq_true c];refine zG e hn hi fu l ((l+r) / 2) s (by omega) (by omega) (by omega) ha ?_ h;intro i i1 i2;have:=hi ((l+r) / 2) i i1 i2;omega
   ·have c':¬ F f p k<F f p ((l+r) / 2):=c;rw[decide_eq_false c];refine zG e hn hi fu ((l+r) / 2+1) r s (by omega) (by omega) (by omega) ?_ hb h;intro i i1;have:=hi i ((l+r) / 2) (by omega) (by omega);omega
theorem GP (hn:0<n) {Q:Array Nat->ag->Prop}:∀(fu k:Nat) (p:Array Nat) (s:ag),Ent n p->k+fu<=n->Inc f p k->(∀p',Ent n p'->Inc f p' (k+fu)->Q p' s)->(kas_bin fu p k).kasWp (lC n f) Q s
 |0,k,p,s,e,h1,hi,h=>h p e hi
 |fu+1,k,p,s,e,h1,hi,h=>by
  unfold kas_bin;rw[KasT.kasWp_bind];refine zG e hn hi k 0 k s (by omega) (by omega) (ak _) (λi hi=>absurd hi (by omega)) (λi a b=>absurd b (by omega)) λl hl ha hb=>?_;have hsz:k<p.size:=by rw[e.1];omega
  refine GP hn fu (k+1) _ s (e.bubble _ _) (by omega) ?_ λp' e' i'=>h p' e' (by rw[show k+(fu+1)=k+1+fu by omega];exact i');intro i j hij hj;rw[GL hsz (by omega),GL hsz (by omega)];have hkl:k - (k - l)=l:=by omega
  rw[hkl]
  by_cases i1:i=l
  ·rw[if_pos i1]
   by_cases j1:j=l
   ·rw[if_pos j1];exact ak _
   ·rw[if_neg j1,if_pos (by omega)];exact gp (hb (j - 1) (by omega) (by omega))
  ·rw[if_neg i1]
   by_cases i2:l<i/\i<=k
   ·rw[if_pos i2,if_neg (by omega),if_pos (by omega)];exact hi (i - 1) (j - 1) (by omega) (by omega)
   ·rw[if_neg i2]
    by_cases j1:j=l
    ·rw[if_pos j1];exact ha i (by omega)
    ·rw[if_neg j1]
     by_cases j2:l<j/\j<=k
     ·rw[if_pos j2];exact hi i (j - 1) (by omega) (by omega)
     ·rw[if_neg j2];exact hi i j hij (by omega)
theorem UQ (hn:1<=n) {Q:Array Nat->ag->Prop}(h:∀p,Ent n p->Inc f p n->Q p s):(kas_sort n).kasWp (lC n f) Q s:=by
 unfold kas_sort;rw[KasT.kasWp_bind];refine UP hn ⟨by simp,by simp⟩ λm p e h1 h2 hi=>?_;show KasT.kasWp _ (if m<n then _ else _) _ _
 by_cases q:m<n
 ·rw[if_pos q];have:max m 1=m:=by omega
  rw[this];refine GP (by omega) (n - m) m p s e (by omega) hi λp' e' i'=>h p' e' ?_;rw[show m+(n - m)=n by omega]at i';exact i'
 ·rw[if_neg q];have:m=n:=by omega
  subst this;exact h p e hi
theorem GQ {α:Type}{cmp:Nat->Nat->(Bool->ag->Prop)->ag->Prop}{I:ag->Prop}(hc:∀i j C s,I s->i<n->j<n->(∀s',I s'->C (decide (f i<f j)) s')->cmp i j C s):
  ∀(t:KasT α) (Q:α->Prop) (Q':α->ag->Prop) (s₀ s:ag),t.kasWp (lC n f) (λa _=>Q a) s₀->I s->(∀a s',Q a->I s'->Q' a s')->t.kasWp cmp Q' s
 | .ret a,Q,Q',s₀,s,h,hi,k=>k a s h hi
 | .ask i j c,Q,Q',s₀,s,h,hi,k=>hc i j _ s hi h.1 h.2.1 λs' hi'=>GQ hc (c _) Q Q' s₀ s' h.2.2 hi' k
end SoM
namespace L2
structure Sto {α:Type}(lt:α->α->Bool):Prop where
 irr:∀x,lt x x=false
 tr:∀x y z,lt x y=true->lt y z=true->lt x z=true
 tot:∀x y,lt x y=false->lt y x=false->x=y
section
variable{α:Type}{lt:α->α->Bool}
theorem Sto.asy (o:Sto lt) {x y:α}(h:lt x y=true):lt y x=false:=by
 cases q:lt y x with
 |false=>rfl
 |true=>have:=o.tr x y x h q;rw[o.irr]at this;cases this
theorem Sto.lt_le (o:Sto lt) {x y z:α}(h:lt x y=true) (h2:lt z y=false):lt x z=true:=by
 cases q:lt y z with
 |true=>exact o.tr x y z h q
 |false=>rw[<-o.tot y z q h2];exact h
abbrev eZ (lt:α->α->Bool) (l:List α):Prop:=l.Pairwise λa b=>lt b a=false
abbrev dM (lt:α->α->Bool) (l:List α):Prop:=l.Pairwise λa b=>lt a b=true
theorem GR (o:Sto lt):∀{l l':List α},eZ lt l->eZ lt l'->l.Perm l'->l=l'
 | [],l',_,_,p=>(List.nil_perm.mp p).symm
 |x::r,[],_,_,p=>by simp at p
 |x::r,y::r',h,h',p=>by
  have h1:=fe.mp h;have h2:=fe.mp h';have e:x=y:=by
   refine o.tot x y ?_ ?_
   ·rcases bg.mp (p.mem_iff.mp (ba ..))with e|e
    ·rw[e];exact o.irr y
    ·exact h2.1 x e
   ·rcases bg.mp (p.mem_iff.mpr (ba ..))with e|e
    ·rw[e];exact o.irr x
    ·exact h1.1 y e
  subst e;rw[GR o h1.2 h2.2 (List.Perm.cons_inv p)]
def jG (lt:α->α->Bool) (x:α):List α->List α
 | []=>[x]
 |y::r=>if lt y x then y::jG lt x r else if lt x y then x::y::r else y::r
def cW (lt:α->α->Bool):List α->List α
 | []=>[]
 |x::r=>jG lt x (cW lt r)
theorem zH (o:Sto lt) (x z:α):∀l,z∈jG lt x l↔z=x∨z∈l
 | []=>by simp[jG]
 |y::r=>by
  unfold jG
  split
  ·rw[bg,zH o x z r,bg];constructor
   ·rintro (h|h|h)
    ·exact .inr (.inl h)
    ·exact .inl h
    ·exact .inr (.inr h)
   ·rintro (h|h|h)
    ·exact .inr (.inl h)
    ·exact .inl h
    ·exact .inr (.inr h)
  ·rename_i q1
   split
   ·simp
   ·rename_i q2;have e:=o.tot x y (by simpa using q2) (by simpa using q1);subst e;simp
theorem lD (o:Sto lt) (z:α):∀l,z∈cW lt l↔z∈l
 | []=>.rfl
 |x::r=>by rw[cW,zH o,lD o z r,bg]
theorem GS (o:Sto lt) (x:α):∀l,dM lt l->dM lt (jG lt x l)
 | [],_=>by simp[jG,dM]
 |y::r,h=>by
  have h1:=fe.mp h;unfold jG
  split
  ·rename_i q;refine fe.mpr ⟨λz hz=>?_,GS o x r h1.2⟩
   rcases(zH o x z r).mp hz with rfl|hz
   ·exact q
   ·exact h1.1 z hz
  ·split
   ·rename_i q;refine fe.mpr ⟨λz hz=>?_,h⟩
    rcases bg.mp hz with rfl|hz
    ·exact q
    ·exact o.tr _ _ _ q (h1.1 z hz)
   ·exact h
theorem rE (o:Sto lt):∀l,dM lt (cW lt l)
 | []=>uj
 |x::r=>GS o x _ (rE o r)
theorem GU (o:Sto lt) {l:List α}(h:dM lt l):eZ lt l:=h.imp λh=>o.asy h
theorem rF (o:Sto lt) {l:List α}(h:dM lt l):l.Nodup:=h.imp λ{a b} h e=>by rw[e,o.irr]at h;cases h
theorem zI (o:Sto lt) {l l':List α}(h:dM lt l) (h':dM lt l') (m:∀z,z∈l↔z∈l'):l=l':=by refine GR o (GU o h) (GU o h') ?_;exact(nr (rF o h) (rF o h')).mpr m
theorem UR (o:Sto lt) {l l':List α}(h:dM lt l') (m:∀z,z∈l'↔z∈l):l'=cW lt l:=zI o h (rE o l) λz=>(m z).trans (lD o z l).symm
def rk (lt:α->α->Bool) (ks:List α) (x:α):Nat:=ks.countP λy=>lt y x
theorem zJ {p q:α->Bool}:∀(l:List α),(∀y,p y=true->q y=true)->l.countP p<=l.countP q
 | [],_=>ak _
 |y::r,h=>by
  have:=zJ r h;rw[p9,p9]
  cases hp:p y with
  |true=>rw[h y hp];simp;omega
  |false=>cases q y <;> simp <;> omega
theorem GV {p q:α->Bool}:∀(l:List α),(∀y,p y=true->q y=true)->∀x,x∈l->q x=true->p x=false->l.countP p<l.countP q
 | [],_,x,hx,_,_=>by simp at hx
 |y::r,h,x,hx,h1,h2=>by
  rw[p9,p9]
  rcases bg.mp hx with rfl|hx
  ·have:=zJ r h;rw[h1,h2];simp;omega
  ·have:=GV r h x hx h1 h2
   cases hp:p y with
   |true=>rw[h y hp];simp;omega
   |false=>cases q y <;> simp <;> omega
theorem GW (o:Sto lt) {ks:List α}{x z:α}(hx:x∈ks):decide (rk lt ks x<rk lt ks z)=lt x z:=by
 cases q:lt x z with
 |true=>exact decide_eq_true (GV ks (λy h=>o.tr y x z h q) x hx q (o.irr x))
 |false=>exact decide_eq_false (Nat.not_lt.mpr (zJ ks λy h=>o.lt_le h q))
theorem US (o:Sto lt) {ks:List α}{x z:α}(hz:z∈ks) (h:rk lt ks x<=rk lt ks z):lt z x=false:=by rw[<-GW o hz];exact decide_eq_false (Nat.not_lt.mpr h)
end
def cB:List Int->List Int->Bool
 | [],[]=>false
 | [],_::_=>true
 |_::_,[]=>false
 |a::x,b::y=>if a==b then cB x y else decide (a<b)
theorem stoL:Sto cB:=by
 refine⟨λx=>?_,λx=>?_,λx=>?_⟩
 ·induction x with
  |nil=>rfl
  |cons a x ih=>simp[cB,ih]
 ·induction x with
  |nil=>
   intro y z h1 h2
   cases z with
   |nil=>cases y with
    |nil=>exact h1
    |cons b y=>cases h2
   |cons c z=>rfl
  |cons a x ih=>
   intro y z h1 h2
   cases y with
   |nil=>cases h1
   |cons b y=>
    cases z with
    |nil=>cases h2
    |cons c z=>
     simp only[cB,beq_iff_eq]at h1 h2 ⊢
     by_cases e1:a=b <;> by_cases e2:b=c
     ·rw[if_pos e1]at h1;rw[if_pos e2]at h2;rw[if_pos (e1.trans e2)];exact ih y z h1 h2
     ·rw[if_neg e2]at h2;rw[if_neg (by rw[e1];exact e2)];rw[e1];exact h2
     ·rw[if_neg e1]at h1;rw[if_neg (by rw[<-e2];exact e1)];rw[<-e2];exact h1
     ·rw[if_neg e1]at h1;rw[if_neg e2]at h2;simp only[decide_eq_true_eq]at h1 h2;rw[if_neg (by omega)];simp;omega
 ·induction x with
  |nil=>
   intro y h1 h2
   cases y with
   |nil=>rfl
   |cons b y=>cases h1
  |cons a x ih=>
   intro y h1 h2
   cases y with
   |nil=>cases h2
   |cons b y=>
    simp only[cB,beq_iff_eq]at h1 h2
    by_cases e:a=b
    ·subst e;rw[if_pos rfl]at h1 h2;rw[ih y h1 h2]
    ·rw[if_neg e]at h1;rw[if_neg (cz e)]at h2;simp at h1 h2;omega
def dC (p q:Int×Int):Bool:=if p.1==q.1 then decide (p.2<q.2)else decide (p.1<q.1)
def hX (p:Int×Int):List Int:=[p.1,p.2]
theorem rG (p q:Int×Int):cB (hX p) (hX q)=dC p q:=by
 unfold dC hX cB
 split
 ·unfold cB
  split
  ·rename_i h;simp at h;simp[cB,h]
  ·rfl
 ·rfl
theorem UT {p q:Int×Int}(h:hX p=hX q):p=q:=by obtain⟨a,b⟩:=p;obtain⟨c,d⟩:=q;simp[hX]at h;rw[h.1,h.2]
theorem stoP:Sto dC:=⟨λx=>by rw[<-rG];exact stoL.irr _,λx y z h1 h2=>by rw[<-rG]at *;exact stoL.tr _ _ _ h1 h2,λx y h1 h2=>by rw[<-rG]at *;exact UT (stoL.tot _ _ h1 h2)⟩
section
variable{α β:Type}{lt:α->α->Bool}{lt':β->β->Bool}{f:α->β}
theorem GX (h:∀x y,lt' (f x) (f y)=lt x y) (x:α):∀l,jG lt' (f x) (l.map f)=(jG lt x l).map f
 | []=>rfl
 |y::r=>by
  simp only[da,jG,h]
  split
  ·rw[GX h x r];rfl
  ·split <;> rfl
theorem GY (h:∀x y,lt' (f x) (f y)=lt x y):∀l,cW lt' (l.map f)=(cW lt l).map f
 | []=>rfl
 |x::r=>by rw[da,cW,GY h r,GX h];rfl
end
end L2
namespace SM
open PySem PySem.SetTable
def eZ (l:List Nat):Prop:=l.Pairwise (·<·)
theorem zK {l:List Nat}(hr:eZ l) {i k x:Nat}(a:l[i]?=some x) (b:l[k]?=some x):i=k:=by
 obtain⟨p1,p2⟩:=ax.mp a;obtain⟨q1,q2⟩:=ax.mp b
 rcases Nat.lt_trichotomy i k with h|h|h
 ·have:=fz.mp hr i k p1 q1 h;omega
 ·exact h
 ·have:=fz.mp hr k i q1 p1 h;omega
theorem UU (xs:Array Nat) (j:Nat) (hr:eZ xs.toList):∀(fuel lo hi:Nat),lo<=hi->hi<=xs.size->hi - lo<=fuel->
  (∀i (h:i<xs.size),i<lo->xs[i]<j)->(∀i (h:i<xs.size),hi<=i->j<=xs[i])->
  (∀i (h:i<xs.size),i<below.go xs j fuel lo hi->xs[i]<j)/\(∀i (h:i<xs.size),below.go xs j fuel lo hi<=i->j<=xs[i])/\below.go xs j fuel lo hi<=xs.size:=by
 intro fuel
 induction fuel with
 |zero=>
  intro lo hi h1 h2 h3 ha hb;have:lo=hi:=by omega
  subst this;exact⟨ha,hb,h2⟩
 |succ n ih=>
  intro lo hi h1 h2 h3 ha hb;unfold below.go
  by_cases hlt:lo<hi
  ·rw[if_pos hlt];dsimp only;have hm:(lo+hi) / 2<xs.size:=by omega
   have e:xs.getD ((lo+hi) / 2) j=xs[(lo+hi) / 2]:=by simp[jm,hm]
   have mono:∀a b (ha:a<xs.size) (hb:b<xs.size),a<b->xs[a]<xs[b]:=by intro a b ha hb hab;have:=fz.mp hr a b (by simpa using ha) (by simpa using hb) hab;simpa using this
   by_cases hc:xs.getD ((lo+hi) / 2) j<j
   ·rw[if_pos hc];refine ih _ _ (by omega) h2 (by omega) ?_ hb;intro i h hi';rw[e]at hc
    by_cases q:i=(lo+hi) / 2
    ·subst q;exact hc
    ·have:=mono i _ h hm (by omega);omega
   ·rw[if_neg hc];refine ih _ _ (by omega) (by omega) (by omega) ha ?_;intro i h hi';rw[e]at hc
    by_cases q:i=(lo+hi) / 2
    ·subst q;omega
    ·have:=mono _ i hm h (by omega);omega
  ·rw[if_neg hlt];have:lo=hi:=by omega
   subst this;exact⟨ha,hb,h2⟩
theorem rH {xs:Array Nat}{j:Nat}(hr:eZ xs.toList):
  (∀i (h:i<xs.size),i<below xs j->xs[i]<j)/\(∀i (h:i<xs.size),below xs j<=i->j<=xs[i])/\below xs j<=xs.size:=
 UU xs j hr xs.size 0 xs.size (ja _) (ak _) (by omega) (λi h hi=>absurd hi (by omega)) (λi h hi=>absurd h (by omega))
theorem GZ {xs:Array Nat}{j:Nat}(hr:eZ xs.toList) (hm:j∈xs.toList):xs[below xs j]?=some j:=by
 obtain⟨h1,h2,h3⟩:=rH (j:=j) hr;obtain⟨i,hi,e⟩:=jk hm;have hi':i<xs.size:=by simpa using hi
 have e':xs[i]=j:=by simpa using e
 have hle:below xs j<=i:=by
  rcases ig i (below xs j)with q|q
  ·have:=h1 i hi' q;omega
  ·exact q
 have hb:below xs j<xs.size:=by omega
 have:=h2 (below xs j) hb (ak _);have mono:∀a b (ha:a<xs.size) (hb:b<xs.size),a<b->xs[a]<xs[b]:=by intro a b ha hb hab;have:=fz.mp hr a b (by simpa using ha) (by simpa using hb) hab;simpa using this
 have hE:below xs j=i:=by
  rcases ig (below xs j) i with q|q
  ·have:=mono _ _ hb hi' q;omega
  ·omega
 rw[ey hb]
 congr 1
 have:∀k (hk:k<xs.size),k=i->xs[k]=xs[i]:=by intro k hk e;subst e;rfl
 rw[this _ hb hE,e']
theorem UW {xs:Array Nat}{j:Nat}(hm:j∉xs.toList):(xs[below xs j]?==some j)=false:=by rw[beq_eq_false_iff_ne];intro e;obtain⟨h,e⟩:=de.mp e;exact hm (by rw[<-e];simp)
theorem rJ {α:Type}(xs:Array α) (p:Nat) (x:α) (hp:p<=xs.size):(insertAt xs p x).toList=xs.toList.take p++x::xs.toList.drop p:=by unfold insertAt;rw[Array.toList_append,Array.toList_push];simp[Array.toList_extract,List.take_of_length_le]
theorem UX {xs:Array Nat}{j:Nat}(hr:eZ xs.toList) (hm:j∉xs.toList):eZ (insertAt xs (below xs j) j).toList:=by
 obtain⟨h1,h2,h3⟩:=rH (j:=j) hr;rw[rJ _ _ _ h3];unfold eZ at hr ⊢;have hlt:∀a∈xs.toList.take (below xs j),a<j:=by intro a ha;obtain⟨i,hi,e⟩:=jk ha;rw[iz]at hi;rw[List.getElem_take]at e;have:=h1 i (by simp at hi;omega) (by omega);simp at e;omega
 have hgt:∀a∈xs.toList.drop (below xs j),j<a:=by
  intro a ha;obtain⟨i,hi,e⟩:=jk ha;rw[ly]at hi;rw[List.getElem_drop]at e;have q:=h2 (below xs j+i) (by simp at hi;omega) (by omega);have ne:a≠j:=by rintro rfl;exact hm (List.mem_of_mem_drop ha)
  simp at e;omega
 rw[List.pairwise_append];refine⟨hr.sublist (List.take_sublist _ _), ?_, ?_⟩
 ·rw[fe];exact⟨hgt,hr.sublist (List.drop_sublist _ _)⟩
 ·intro a ha b hb
  rcases bg.mp hb with rfl|hb
  ·exact hlt a ha
  ·have:=hlt a ha;have:=hgt b hb;omega
def lE (mask:Nat) (p:Probe):Probe:=
 if p.more>0 then{ p with j:=p.j+1,more:=p.more - 1 } else
 { p with j:=(leap mask p.i p.perturb).1,more:=runEnd mask (leap mask p.i p.perturb).1 - (leap mask p.i p.perturb).1,i:=(leap mask p.i p.perturb).1,perturb:=(leap mask p.i p.perturb).2 }
theorem G1 (t:gm) (p:Probe):t.advance p=lE t.mask p:=by
 unfold SetTable.advance lE
 split <;> rfl
def rK (mask:Nat) (h:Int):Probe:={ j:=bits h % (mask+1),more:=runEnd mask (bits h % (mask+1)) - bits h % (mask+1),i:=bits h % (mask+1),perturb:=bits h,dummy:=none }
def cG (mask:Nat) (h:Int):Nat->Probe
 |0=>rK mask h
 |n+1=>lE mask (cG mask h n)
def pr (mask:Nat) (h:Int) (n:Nat):Nat:=(cG mask h n).j
theorem UY (mask:Nat) (p:Probe):(lE mask p).dummy=p.dummy:=by unfold lE;split <;> rfl
theorem G2 (mask:Nat) (h:Int):∀n,(cG mask h n).dummy=none
 |0=>rfl
 |n+1=>by rw[cG,UY,G2 mask h n]
def nL (mask i pt:Nat):Probe:={ j:=i,more:=runEnd mask i - i,i:=i,perturb:=pt,dummy:=none }
def bs (mask:Nat) (h:Int):Nat->Nat×Nat
 |0=>(bits h % (mask+1),bits h)
 |L+1=>leap mask (bs mask h L).1 (bs mask h L).2
theorem UZ (mask i:Nat):runEnd mask i - i<=9:=by unfold runEnd;split <;> omega
theorem uL (mask:Nat) (h:Int) (i pt:Nat) (n:Nat) (e:cG mask h n=nL mask i pt):∀k,k<=runEnd mask i - i->cG mask h (n+k)={ nL mask i pt with j:=i+k,more:=runEnd mask i - i - k }
 |0,_=>by rw[Nat.add_zero,e];rfl
 |k+1,hk=>by have ih:=uL mask h i pt n e k (by omega);rw[show n+(k+1)=(n+k)+1 from rfl,cG,ih];unfold lE;rw[if_pos (show runEnd mask i - i - k>0 by omega)];simp[nL];omega
theorem G3 (mask:Nat) (h:Int):∀L,∃n,n<=10*L/\cG mask h n=nL mask (bs mask h L).1 (bs mask h L).2
 |0=>⟨0,by omega,rfl⟩
 |L+1=>by obtain⟨n,hn,e⟩:=G3 mask h L;have r:=uL mask h _ _ n e (runEnd mask (bs mask h L).1 - (bs mask h L).1) (ak _);have:=UZ mask (bs mask h L).1;refine⟨n+(runEnd mask (bs mask h L).1 - (bs mask h L).1)+1,by omega, ?_⟩;rw[cG,r];unfold lE;rw[if_neg (by simp)];rfl
theorem G4 (mask:Nat) (h:Int):∀L,(bs mask h L).2=bits h / 32 ^ L
 |0=>by simp[bs]
 |L+1=>by rw[bs];show(bs mask h L).2 / 32=_;rw[G4 mask h L,Nat.div_div_eq_div_mul,Nat.pow_succ]
theorem VA (h:Int):bits h<2 ^ 64:=by unfold bits;omega
theorem VB (mask:Nat) (h:Int) {L:Nat}(hL:13<=L):(bs mask h L).2=0:=by
 rw[G4];have h1:=VA h;have h2:(32:Nat) ^ 13<=32 ^ L:=Nat.pow_le_pow_right (by decide) hL;have h3:(2:Nat) ^ 64<32 ^ 13:=by decide
 exact Nat.div_eq_of_lt (by omega)
def fx (mask x:Nat):Nat:=(x*5+1) % (mask+1)
def mF (mask:Nat):Nat->Nat->Nat
 |0,x=>x
 |n+1,x=>mF mask n (fx mask x)
theorem G5 (mask:Nat):∀n x,mF mask (n+1) x=fx mask (mF mask n x)
 |0,x=>rfl
 |n+1,x=>by rw[mF,G5 mask n,mF]
theorem G6 (mask:Nat) (h:Int):∀n,(bs mask h (13+n)).1=mF mask n (bs mask h 13).1
 |0=>rfl
 |n+1=>by rw[G5,<-G6 mask h n,show 13+(n+1)=(13+n)+1 from rfl,bs];show((bs mask h (13+n)).1*5+1+(bs mask h (13+n)).2 / 32) % (mask+1)=_;rw[VB mask h (by omega)];rfl
def oU (mask:Nat):Nat->Nat->Nat
 |0,_=>0
 |n+1,x=>2 ^ x ||| oU mask n (fx mask x)
theorem G7 (mask j:Nat):∀n x,(oU mask n x).testBit j=true->∃k,k<n/\mF mask k x=j
 |0,x,h=>by simp[oU]at h
 |n+1,x,h=>by
  rw[oU,Nat.testBit_or,u5]at h
  rcases h with h|h
  ·rw[Nat.testBit_two_pow,decide_eq_true_eq]at h;exact⟨0,by omega,h⟩
  ·obtain⟨k,hk,e⟩:=G7 mask j n _ h;exact⟨k+1,by omega,e⟩
def jW (mask:Nat):Prop:=mask=7∨mask=31∨mask=127
def G8 (mask:Nat):Bool:=(bo (mask+1)).all λx=>oU mask (mask+1) x==2 ^ (mask+1) - 1
theorem VC {mask:Nat}(g:jW mask):G8 mask=true:=by rcases g with rfl|rfl|rfl <;> decide +kernel
theorem VD {mask x j:Nat}(g:jW mask) (hx:x<=mask) (hj:j<=mask):∃k,k<=mask/\mF mask k x=j:=by
 have h1:=VC g;unfold G8 at h1;rw[fw]at h1;have h2:=h1 x (bx.mpr (by omega));rw[beq_iff_eq]at h2;have h3:(oU mask (mask+1) x).testBit j=true:=by rw[h2,Nat.testBit_two_pow_sub_one,decide_eq_true_eq];omega
 obtain⟨k,hk,e⟩:=G7 mask j _ _ h3;exact⟨k,by omega,e⟩
theorem uM (a m:Nat):a % (m+1)<=m:=by have:=Nat.mod_lt a (show 0<m+1 by omega);omega
theorem VE (mask:Nat) (h:Int):∀L,(bs mask h L).1<=mask
 |0=>uM _ _
 |L+1=>uM _ _
theorem G9 {mask j:Nat}(g:jW mask) (h:Int) (hj:j<=mask):∃L,L<=13+mask/\(bs mask h L).1=j:=by obtain⟨k,hk,e⟩:=VD g (VE mask h 13) hj;exact⟨13+k,by omega,by rw[G6];exact e⟩
theorem VF {mask j:Nat}(g:jW mask) (h:Int) (hj:j<=mask):∃n,n<10*turns mask/\pr mask h n=j:=by obtain⟨L,hL,e⟩:=G9 g h hj;obtain⟨n,hn,e2⟩:=G3 mask h L;refine⟨n,by unfold turns;omega, ?_⟩;unfold pr;rw[e2];exact e
theorem HC {mask i:Nat}(hi:i<=mask):runEnd mask i<=mask:=by unfold runEnd;split <;> omega
theorem HD {mask:Nat}(h:Int):∀n,(cG mask h n).i<=mask/\(cG mask h n).j+(cG mask h n).more<=mask
 |0=>by
  have e:bits h % (mask+1)<=mask:=uM _ _;have:=HC e;have:bits h % (mask+1)<=runEnd mask (bits h % (mask+1)):=by unfold runEnd;split <;> omega
  exact⟨e,by show bits h % (mask+1)+(runEnd mask (bits h % (mask+1)) - bits h % (mask+1))<=mask;omega⟩
 |n+1=>by
  obtain⟨h1,h2⟩:=HD (mask:=mask) h n;rw[cG];unfold lE
  split
  ·exact⟨h1,by dsimp only;omega⟩
  ·dsimp only;have e:(leap mask (cG mask h n).i (cG mask h n).perturb).1<=mask:=uM _ _;have:=HC e;have:(leap mask (cG mask h n).i (cG mask h n).perturb).1<=runEnd mask (leap mask (cG mask h n).i (cG mask h n).perturb).1:=by unfold runEnd;split <;> omega
   exact⟨e,by omega⟩
theorem zL {mask:Nat}(h:Int) (n:Nat):pr mask h n<=mask:=by have:=(HD (mask:=mask) h n).2;unfold pr;omega
def Way (mask:Nat) (occ:Nat->Prop) (h:Int) (j:Nat):Prop:=∃n,pr mask h n=j/\∀m,m<n->occ (pr mask h m)
theorem Way.mono {mask:Nat}{occ occ':Nat->Prop}{h:Int}{j:Nat}(w:Way mask occ h j) (k:∀x,occ x->occ' x):Way mask occ' h j:=let ⟨n,e,a⟩:=w;⟨n,e,λm hm=>k _ (a m hm)⟩
structure TOk (t:gm) (hs:List Int):Prop where
 size:t.place.size=hs.length
 rise:eZ t.place.toList
 nod:t.dummies=#[]
 bnd:∀j∈t.place.toList,j<=t.mask
 room:hs.length<=t.mask
 msk:jW t.mask
 way:∀(i:Nat) (h:Int) (j:Nat),hs[i]?=some h->t.place.toList[i]?=some j->Way t.mask (·∈t.place.toList) h j
 plain:t.plain=true
theorem TOk.fits {t:gm}{hs:List Int}(T:TOk t hs):t.fits hs.length=true:=by unfold SetTable.fits SetTable.fill;rw[T.nod,T.size];simpa using T.room
theorem TOk.gave {t:gm}{hs:List Int}(T:TOk t hs):t.gaveWay=false:=by
 unfold SetTable.gaveWay
 rcases T.msk with e|e|e <;> rw[e] <;> rfl
theorem HE (j:Nat):SetTable.has #[] j=false:=by unfold SetTable.has;simp
theorem TOk.slot_live {t:gm}{hs:List Int}(T:TOk t hs) {j:Nat}(h:j∈t.place.toList):∃i,t.slot j=.live i/\t.place.toList[i]?=some j:=by refine⟨below t.place j, ?_,by simpa using GZ T.rise h⟩;unfold SetTable.slot;dsimp only;rw[GZ T.rise h];simp
theorem TOk.slot_empty {t:gm}{hs:List Int}(T:TOk t hs) {j:Nat}(h:j∉t.place.toList):t.slot j=.empty:=by unfold SetTable.slot;dsimp only;rw[UW h,T.nod,HE];rfl
theorem TOk.empty_there {t:gm}{hs:List Int}(T:TOk t hs):∃j,j<=t.mask/\j∉t.place.toList:=by
 rcases ou (∃j,j<=t.mask/\j∉t.place.toList)with h|h
 ·exact h
 ·exfalso
  have h1:∀j,j∈bo (t.mask+1)->j∈t.place.toList:=by
   intro j hj
   rcases ou (j∈t.place.toList)with q|q
   ·exact q
   ·exact absurd ⟨j,by have:=bx.mp hj;omega,q⟩ h
  have h2:=(pb (n:=t.mask+1)).length_le_of_subset h1;rw[jw]at h2;have h3:t.place.toList.length=hs.length:=by rw[<-T.size];simp
  have:=T.room;omega
theorem VG {t:gm}{hs:List Int}(T:TOk t hs) (hashAt:Nat->Int) (h:Int):∀(fuel n N:Nat),n<=N->N - n<fuel->pr t.mask h N∉t.place.toList->
  ∃m,n<=m/\m<=N/\(∀l,n<=l->l<m->pr t.mask h l∈t.place.toList/\∀i,t.place.toList[i]?=some (pr t.mask h l)->hashAt i≠h) /\
   ((pr t.mask h m∉t.place.toList/\probe.go t hashAt h fuel (cG t.mask h n)=some (.empty (pr t.mask h m) none)) ∨
    (∃i,t.place.toList[i]?=some (pr t.mask h m)/\hashAt i=h/\probe.go t hashAt h fuel (cG t.mask h n)=some (.candidate (pr t.mask h m) i (cG t.mask h (m+1))))):=by
 intro fuel
 induction fuel with
 |zero=>intro n N _ h2 _;omega
 |succ f ih=>
  intro n N h1 h2 h3;have hj:(cG t.mask h n).j=pr t.mask h n:=rfl
  rcases ou (pr t.mask h n∈t.place.toList)with hm|hm
  ·obtain⟨i,e1,e2⟩:=T.slot_live hm
   by_cases hh:hashAt i=h
   ·refine⟨n,ak _,h1,λl a b=>absurd a (by omega),.inr ⟨i,e2,hh, ?_⟩⟩;rw[probe.go,hj,e1];dsimp only;rw[if_pos (beq_iff_eq.mpr hh),G1];rfl
   ·have hne:n≠N:=by rintro rfl;exact h3 hm
    obtain⟨m,a1,a2,a3,a4⟩:=ih (n+1) N (by omega) (by omega) h3;have e3:probe.go t hashAt h (f+1) (cG t.mask h n)=probe.go t hashAt h f (cG t.mask h (n+1)):=by rw[probe.go,hj,e1];dsimp only;rw[if_neg (by intro q;exact hh (beq_iff_eq.mp q)),G1];rfl
    refine⟨m,by omega,a2,λl b1 b2=>?_,by rw[e3];exact a4⟩
    rcases ig n l with q|q
    ·exact a3 l (by omega) b2
    ·have:l=n:=by omega
     subst this;refine⟨hm,λi' e'=>?_⟩;have:i'=i:=zK T.rise e' e2;subst this;exact hh
  ·refine⟨n,ak _,h1,λl a b=>absurd a (by omega),.inl ⟨hm, ?_⟩⟩;rw[probe.go,hj,T.slot_empty hm];dsimp only;rw[G2]
theorem TOk.stops {t:gm}{hs:List Int}(T:TOk t hs) (h:Int):∃N,N<10*turns t.mask/\pr t.mask h N∉t.place.toList:=by obtain⟨j,hj,hn⟩:=T.empty_there;obtain⟨N,hN,e⟩:=VF T.msk h hj;exact⟨N,hN,by rw[e];exact hn⟩
theorem TOk.before {t:gm}{hs:List Int}(T:TOk t hs) {h:Int}{i j m:Nat}(e1:hs[i]?=some h) (e2:t.place.toList[i]?=some j) (hm:pr t.mask h m∉t.place.toList):∃n,n<m/\pr t.mask h n=j:=by
 obtain⟨n,e,a⟩:=T.way i h j e1 e2;refine⟨n, ?_,e⟩
 rcases ig n m with q|q
 ·exact q
 ·exfalso
  rcases ig m n with r|r
  ·exact hm (a m r)
  ·have:m=n:=by omega
   subst this;exact hm (by rw[e];exact br e2)
theorem HF {xs:Array Nat}{p j x:Nat}(hp:p<=xs.size):x∈(insertAt xs p j).toList↔x=j∨x∈xs.toList:=by
 rw[rJ _ _ _ hp,dy,bg];have e:x∈xs.toList↔x∈xs.toList.take p∨x∈xs.toList.drop p:=by rw[<-dy,yr]
 rw[e];constructor
 ·rintro (a|a|a)
  ·exact .inr (.inl a)
  ·exact .inl a
  ·exact .inr (.inr a)
 ·rintro (a|a|a)
  ·exact .inr (.inl a)
  ·exact .inl a
  ·exact .inr (.inr a)
theorem VH {t:gm}(hn:t.dummies=#[]) (j:Nat):t.put j=({ t with place:=insertAt t.place (below t.place j) j },below t.place j):=by unfold SetTable.put;dsimp only;rw[hn,HE];cases t;subst hn;rfl
theorem HG {α:Type}(l:List α) (x:α) (p i:Nat) (hp:p<=l.length):(l.take p++x::l.drop p)[i]?=if i<p then l[i]? else if i=p then some x else l[i - 1]?:=by
 have hl:(l.take p).length=p:=by rw[iz];omega
 by_cases h1:i<p
 ·rw[if_pos h1,dh (by omega),xj h1]
 ·rw[if_neg h1,dk (by omega),hl]
  by_cases h2:i=p
  ·subst h2;rw[if_pos rfl,Nat.sub_self];rfl
  ·rw[if_neg h2];obtain⟨k,rfl⟩:∃k,i=p+(k+1):=⟨i - p - 1,by omega⟩
   rw[show p+(k+1) - p=k+1 by omega,p8,List.getElem?_drop,show p+(k+1) - 1=p+k by omega]
theorem TOk.put {t:gm}{hs:List Int}(T:TOk t hs) {h:Int}{n:Nat}(hn:pr t.mask h n∉t.place.toList) (hw:∀m,m<n->pr t.mask h m∈t.place.toList) (hr:hs.length+1<=t.mask):
  TOk { t with place:=insertAt t.place (below t.place (pr t.mask h n)) (pr t.mask h n) } (hs.take (below t.place (pr t.mask h n))++h::hs.drop (below t.place (pr t.mask h n))):=by
 have hb:=(rH (j:=pr t.mask h n) T.rise).2.2;have hs':t.place.toList.length=hs.length:=by rw[<-T.size];simp
 have hlen:(hs.take (below t.place (pr t.mask h n))++h::hs.drop (below t.place (pr t.mask h n))).length=hs.length+1:=by rw[bw,cp,iz,ly];have:=T.size;omega
 refine⟨?_,UX T.rise hn,T.nod, ?_, ?_,T.msk, ?_,T.plain⟩
 ·show(insertAt t.place (below t.place (pr t.mask h n)) (pr t.mask h n)).size=_;rw[hlen];have:(insertAt t.place (below t.place (pr t.mask h n)) (pr t.mask h n)).toList.length=hs.length+1:=by rw[rJ _ _ _ hb,bw,cp,iz,ly,hs'];have:=T.size;omega
  simpa using this
 ·intro j hj
  rcases(HF hb).mp hj with rfl|hj
  ·exact zL h n
  ·exact T.bnd j hj
 ·rw[hlen];exact hr
 ·intro i h' j e1 e2;have e2':(t.place.toList.take (below t.place (pr t.mask h n))++pr t.mask h n::t.place.toList.drop (below t.place (pr t.mask h n)))[i]?=some j:=by rw[<-rJ _ _ _ hb];exact e2
  have hb2:below t.place (pr t.mask h n)<=hs.length:=by rw[<-T.size];exact hb
  rw[HG _ _ _ _ hb2]at e1;rw[HG _ _ _ _ (by rw[hs'];exact hb2)]at e2';have mono:∀x,x∈t.place.toList->x∈(insertAt t.place (below t.place (pr t.mask h n)) (pr t.mask h n)).toList:=λx hx=>(HF hb).mpr (.inr hx)
  by_cases q1:i<below t.place (pr t.mask h n)
  ·rw[if_pos q1]at e1 e2';exact(T.way _ _ _ e1 e2').mono mono
  ·rw[if_neg q1]at e1 e2'
   by_cases q2:i=below t.place (pr t.mask h n)
   ·rw[if_pos q2]at e1 e2'
    cases e1;cases e2'
    exact⟨n,rfl,λm hm=>mono _ (hw m hm)⟩
   ·rw[if_neg q2]at e1 e2';exact(T.way _ _ _ e1 e2').mono mono
def fS (owner:Array (Option Nat)) (j:Nat):Prop:=(owner.getD j (some 0)).isSome=true
theorem HH {P:Nat->Bool}{n:Nat}(h:(bo n).find? P=none):∀k,k<n->P k=false:=by intro k hk;have:=List.find?_eq_none.mp h k (bx.mpr hk);simpa using this
theorem VI {P:Nat->Bool}:∀{n k:Nat},(bo n).find? P=some k->k<n/\P k=true/\∀l,l<k->P l=false:=by
 intro n
 induction n with
 |zero=>intro k h;simp at h
 |succ n ih=>
  intro k h;rw[List.range_succ,List.find?_append]at h
  cases q:(bo n).find? P with
  |some k'=>rw[q]at h;simp at h;subst h;obtain⟨a,b,c⟩:=ih q;exact⟨by omega,b,c⟩
  |none=>
   rw[q]at h
   by_cases hp:P n=true
   ·simp[hp]at h;subst h;exact⟨by omega,hp,λl hl=>HH q l hl⟩
   ·simp[hp]at h
theorem VJ {mask:Nat}{h:Int}{L n:Nat}(e:cG mask h n=nL mask (bs mask h L).1 (bs mask h L).2):cG mask h (n+(runEnd mask (bs mask h L).1 - (bs mask h L).1)+1)=nL mask (bs mask h (L+1)).1 (bs mask h (L+1)).2:=by have r:=uL mask h _ _ n e (runEnd mask (bs mask h L).1 - (bs mask h L).1) (ak _);rw[cG,r];unfold lE;rw[if_neg (by simp)];rfl
theorem VL {mask:Nat}{h:Int}{owner:Array (Option Nat)}:∀(fuel L n:Nat),cG mask h n=nL mask (bs mask h L).1 (bs mask h L).2->(∀k,k<n->fS owner (pr mask h k))->
  (∃L',L<=L'/\L'<L+fuel/\¬ fS owner (bs mask h L').1)->
  ∃n,layClean.free mask owner fuel (bs mask h L).1 (bs mask h L).2=some (pr mask h n)/\¬ fS owner (pr mask h n)/\∀m,m<n->fS owner (pr mask h m):=by
 intro fuel
 induction fuel with
 |zero=>rintro L n _ _ ⟨L',a,b,_⟩;omega
 |succ f ih=>
  rintro L n e hb ⟨L',a1,a2,a3⟩
  have r:=uL mask h _ _ n e;have hle:(bs mask h L).1<=runEnd mask (bs mask h L).1:=by unfold runEnd;split <;> omega
  rw[layClean.free]
  cases q:(bo (runEnd mask (bs mask h L).1+1 - (bs mask h L).1)).find? λk=>(owner.getD ((bs mask h L).1+k) (some 0)).isNone with
  |some k=>
   obtain⟨b1,b2,b3⟩:=VI q;dsimp only;have ek:pr mask h (n+k)=(bs mask h L).1+k:=by unfold pr;rw[r k (by omega)]
   refine⟨n+k,by rw[ek], ?_,λm hm=>?_⟩
   ·rw[ek];unfold fS;simp at b2;simp[b2]
   ·rcases ig m n with z|z
    ·exact hb m z
    ·obtain⟨l,rfl⟩:∃l,m=n+l:=⟨m - n,by omega⟩
     have el:pr mask h (n+l)=(bs mask h L).1+l:=by unfold pr;rw[r l (by omega)]
     rw[el];have:=b3 l (by omega);unfold fS
     cases w:owner.getD ((bs mask h L).1+l) (some 0)with
     |none=>rw[w]at this;simp at this
     |some _=>rfl
  |none=>
   dsimp only;have b:=HH q;have hocc:∀l,l<=runEnd mask (bs mask h L).1 - (bs mask h L).1->fS owner ((bs mask h L).1+l):=by
    intro l hl;have:=b l (by omega);unfold fS
    cases w:owner.getD ((bs mask h L).1+l) (some 0)with
    |none=>rw[w]at this;simp at this
    |some _=>rfl
   have hne:L≠L':=by
    rintro rfl
    exact a3 (by simpa using hocc 0 (by omega))
   refine ih (L+1) _ (VJ e) (λk hk=>?_) ⟨L',by omega,by omega,a3⟩
   rcases ig k n with z|z
   ·exact hb k z
   ·obtain⟨l,rfl⟩:∃l,k=n+l:=⟨k - n,by omega⟩
    have el:pr mask h (n+l)=(bs mask h L).1+l:=by unfold pr;rw[r l (by omega)]
    rw[el];exact hocc l (by omega)
structure LOk (mask:Nat) (hs:List Int) (owner:Array (Option Nat)) (k:Nat):Prop where
 size:owner.size=mask+1
 own:∀(j i:Nat),owner[j]?=some (some i)->i<k/\∃h,hs[i]?=some h/\Way mask (fS owner) h j
 all:∀(i:Nat),i<k->∃j:Nat,owner[j]?=some (some i)
 inj:∀(j j' i:Nat),owner[j]?=some (some i)->owner[j']?=some (some i)->j=j'
theorem rL {owner:Array (Option Nat)}{j:Nat}(hj:j<owner.size):fS owner j↔∃i,owner[j]?=some (some i):=by
 unfold fS;rw[ey hj];simp only[jm,hj,dif_pos,Array.getInternal_eq_getElem,xg]
 cases owner[j] <;> simp
theorem LOk.free {mask k:Nat}{hs:List Int}{owner:Array (Option Nat)}(O:LOk mask hs owner k) (hk:k<=mask):∃j,j<=mask/\¬ fS owner j:=by
 rcases ou (∃j,j<=mask/\¬ fS owner j)with h|h
 ·exact h
 ·exfalso
  have h1:∀j,j<=mask->∃i,owner[j]?=some (some i):=λj hj=>by
   rcases ou (fS owner j)with q|q
   ·exact(rL (by rw[O.size];omega)).mp q
   ·exact absurd ⟨j,hj,q⟩ h
  let f:Nat->Nat:=λj=>match owner[j]? with|some (some i)=>i|_=>0
  have hf:∀j,j<=mask->owner[j]?=some (some (f j)):=λj hj=>by obtain⟨i,e⟩:=h1 j hj;show owner[j]?=some (some (match owner[j]? with|some (some i)=>i|_=>0));rw[e]
  have nd:((bo (mask+1)).map f).Nodup:=by rw[vf];rw[rn];refine rh ?_ (pb (n:=mask+1));intro a b ha hb hab e;have ea:=hf a (by have:=bx.mp ha;omega);have eb:=hf b (by have:=bx.mp hb;omega);rw[e]at ea;exact hab (O.inj _ _ _ ea eb)
  have sub:∀x,x∈(bo (mask+1)).map f->x∈bo k:=by intro x hx;obtain⟨j,hj,rfl⟩:=dg.mp hx;exact bx.mpr (O.own j _ (hf j (by have:=bx.mp hj;omega))).1
  have:=nd.length_le_of_subset sub;simp at this;omega
theorem LOk.step {mask k:Nat}{hs:List Int}{owner:Array (Option Nat)}{h:Int}(g:jW mask) (O:LOk mask hs owner k) (hk:k<=mask) (hh:hs[k]?=some h):
  ∃j,layClean.free mask owner (turns mask) (bits h % (mask+1)) (bits h)=some j/\LOk mask hs (owner.setIfInBounds j (some k)) (k+1):=by
 obtain⟨j0,hj0,hn0⟩:=O.free hk;obtain⟨L,hL,eL⟩:=G9 g h hj0;obtain⟨n,e,hn,hw⟩:=VL (mask:=mask) (h:=h) (owner:=owner) (turns mask) 0 0 rfl (λk hk=>absurd hk (by omega)) ⟨L,by omega,by unfold turns;omega,by rw[eL];exact hn0⟩;refine⟨pr mask h n,e, ?_⟩;have hjl:pr mask h n<owner.size:=by rw[O.size];have:=zL (mask:=mask) h n;omega
 have hjn:owner[pr mask h n]?=some none:=by
  rw[ey hjl];have:¬ ∃i,owner[pr mask h n]?=some (some i):=λq=>hn ((rL hjl).mpr q)
  cases w:owner[pr mask h n]with
  |none=>rfl
  |some i=>exact absurd ⟨i,by rw[ey hjl,w]⟩ this
 have get:∀j,(owner.setIfInBounds (pr mask h n) (some k))[j]?=if pr mask h n=j then some (some k)else owner[j]?:=by
  intro j;rw[Array.getElem?_setIfInBounds]
  by_cases q:pr mask h n=j
  ·rw[if_pos q,if_pos q,if_pos hjl]
  ·rw[if_neg q,if_neg q]
 have hsz:(owner.setIfInBounds (pr mask h n) (some k)).size=mask+1:=by rw[Array.size_setIfInBounds];exact O.size
 have occm:∀x,fS owner x->fS (owner.setIfInBounds (pr mask h n) (some k)) x:=by
  intro x hx
  by_cases hl:x<owner.size
  ·obtain⟨i,e⟩:=(rL hl).mp hx;refine(rL (by rw[hsz,<-O.size];exact hl)).mpr ?_;rw[get]
   by_cases q:pr mask h n=x
   ·exact⟨k,if_pos q⟩
   ·exact⟨i,by rw[if_neg q];exact e⟩
  ·unfold fS;simp[jm,hl]
 refine⟨hsz, ?_, ?_, ?_⟩
 ·intro j i e;rw[get]at e
  by_cases q:pr mask h n=j
  ·rw[if_pos q]at e;cases e;exact⟨by omega,h,hh,n,q,λm hm=>occm _ (hw m hm)⟩
  ·rw[if_neg q]at e;obtain⟨a,h',b,c⟩:=O.own j i e;exact⟨by omega,h',b,c.mono occm⟩
 ·intro i hi
  by_cases q:i=k
  ·subst q;exact⟨pr mask h n,by rw[get,if_pos rfl]⟩
  ·obtain⟨j,e⟩:=O.all i (by omega);refine⟨j, ?_⟩;rw[get]
   by_cases z:pr mask h n=j
   ·rw[<-z,hjn]at e;cases e
   ·rw[if_neg z];exact e
 ·intro j j' i e e';rw[get]at e e'
  by_cases z:pr mask h n=j
  ·rw[if_pos z]at e;cases e
   by_cases z':pr mask h n=j'
   ·exact z.symm.trans z'
   ·rw[if_neg z']at e';have:=(O.own j' _ e').1;omega
  ·rw[if_neg z]at e
   by_cases z':pr mask h n=j'
   ·rw[if_pos z']at e';cases e';have:=(O.own j _ e).1;omega
   ·rw[if_neg z']at e';exact O.inj _ _ _ e e'
theorem HI {mask:Nat}{hs:List Int}(g:jW mask) (hl:hs.length<=mask):∀(l pre:List Int) (owner:Array (Option Nat)),hs=pre++l->LOk mask hs owner pre.length->
  ∃owner',l.foldl (λ(acc:Option (Array (Option Nat)×Nat)) h=>do
    let (owner,k) <-acc
    let j <-layClean.free mask owner (turns mask) (bits h % (mask+1)) (bits h)
    pure (owner.setIfInBounds j (some k),k+1)) (some (owner,pre.length))=some (owner',hs.length)/\LOk mask hs owner' hs.length
 | [],pre,owner,e,O=>by rw[kj]at e;subst e;exact⟨owner,rfl,O⟩
 |h::l,pre,owner,e,O=>by
  have hh:hs[pre.length]?=some h:=by rw[e];simp
  obtain⟨j,e1,O1⟩:=O.step g (by rw[e]at hl;simp at hl;omega) hh;have e2:hs=(pre++[h])++l:=by rw[e];simp
  have hlen:(pre++[h]).length=pre.length+1:=by simp
  obtain⟨o',a,b⟩:=HI g hl l (pre++[h]) _ e2 (by rw[hlen];exact O1);refine⟨o', ?_,b⟩;rw[List.foldl_cons];rw[<-a,hlen]
  congr 1
  show(do let j <-layClean.free mask owner (turns mask) (bits h % (mask+1)) (bits h);pure (owner.setIfInBounds j (some pre.length),pre.length+1))=_;rw[e1];rfl
theorem VM {mask:Nat}{hs:Array Int}(g:jW mask) (hl:hs.size<=mask):∃owner,layClean mask hs=some owner/\LOk mask hs.toList owner hs.size:=by
 have O0:LOk mask hs.toList (Array.replicate (mask+1) none) 0:=by
  refine⟨by simp, ?_,λi hi=>absurd hi (by omega), ?_⟩
  ·intro j i e;rw[xb]at e
   split at e <;> simp at e
  ·intro j j' i e;rw[xb]at e
   split at e <;> simp at e
 obtain⟨o',a,b⟩:=HI g (by simpa using hl) hs.toList [] _ rfl O0;refine⟨o', ?_,by simpa using b⟩;unfold layClean;rw[<-Array.foldl_toList];simp only[jo]at a;rw[a];rfl
theorem Way.mono' {mask:Nat}{occ occ':Nat->Prop}{h:Int}{j:Nat}(w:Way mask occ h j) (k:∀x,x<=mask->occ x->occ' x):Way mask occ' h j:=let ⟨n,e,a⟩:=w;⟨n,e,λm hm=>k _ (zL h m) (a m hm)⟩
theorem HJ (g:Nat->Option Nat):∀(l:List Nat),l.Pairwise (·<·)->((l.filterMap λj=>(g j).map ((j,·):Nat->Nat×Nat)).map du).Pairwise (·<·)
 | [],_=>by simp
 |j::l,h=>by
  rw[fe]at h;have ih:=HJ g l h.2
  cases e:g j with
  |none=>simpa[bz,e]using ih
  |some i=>
   simp only[bz,e,Option.map_some,da,fe];refine⟨?_,ih⟩;intro a ha;obtain⟨⟨x,y⟩,hp,rfl⟩:=dg.mp ha;obtain⟨z,hz,ez⟩:=jc.mp hp
   cases q:g z with
   |none=>rw[q]at ez;simp at ez
   |some i'=>rw[q]at ez;simp at ez;have:=h.1 z hz;omega
theorem VN {mask finger moves:Nat}{led:Bool}{hs:Array Int}(g:jW mask) (hl:hs.size<=mask):
  ∃t order,laid mask finger moves led true hs=some (t,order)/\t.mask=mask/\t.led=led/\order.toList.Perm (bo hs.size)/\TOk t (order.toList.filterMap (hs.toList[·]?)):=by
 obtain⟨owner,e,O⟩:=VM g hl;generalize hlive:(bo (mask+1)).filterMap (λj=>(owner.getD j none).map ((j,·):Nat->Nat×Nat))=live;have hmem:∀j i,(j,i)∈live↔owner[j]?=some (some i):=by
  intro j i;rw[<-hlive,jc];constructor
  ·rintro ⟨x,hx,ex⟩
   have hx':x<owner.size:=by rw[O.size];exact bx.mp hx
   have eg:owner.getD x none=owner[x]:=by simp[jm,hx']
   rw[eg]at ex
   cases q:owner[x]with
   |none=>rw[q]at ex;simp at ex
   |some i'=>rw[q]at ex;simp at ex;obtain⟨rfl,rfl⟩:=ex;rw[ey hx',q]
  ·intro h;obtain⟨hx',q⟩:=de.mp h;refine⟨j,bx.mpr (by rw[<-O.size];exact hx'), ?_⟩;have eg:owner.getD j none=owner[j]:=by simp[jm,hx']
   rw[eg,q];rfl
 have hrise:(live.map du).Pairwise (·<·):=by rw[<-hlive];exact HJ _ _ (List.pairwise_lt_range)
 have hperm:(live.map nt).Perm (bo hs.size):=by
  refine(nr ?_ pb).mpr ?_
  ·rw[vf,rn];rw[rn]at hrise;refine rh ?_ hrise
   rintro ⟨a,i⟩ ⟨b,i'⟩ ha hb hab e
   have e':i=i':=e;subst e';have:=O.inj a b i ((hmem _ _).mp ha) ((hmem _ _).mp hb);have hab':a<b:=hab;omega
  ·intro i;rw[bx];constructor
   ·intro h;obtain⟨⟨j,i'⟩,hp,rfl⟩:=dg.mp h;exact(O.own j i' ((hmem _ _).mp hp)).1
   ·intro h;obtain⟨j,ej⟩:=O.all i h;exact dg.mpr ⟨(j,i),(hmem _ _).mpr ej,rfl⟩
 have hlen:live.length=hs.size:=by simpa using hperm.length_eq
 have hget:∀(i:Nat),((live.map nt).filterMap (hs.toList[·]?))[i]?=(live[i]?).bind λp=>hs.toList[p.2]?:=by
  have gen:∀(l:List (Nat×Nat)),(∀p∈l,p.2<hs.toList.length)->∀(i:Nat),((l.map nt).filterMap (hs.toList[·]?))[i]?=(l[i]?).bind λp=>hs.toList[p.2]?:=by
   intro l
   induction l with
   |nil=>intro _ i;simp
   |cons p l ih=>
    intro hp i;have h1:=hp p (ba ..);have e1:hs.toList[p.2]?=some hs.toList[p.2]:=az h1;rw[da,bz,e1]
    cases i with
    |zero=>simp[e1]
    |succ i=>simp only[p8];exact ih (λq hq=>hp q (aw _ hq)) i
  intro i;refine gen live ?_ i
  rintro ⟨j,k⟩ hp
  have:=(O.own j k ((hmem _ _).mp hp)).1;simpa using this
 have hlen':((live.map nt).filterMap (hs.toList[·]?)).length=hs.size:=by
  have gen:∀(l:List (Nat×Nat)),(∀p∈l,p.2<hs.toList.length)->((l.map nt).filterMap (hs.toList[·]?)).length=l.length:=by
   intro l
   induction l with
   |nil=>intro _;rfl
   |cons p l ih=>intro hp;have h1:=hp p (ba ..);have e1:hs.toList[p.2]?=some hs.toList[p.2]:=az h1;rw[da,bz,e1];show(_::_).length=_;rw[cp,cp,ih (λq hq=>hp q (aw _ hq))]
  rw[gen live ?_,hlen]
  rintro ⟨j,k⟩ hp
  have:=(O.own j k ((hmem _ _).mp hp)).1;simpa using this
 refine⟨{ mask,place:=(live.map du).toArray,dummies:=#[],finger,led,moves,plain:=true },(live.map nt).toArray, ?_,rfl,rfl,hperm, ?_⟩
 ·unfold laid;rw[e];show some _=some _;rw[hlive]
 ·refine⟨(by show(live.map du).toArray.size=((live.map nt).filterMap (hs.toList[·]?)).length;rw[hlen',ar,bh,hlen]),hrise,rfl, ?_,by rw[hlen'];exact hl,g, ?_,rfl⟩
  ·intro j hj;obtain⟨⟨x,y⟩,hp,rfl⟩:=dg.mp (show j∈live.map du from hj);have:=(hmem _ _).mp hp;obtain⟨hx',_⟩:=de.mp this;have:=O.size;show x<=mask;omega
  ·intro i h j e1 e2;have e1':((live.map nt).filterMap (hs.toList[·]?))[i]?=some h:=e1;rw[hget]at e1';have e2':(live.map du)[i]?=some j:=e2;rw[dj]at e2'
   cases q:live[i]? with
   |none=>rw[q]at e2';cases e2'
   |some p=>
    obtain⟨x,k⟩:=p;rw[q]at e1' e2';simp at e1' e2';subst e2';have hp:=br q;obtain⟨a,h',b,c⟩:=O.own x k ((hmem _ _).mp hp);have hh:h'=h:=by
     have:hs.toList[k]?=some h:=by simpa using e1'
     rw[b]at this;exact cn this
    subst hh;refine c.mono' λy hy ho=>?_;obtain⟨i',ei⟩:=(rL (by rw[O.size];omega)).mp ho;exact dg.mpr ⟨(y,i'),(hmem _ _).mpr ei,rfl⟩
end SM
namespace SR
open PySem PySem.Spec PyProof.Rows SM
section
variable{prog:bf}{w:cg}
def hk (prog:bf) (w:cg) (k:List Int):Int:=tupleKeyHash (intKind prog w) k
abbrev KB:=List (List Int×ah)
def fF (prog:bf) (w:cg) (kb:KB):List (Int×af):=kb.map λp=>(hk prog w p.1,gh p.2)
structure Parts (prog:bf) (w:cg) (h:ck) (a:ah) (kb:KB) (o:Obj) (es:Array (Int×af)) (ep:Nat) (t:gm):Prop where
 obj:h.get? a=some o
 ex:o.ExactSet
 data:o.data=.set es ep t
 es:es.toList=fF prog w kb
 tab:TOk t (kb.map λp=>hk prog w p.1)
 nd:(kb.map du).Nodup
 nf:kb.length*5<t.mask*3
 led:t.led=!w.params.followText "set-order"
def jH (prog:bf) (w:cg) (h:ck) (a:ah) (kb:KB):Prop:=∃o es ep t,Parts prog w h a kb o es ep t
def uN (prog:bf) (w:cg) (h:ck) (kb:KB):Prop:=∀p∈kb,fi (intKind prog w) h p.1 p.2
variable{h:ck}{a:ah}{kb:KB}{o:Obj}{es:Array (Int×af)}{ep:Nat}{t:gm}
theorem Parts.size (P:Parts prog w h a kb o es ep t):es.size=kb.length:=by have:=congrArg ka P.es;simpa[fF]using this
theorem Parts.fits (P:Parts prog w h a kb o es ep t):t.fits es.size=true:=by have:=P.tab.fits;rw[bh]at this;rw[P.size];exact this
theorem Parts.at_ (P:Parts prog w h a kb o es ep t) {i:Nat}{p:List Int×ah}(e:kb[i]?=some p):es[i]?=some (hk prog w p.1,.ref p.2):=by
 have:es.toList[i]?=some (hk prog w p.1,gh p.2):=by rw[P.es];simp[fF,e]
 simpa using this
theorem Parts.hash_at (P:Parts prog w h a kb o es ep t) {i:Nat}{p:List Int×ah}(e:kb[i]?=some p):(es[i]?.map (·.1)).getD 0=hk prog w p.1:=by rw[P.at_ e];rfl
end
section
variable{prog:bf}{w:cg}{A:cf}{E:af->ag->Prop}{s:ag}{a:ah}{kb:KB}{o:Obj}{es:Array (Int×af)}{ep:Nat}{t:gm}
theorem HK {ks:List Int}{b:ah}{Q:Bool->ag->Prop}(hb:fi (intKind prog w) s.heap ks b) (h:Q false s):wpAny (model prog w) A (ofAClassStatement 8 (.ref b)) Q E s:=by
 obtain⟨o,items,n,ho,hc,hd,hi⟩:=hb;unfold ofAClassStatement;refine aa (oj (T := "tuple") ⟨o,ho,hc⟩ ?_);show wpAny _ _ ((if(("tuple" : String) == "tuple")=true then(pure true:Sem Bool)else isSubtype (.type "tuple") (.type "tuple")) >>= _) _ _ s;rw[if_pos (by decide)];refine aa (ai ?_);simp only[mr,cj,if_false];refine aa (iu ho hd ?_);refine aa ?_;show wpAny _ _ (forIn items _ _) _ _ s;rw[<-zh];refine qe _ (λrest r s'=>r.1=none/\s'=s/\∀v∈rest,carriedByValue v=true) _ ?_ ?_ _ _ ⟨rfl,rfl,hi.byValue⟩
 ·rintro v rest r s' ⟨hr,rfl,hall⟩
  have hv:=hall v ba;have e:ofAClassStatement 7 v=pure false:=by
   cases v with
   |ref a=>simp[carriedByValue]at hv
   |_=>rfl
  rw[e];refine aa (ai ?_);simp only[cj,if_false];exact ai ⟨rfl,rfl,λu hu'=>hall u (aw _ hu')⟩
 ·rintro ⟨r1,r2⟩ s' ⟨hr,rfl,_⟩
  simp only at hr;subst hr;exact ai h
theorem VO {k:List Int}{b:ah}{Q:Bool->ag->Prop}(hb:fi (intKind prog w) s.heap k b):∀(l:List af),(∀y∈l,∃k' b',y=.ref b'/\fi (intKind prog w) s.heap k' b')->Q false s->
  wpAny (model prog w) A (searchCouldBeSeen (.ref b) l) Q E s:=by
 intro l hl h;unfold searchCouldBeSeen;refine aa ?_;refine qe _ (λrest r s'=>r.1=none/\s'=s/\∀y∈rest,∃k' b',y=.ref b'/\fi (intKind prog w) s.heap k' b') _ ?_ ?_ _ _ ⟨rfl,rfl,hl⟩
 ·rintro y rest r s' ⟨hr,rfl,hall⟩
  obtain⟨k',b',rfl,hb'⟩:=hall y ba;have fin:r.1=none/\s'=s'/\∀y∈rest,∃k' b',y=.ref b'/\fi (intKind prog w) s'.heap k' b':=⟨hr,rfl,λu hu=>hall u (aw _ hu)⟩
  dsimp only
  split
  ·exact ai ⟨rfl,rfl,fin.2.2⟩
  ·refine aa (wpAny_eqIsQuiet_tuple hb ?_);simp only[mr,cj,if_false];refine aa (wpAny_eqIsQuiet_tuple hb' ?_);simp only[mr,cj,if_false];refine aa (HK hb ?_);simp only[cj,if_false];refine aa (HK hb' ?_);simp only[cj,if_false];exact ai ⟨rfl,rfl,fin.2.2⟩
 ·rintro ⟨r1,r2⟩ s' ⟨hr,rfl,_⟩
  simp only at hr;subst hr;exact ai h
end
section
variable{prog:bf}{w:cg}{A:cf}{E:af->ag->Prop}{s:ag}{a:ah}{kb:KB}{o:Obj}{es:Array (Int×af)}{ep:Nat}{t:gm}{k:List Int}{b:ah}
theorem mem_keys {kb:KB}{k:List Int}:k∈kb.map du↔∃(i:Nat) (b:ah),kb[i]?=some (k,b):=by
 constructor
 ·intro h;obtain⟨⟨k',b⟩,hp,rfl⟩:=dg.mp h;obtain⟨i,hi,e⟩:=jk hp;exact⟨i,b,by rw[az hi,e]⟩
 ·rintro ⟨i,b,e⟩
  exact dg.mpr ⟨(k,b),br e,rfl⟩
theorem VP (P:Parts prog w s.heap a kb o es ep t) (T:uN prog w s.heap kb) (hb:fi (intKind prog w) s.heap k b) (hu:A.units<cLine) {Q:SetFound->ag->Prop}
  (hin:k∈kb.map du->Q (.there none) s)
  (hout:k∉kb.map du->∀n,pr t.mask (hk prog w k) n∉t.place.toList->(∀m,m<n->pr t.mask (hk prog w k) m∈t.place.toList)->Q (.free (pr t.mask (hk prog w k) n) false) s)
  (N:Nat) (hN:N<10*pq t.mask) (hNe:pr t.mask (hk prog w k) N∉t.place.toList):
  ∀(fuel n:Nat) (stand:Option SetTable.Probe),stand.getD (t.probeStart (hk prog w k))=cG t.mask (hk prog w k) n->n<=N->N - n<fuel->
   (∀l,l<n->pr t.mask (hk prog w k) l∈t.place.toList/\∀(i:Nat) p,t.place.toList[i]?=some (pr t.mask (hk prog w k) l)->kb[i]?=some p->p.1≠k)->
   wpAny (model prog w) A (setSearchFrom a (.ref b) (hk prog w k) true fuel stand) Q E s:=by
 intro fuel
 induction fuel with
 |zero=>intro n stand _ _ h2;omega
 |succ f ih=>
  intro n stand hst h1 h2 hseen;have hlen:t.place.toList.length=kb.length:=by have:=P.tab.size;simpa using this
  have kbat:∀{i j:Nat},t.place.toList[i]?=some j->∃p,kb[i]?=some p:=λ{i j} e=>by obtain⟨hi,_⟩:=ax.mp e;exact⟨kb[i]'(by omega),az (by omega)⟩
  unfold setSearchFrom;refine aa (iw P.obj P.data P.fits ?_);dsimp only;rw[P.tab.gave];simp only[cj,if_false];obtain⟨m,a1,a2,a3,a4⟩:=VG P.tab (λi=>(es[i]?.map (·.1)).getD 0) (hk prog w k) (10*pq t.mask) n N h1 (by omega) hNe;have pass:∀l,l<m->pr t.mask (hk prog w k) l∈t.place.toList/\∀(i:Nat) p,t.place.toList[i]?=some (pr t.mask (hk prog w k) l)->kb[i]?=some p->p.1≠k:=by
   intro l hl
   rcases ig l n with q|q
   ·exact hseen l q
   ·obtain⟨b1,b2⟩:=a3 l q hl;refine⟨b1,λi p e1 e2 e3=>b2 i e1 ?_⟩;show(es[i]?.map (·.1)).getD 0=_;rw[P.hash_at e2,e3]
  rcases a4 with⟨b1,b2⟩|⟨i,b1,b2,b3⟩
  ·have e:∀g:Nat->Int,g=(λi=>(es[i]?.map (·.1)).getD 0)->t.probe g (hk prog w k) (stand.getD (t.probeStart (hk prog w k)))=some (.empty (pr t.mask (hk prog w k) m) none):=by rintro g rfl;rw[hst];exact b2
   rw[e]
   rotate_left
   ·rfl
   refine ai (hout ?_ m b1 λl hl=>(pass l hl).1);intro hmem;obtain⟨i,b',ei⟩:=mem_keys.mp hmem;obtain⟨j,ej⟩:∃j,t.place.toList[i]?=some j:=by obtain⟨hi,_⟩:=ax.mp ei;exact⟨_,az (by omega)⟩
   obtain⟨n',hn',e'⟩:=P.tab.before (i:=i) (h:=hk prog w k) (by rw[dj,ei];rfl) ej b1;exact(pass n' hn').2 i (k,b') (by rw[e'];exact ej) ei rfl
  ·have e:∀g:Nat->Int,g=(λi=>(es[i]?.map (·.1)).getD 0)->t.probe g (hk prog w k) (stand.getD (t.probeStart (hk prog w k)))=some (.candidate (pr t.mask (hk prog w k) m) i (cG t.mask (hk prog w k) (m+1))):=by rintro g rfl;rw[hst];exact b3
   rw[e]
   rotate_left
   ·rfl
   dsimp only;obtain⟨p,ep'⟩:=kbat b1;have hp:=T p (br ep');have es1:t.sameMemory t.moves t.mask=some true:=by unfold SetTable.sameMemory;simp
   obtain⟨i2,e2,e3⟩:=P.tab.slot_live (br b1);have hi2:i2=i:=zK P.tab.rise e3 b1;subst hi2;have nxt:¬ p.1=k->wpAny (model prog w) A (setSearchFrom a (.ref b) (hk prog w k) true f (some (cG t.mask (hk prog w k) (m+1)))) Q E s:=by
    intro hpk;have hmN:m≠N:=by rintro rfl;exact hNe (br b1)
    refine ih (m+1) _ rfl (by omega) (by omega) ?_
    ·intro l hl
     rcases ig l m with q|q
     ·exact pass l q
     ·have:l=m:=by omega
      subst this;refine⟨br b1,λi' p' z1 z2=>?_⟩;have:i'=i2:=zK P.tab.rise z1 b1;subst this;rw[ep']at z2;cases z2;exact hpk
   cases hl:t.led
   case' true=>simp only[mr,cj,if_false]
   case' false=>
    simp only[Bool.not_false,if_true];refine aa (VO hb _ ?_ ?_)
    ·intro y hy;obtain⟨e1,he1,rfl⟩:=dg.mp hy;have he2:=(Array.mem_filter.mp (yt.mp he1)).1;have he3:e1∈fF prog w kb:=by rw[<-P.es];exact yt.mpr he2
     obtain⟨q,hq,rfl⟩:=dg.mp he3;exact⟨q.1,q.2,rfl,T q hq⟩
    simp only[cj,if_false]
   all_goals
    rw[P.at_ ep'];dsimp only;refine aa (gr (wpAny_eqBool_tuple hu hp hb ?_));refine aa (iw P.obj P.data P.fits ?_);dsimp only
    by_cases hpk:p.1=k
    ·rw[decide_eq_true hpk];simp only[Bool.true_and,if_true];exact ai (hin (mem_keys.mpr ⟨i2,p.2,by rw[ep',<-hpk]⟩))
    ·rw[decide_eq_false hpk];simp only[nq,cj,if_false];rw[es1];dsimp only;simp only[if_true];rw[e2];dsimp only;rw[P.at_ ep'];dsimp only;refine aa (wpAny_isSame_ref_self ?_);refine aa (ai ?_);simp only[if_true];exact nxt hpk
theorem VQ (P:Parts prog w s.heap a kb o es ep t) (T:uN prog w s.heap kb) (hb:fi (intKind prog w) s.heap k b) (hu:A.units<cLine) {Q:SetFound->ag->Prop}
  (hin:k∈kb.map du->Q (.there none) s)
  (hout:k∉kb.map du->∀n,pr t.mask (hk prog w k) n∉t.place.toList->(∀m,m<n->pr t.mask (hk prog w k) m∈t.place.toList)->Q (.free (pr t.mask (hk prog w k) n) false) s):
  wpAny (model prog w) A (setSearch a (.ref b) (hk prog w k) true) Q E s:=by
 obtain⟨N,hN,hNe⟩:=P.tab.stops (hk prog w k);have hm:10*pq t.mask<=1420:=by
  unfold pq
  rcases P.tab.msk with e|e|e <;> rw[e] <;> decide
 exact VP P T hb hu hin hout N hN hNe 100000 0 none rfl (ja _) (by omega) λl hl=>absurd hl (by omega)
theorem VR {Q:Bool->ag->Prop}(hb:fi (intKind prog w) s.heap k b) (h:Q true s):wpAny (model prog w) A (hashByValue 8 (.ref b)) Q E s:=by
 have hT:=hb.typeIs;obtain⟨o,items,n,ho,hc,hd,hi⟩:=hb;unfold hashByValue;refine aa (wpAny_specialOf hT F.slot_tuple_hash.lookup ?_);dsimp only;refine aa (iu ho hd ?_);refine aa ?_;show wpAny _ _ (forIn items _ _) _ _ s;rw[<-zh];have hv:∀v∈items.toList,∃i t,v=.int i t:=by
  clear hd ho
  generalize items.toList=l at hi
  induction hi with
  |nil=>intro v h;cases h
  |cons h1 _ ih=>
   intro v hv
   rcases bg.mp hv with rfl|hv
   ·obtain⟨t,e⟩:=kq h1;exact⟨_,t,e⟩
   ·exact ih v hv
 refine qe _ (λrest r s'=>r.1=none/\s'=s/\∀v∈rest,∃i t,v=.int i t) _ ?_ ?_ _ _ ⟨rfl,rfl,hv⟩
 ·rintro v rest r s' ⟨hr,rfl,hall⟩
  obtain⟨i,t,rfl⟩:=hall v ba;refine aa (ai ?_);simp only[mr,cj,if_false];exact ai ⟨rfl,rfl,λu hu'=>hall u (aw _ hu')⟩
 ·rintro ⟨r1,r2⟩ s' ⟨hr,rfl,_⟩
  simp only at hr;subst hr;exact ai h
end
section
variable{prog:bf}{w:cg}{A:cf}{E:af->ag->Prop}{s:ag}{a:ah}{kb:KB}{o:Obj}{es:Array (Int×af)}{ep:Nat}{t:gm}{k:List Int}{b:ah}
theorem VS (p:Nat):(fF prog w kb).take p++(hk prog w k,gh b)::(fF prog w kb).drop p=fF prog w (kb.take p++(k,b)::kb.drop p):=by simp[fF,y8,qw]
theorem VT (p:Nat):(kb.map λq=>hk prog w q.1).take p++hk prog w k::(kb.map λq=>hk prog w q.1).drop p=(kb.take p++(k,b)::kb.drop p).map λq=>hk prog w q.1:=by simp[y8,qw]
theorem uO {α:Type}(l:List α) (x:α) (p:Nat):(l.take p++x::l.drop p).Perm (x::l):=by have h:(l.take p++x::l.drop p).Perm (x::(l.take p++l.drop p)):=List.perm_middle;rwa [yr]at h
theorem zM {p:Nat}(h:(kb.map du).Nodup) (hk:k∉kb.map du):((kb.take p++(k,b)::kb.drop p).map du).Nodup:=by have q:=(uO kb (k,b) p).map du;exact q.nodup_iff.mpr (je.mpr ⟨hk,h⟩)
theorem HL {es':Array (Int×af)}{t':gm}(hd:o.data=.set es ep t) (ho:s.heap.get? a=some o):(s.heap.update a (Obj.putSet es' t')).get? a=some { o with data:=.set es' (ep+1) t' }:=by have:=lx (Obj.putSet es' t') ho (by rw[putSet_of es' t' hd];rfl);rw[putSet_of es' t' hd]at this;exact this
theorem HM {α:Type}:∀(l:List α),(bo l.length).filterMap (λi=>l[i]?)=l
 | []=>rfl
 |x::l=>by
  rw[cp,yf,bz];simp only[List.getElem?_cons_zero,List.filterMap_map]
  congr 1
  exact HM l
theorem HN {kb:KB}{mask' wanted:Nat}{Q:Unit->ag->Prop}(ho:s.heap.get? a=some o) (hex:o.ExactSet) (hd:o.data=.set es ep t) (hes:es.toList=fF prog w kb) (hT:TOk t (kb.map λp=>hk prog w p.1)) (nd:(kb.map du).Nodup) (hled:t.led=!w.params.followText "set-order")
  (hw:yh wanted - 1=mask') (hg:jW mask') (hl:kb.length*5<mask'*3) (hz:yh wanted<=bq)
  (h:∀h' kb',gv a s.heap h'->jH prog w h' a kb'->kb'.Perm kb->Q () { s with heap:=h' }):
  wpAny (model prog w) A (setRelay a wanted) Q E s:=by
 have hsz:es.size=kb.length:=by have:=congrArg ka hes;simpa[fF]using this
 have hfit:t.fits es.size=true:=by have:=hT.fits;rw[bh]at this;rw[hsz];exact this
 have eh:(es.map (·.1)).toList=kb.map λp=>hk prog w p.1:=by rw[Array.toList_map,hes];simp[fF]
 have hs':(es.map (·.1)).size=kb.length:=by simp[hsz]
 unfold setRelay;refine aa (iw ho hd hfit ?_);dsimp only;rw[if_neg (by omega)];obtain⟨t',order,e1,e2,e3,e4,e5⟩:=VN (mask:=mask') (finger:=t.finger) (moves:=t.movedTo mask') (led:=t.led) (hs:=es.map (·.1)) hg (by rw[hs'];omega);have er:t.relaid (es.map (·.1)) wanted=some (t',order):=by unfold SetTable.relaid;rw[hw,hT.plain];exact e1
 rw[er];have hlt:∀i∈order.toList,i<kb.length:=λi hi=>by have:=bx.mp (e4.mem_iff.mp hi);omega
 have hfm:∀(l:List Nat),(∀i∈l,i<kb.length)->l.filterMap (λi=>es[i]?)=fF prog w (l.filterMap λi=>kb[i]?):=by
  intro l hl
  induction l with
  |nil=>rfl
  |cons i l ih=>
   have hi:=hl i ba;have q1:kb[i]?=some kb[i]:=az hi;have q2:es[i]?=some (hk prog w kb[i].1,gh kb[i].2):=by
    have:es.toList[i]?=some (hk prog w kb[i].1,gh kb[i].2):=by rw[hes];simp[fF,q1]
    simpa using this
   rw[bz,bz,q1,q2];simp only;rw[ih λj hj=>hl j (aw _ hj)];rfl
 have hkey:∀(l:List Nat),(∀i∈l,i<kb.length)->l.filterMap (λi=>(es.map (·.1)).toList[i]?)=(l.filterMap λi=>kb[i]?).map λp=>hk prog w p.1:=by
  intro l hl
  induction l with
  |nil=>rfl
  |cons i l ih=>
   have hi:=hl i ba;have q1:kb[i]?=some kb[i]:=az hi;have q2:(es.map (·.1)).toList[i]?=some (hk prog w kb[i].1):=by rw[eh];simp[q1]
   rw[bz,bz,q1,q2];simp only;rw[ih λj hj=>hl j (aw _ hj)];rfl
 have hperm:(order.toList.filterMap λi=>kb[i]?).Perm kb:=by have q:=e4.filterMap (λi=>kb[i]?);rw[hs']at q;exact q.trans (List.Perm.of_eq (HM kb))
 have hes2:(order.filterMap (es[·]?)).toList=fF prog w (order.toList.filterMap λi=>kb[i]?):=by rw[Array.toList_filterMap];exact hfm _ hlt
 have hsz2:(order.filterMap (es[·]?)).size=es.size:=by have:=congrArg ka hes2;rw[kg]at this;rw[this,hsz];simp[fF,hperm.length_eq]
 show wpAny _ _ ((if((order.filterMap (es[·]?)).size != es.size)=true then(unsupported "internal:set-table-lost-an-element" >>= λ_=>pure (order.filterMap (es[·]?),t'))else pure (order.filterMap (es[·]?),t')) >>= _) _ _ s;rw[if_neg (by rw[hsz2];simp)];refine aa (ai ?_);dsimp only;refine wpAny_storeSet_of ho hd ?_ (by rw[hsz2,hsz];rcases hg with q|q|q <;> (rw[q]at hl;rw[jd];omega));refine h _ (order.toList.filterMap λi=>kb[i]?) (lj ..) ⟨_,_,_,t',HL hd ho,hex,rfl,hes2, ?_, ?_, ?_,e3.trans hled⟩ hperm
 ·rw[<-hkey _ hlt];exact e5
 ·exact(hperm.map du).nodup_iff.mpr nd
 ·rw[hperm.length_eq,e2];exact hl
theorem VU (P:Parts prog w s.heap a kb o es ep t) (T:uN prog w s.heap kb) (hb:fi (intKind prog w) s.heap k b) (hu:A.units<cLine) (h76:k∉kb.map du->kb.length+1<=76) {Q:Bool->ag->Prop}
  (h:∀h' kb' r,gv a s.heap h'->jH prog w h' a kb'->(k∈kb.map du->kb'.Perm kb)->(k∉kb.map du->kb'.Perm ((k,b)::kb))->Q r { s with heap:=h' }):
  wpAny (model prog w) A (setAddHashed a (.ref b) (hk prog w k)) Q E s:=by
 unfold setAddHashed;refine gr ?_;unfold setAddHashedIn;refine aa (iw P.obj P.data P.fits ?_);dsimp only;have hbs:byScan (.ref b) es=false:=by simp[byScan,Value.scannable]
 rw[hbs];simp only[cj,if_false];refine aa (VQ P T hb hu (λhin=>?_) λhout n hn hw=>?_)
 ·dsimp only;refine ai ?_;have:=h s.heap kb false (xc ..) ⟨o,es,ep,t,P⟩ (λ_=>.refl _) λq=>absurd hin q;exact this
 ·dsimp only;refine aa (iw P.obj P.data P.fits ?_);dsimp only;rw[VH P.tab.nod];dsimp only;rw[if_pos P.tab.plain];refine aa (VR hb ?_);simp only[if_true];have hlen:=P.nf;have hmask:=P.tab.msk;have hroom:(kb.map λp=>hk prog w p.1).length+1<=t.mask:=by
   rw[bh]
   rcases hmask with q|q|q <;> (rw[q]at hlen ⊢;omega)
  have T2:=P.tab.put (h:=hk prog w k) (n:=n) hn hw hroom;have hbl:=(rH (j:=pr t.mask (hk prog w k) n) P.tab.rise).2.2;generalize hp:pv t.place (pr t.mask (hk prog w k) n)=p at T2 hbl ⊢;rw[VT (b:=b)]at T2;have hesl:(ij es p (hk prog w k,gh b)).toList=fF prog w (kb.take p++(k,b)::kb.drop p):=by rw[rJ _ _ _ (by rw[P.size,<-show t.place.size=kb.length from by have:=P.tab.size;simpa using this];exact hbl),P.es,VS]
  have hsz:(ij es p (hk prog w k,gh b)).size=kb.length+1:=by have:=congrArg ka hesl;simp only[fF,bh,kg]at this;rw[this,(uO kb (k,b) p).length_eq];rfl
  refine aa (wpAny_storeSet_of P.obj P.data ?_ (by rw[hsz,jd];have:=h76 hout;omega));have hlen2:(kb.take p++(k,b)::kb.drop p).length=kb.length+1:=(uO kb (k,b) p).length_eq;have ho2:=HL (s:=s) (es':=ij es p (hk prog w k,gh b)) (t':={ t with place:=ij t.place p (pr t.mask (hk prog w k) n) }) P.data P.obj;have fill:({ t with place:=ij t.place p (pr t.mask (hk prog w k) n) }:gm).tooFull=decide ((kb.length+1)*5>=t.mask*3):=by unfold SetTable.tooFull SetTable.fill;have e1:=T2.size;rw[bh,hlen2]at e1;have e1':(ij t.place p (pr t.mask (hk prog w k) n)).size=kb.length+1:=e1;dsimp only;rw[P.tab.nod,e1'];rfl
  simp only[Bool.not_false,Bool.true_and];rw[fill];have fin:∀h' kb',gv a (s.heap.update a (Obj.putSet (ij es p (hk prog w k,gh b)) { t with place:=ij t.place p (pr t.mask (hk prog w k) n) })) h'->jH prog w h' a kb'->
    kb'.Perm (kb.take p++(k,b)::kb.drop p)->Q true { s with heap:=h' }:=λh' kb' sb st pm=>
   h h' kb' true ((lj ..).trans sb) st (λq=>absurd q hout) λ_=>pm.trans (uO kb (k,b) p)
  by_cases full:(kb.length+1)*5>=t.mask*3
  ·rw[decide_eq_true full,if_pos rfl];have h76':=h76 hout;have hcase:(t.mask=7/\kb.length=4)∨(t.mask=31/\kb.length=18):=by
    rcases hmask with q|q|q
    ·left;rw[q]at hlen full;exact⟨q,by omega⟩
    ·right;rw[q]at hlen full;exact⟨q,by omega⟩
    ·rw[q]at full;omega
   have es0:es.size=kb.length:=P.size
   rcases hcase with⟨q1,q2⟩|⟨q1,q2⟩
   ·refine aa (HN (mask':=31) (kb:=kb.take p++(k,b)::kb.drop p) ho2 P.ex rfl hesl T2 (zM P.nd hout) P.led (by rw[es0,q2];decide) (.inr (.inl rfl)) (by rw[hlen2,q2];decide) (by rw[es0,q2,jd];decide) λh' kb' sb st pm=>ai (fin h' kb' sb st pm))
   ·refine aa (HN (mask':=127) (kb:=kb.take p++(k,b)::kb.drop p) ho2 P.ex rfl hesl T2 (zM P.nd hout) P.led (by rw[es0,q2];decide) (.inr (.inr rfl)) (by rw[hlen2,q2];decide) (by rw[es0,q2,jd];decide) λh' kb' sb st pm=>ai (fin h' kb' sb st pm))
  ·rw[decide_eq_false full,if_neg ib];refine ai (fin _ _ (xc ..) ⟨_,_,_,_,ho2,P.ex,rfl,hesl,T2,zM P.nd hout, ?_,P.led⟩ (.refl _));rw[hlen2];exact Nat.lt_of_not_le full
end
theorem Parts.keep {prog:bf}{w:cg}{h h':ck}{a:ah}{kb:KB}(S:jH prog w h a kb) (k:∀o,h.get? a=some o->h'.get? a=some o):jH prog w h' a kb:=by obtain⟨o,es,ep,t,P⟩:=S;exact⟨o,es,ep,t,k o P.obj,P.ex,P.data,P.es,P.tab,P.nd,P.nf,P.led⟩
theorem uP {prog:bf}{w:cg}{h h':ck}{ks:List Int}{a:ah}(x:fi (intKind prog w) h ks a) (k:∀o,h.get? a=some o->h'.get? a=some o):fi (intKind prog w) h' ks a:=by obtain⟨o,items,n,ho,r⟩:=x;exact⟨o,items,n,k o ho,r⟩
section
variable{prog:bf}{w:cg}{A:cf}{R:vk->ag->Prop}{I:ah}{fp wr:List ah}{n:Nat}{P:Nat->af->Prop}{St:Nat->ck->Prop}
structure Upto (ky:Nat->List Int) (ad:Nat->ah) (i:Nat) (kb:KB):Prop where
 from_:∀p∈kb,∃j,j<i/\p=(ky j,ad j)
 all:∀j,j<i->ky j∈kb.map du
theorem VV (W:Walks prog w A.in1 I fp wr n P St) (S:ah) (hSf:S∉fp) (ad:Nat->ah) (ky:Nat->List Int) (hval:∀i v,P i v->v=.ref (ad i)) (hu:A.units+2<cLine)
  (U:List (List Int)) (hU:U.length<=76) (hky:∀i,i<n->ky i∈U) (hS:∀i,i<n->ad i≠S/\ad i∉wr):
  ∀(m i:Nat) (s:ag) (kb:KB),n - i=m->i<=n->St i s.heap->jH prog w s.heap S kb->Upto ky ad i kb->(∀j,j<n->fi (intKind prog w) s.heap (ky j) (ad j))->
   (∀h' tk kb',(∀b o,b∉S::wr->s.heap.get? b=some o->h'.get? b=some o)->jH prog w h' S kb'->Upto ky ad n kb'->R (.ok (.ret .none)) { s with heap:=h',toks:=tk })->
   codeAny (model prog w) A (.builtin "set.update.loop" ⟨[.ref S,.ref I],[]⟩) R s:=by
 have hSw:S∉wr:=λh=>hSf (W.sub _ h);intro m
 induction m with
 |zero=>
  intro i s kb hk hi hst hT hup hkeys hR;have hin:i=n:=by omega
  subst hin;refine og F.entry_set_update_loop ?_;rw[m9 F.plain_set_update_loop _];show wpAny _ A.in1 (pyNext (.ref I) >>= _) _ _ s;refine aa (W.done s _ _ hst λh' tk hm=>?_);exact ai (hR h' tk kb (λb o hb e=>hm b o (λz=>hb (aw _ z)) e) (Parts.keep hT λo e=>hm S o hSw e) hup)
 |succ m ih=>
  intro i s kb hk hi hst hT hup hkeys hR;have hlt:i<n:=by omega
  refine og F.entry_set_update_loop ?_;rw[m9 F.plain_set_update_loop _];show wpAny _ A.in1 (pyNext (.ref I) >>= _) _ _ s;refine aa (W.item i s _ _ hlt hst λv h' tk hP hst' hm=>?_);have ev:=hval i v hP;subst ev;have hT':jH prog w h' S kb:=Parts.keep hT λo e=>hm S o hSw e;have hkeys':∀j,j<n->fi (intKind prog w) h' (ky j) (ad j):=λj hj=>uP (hkeys j hj) λo e=>hm _ o (hS j hj).2 e;show wpAny _ A.in1 (holding [gh (ad i)] (setAdd S (.ref (ad i))) >>= _) _ _ _;refine aa (gr ?_);unfold setAdd;refine gr ?_;refine aa (wpAny_pyHash_tuple (s:={ s with heap:=h',toks:=tk }) (show A.in1.units<cLine by show A.units+1<cLine;omega) (hkeys' i hlt) ?_);obtain⟨o,es,ep,t,Pt⟩:=hT';have tups:uN prog w h' kb:=λp hp=>by obtain⟨j,hj,rfl⟩:=hup.from_ p hp;exact hkeys' j (by omega)
  have hsub:∀x∈kb.map du,x∈U:=λx hx=>by obtain⟨p,hp,rfl⟩:=dg.mp hx;obtain⟨j,hj,rfl⟩:=hup.from_ p hp;exact hky j (by omega)
  refine VU (s:={ s with heap:=h',toks:=tk+((ky i).length+1) }) (a:=S) (k:=ky i) (b:=ad i) Pt tups (hkeys' i hlt) (by show A.units+1<cLine;omega) (λhout=>?_) λh2 kb2 r sb hT2 q1 q2=>?_
  ·have nd:(ky i::kb.map du).Nodup:=je.mpr ⟨hout,Pt.nd⟩;have:=nd.length_le_of_subset (l₂:=U) λx hx=>by
    rcases bg.mp hx with rfl|hx
    ·exact hky i hlt
    ·exact hsub x hx
   simp at this;omega
  ·have hup2:Upto ky ad (i+1) kb2:=by
    by_cases hin:ky i∈kb.map du
    ·have pm:=q1 hin;refine⟨λp hp=>?_,λj hj=>?_⟩
     ·obtain⟨j,hj,e⟩:=hup.from_ p (pm.mem_iff.mp hp);exact⟨j,by omega,e⟩
     ·rw[(pm.map du).mem_iff]
      rcases ig j i with z|z
      ·exact hup.all j z
      ·have:j=i:=by omega
       subst this;exact hin
    ·have pm:=q2 hin;refine⟨λp hp=>?_,λj hj=>?_⟩
     ·rcases bg.mp (pm.mem_iff.mp hp)with z|z
      ·exact⟨i,by omega,z⟩
      ·obtain⟨j,hj,e⟩:=hup.from_ p z;exact⟨j,by omega,e⟩
     ·rw[(pm.map du).mem_iff,da,bg]
      rcases ig j i with z|z
      ·exact .inr (hup.all j z)
      ·have:j=i:=by omega
       subst this;exact .inl rfl
   refine ai ⟨plainId_quiet F.plain_set_update_loop _,ih (i+1) _ kb2 (by omega) hlt (W.frame _ _ _ hst' λb hb o e=>?_) hT2 hup2 (λj hj=>?_) λh3 tk3 kb3 k3 hT3 hup3=>?_⟩
   ·rw[sb.2 b (λz:b=S=>hSf (by rw[<-z];exact hb))];exact e
   ·exact uP (hkeys' j hj) λo e=>(sb.2 _ (hS j hj).1).trans e
   ·refine hR h3 tk3 kb3 (λb o hb e=>k3 b o hb ?_) hT3 hup3;exact(sb.2 b λz=>hb (by rw[z];exact ba)).trans (hm b o (λz=>hb (aw _ z)) e)
end
theorem walk_slots:Slot "set" "__iter__" "set.__iter__"/\Slot "set_iterator" "__next__" "set_iterator.__next__"/\Slot "set_iterator" "__iter__" "set_iterator.__iter__"/\Slot "set" "__len__" "set.__len__":=by
 refine⟨Slot.of (owner := "set") (n := "__iter__") ?_ ?_ ?_ ?_ ?_ ?_,Slot.of (owner := "set_iterator") (n := "__next__") ?_ ?_ ?_ ?_ ?_ ?_,Slot.of (owner := "set_iterator") (n := "__iter__") ?_ ?_ ?_ ?_ ?_ ?_,Slot.of (owner := "set") (n := "__len__") ?_ ?_ ?_ ?_ ?_ ?_⟩
 all_goals first
  |decide +kernel
  |(rw[typeLookup_type,builtinLookup_eq_fast];kernel_rfl)
  |(rw[isSubtype_type];kernel_rfl)
  |(left;decide +kernel)
  |(right;decide +kernel)
theorem uQ (a:af):argsOk "set.__iter__" ⟨[a],[]⟩/\argsOk "set_iterator.__next__" ⟨[a],[]⟩/\argsOk "set_iterator.__iter__" ⟨[a],[]⟩:=by refine⟨?_, ?_, ?_⟩ <;> unfold argsOk <;> kernel_rfl
theorem HP:entryFor table "set_iterator.__next__" = some kz.«set_iterator.__next__»:=entryFor_of_fast (by kernel_rfl)
theorem VW:entryFor table "set.__iter__" = some kz.«frozenset.__iter__»:=entryFor_alias (id' := "frozenset.__iter__") (by kernel_rfl) rfl (by decide +kernel) (by kernel_rfl)
theorem VX:entryFor table "set_iterator.__iter__" = some kz.«dict_keyiterator.__iter__»:=entryFor_alias (id' := "dict_keyiterator.__iter__") (by kernel_rfl) rfl (by decide +kernel) (by kernel_rfl)
theorem erase_perm {α:Type}:∀(l:List α) (i:Nat) (h:i<l.length),(l[i]::l.eraseIdx i).Perm l
 | [],_,h=>absurd h (by simp)
 |x::r,0,_=>.refl _
 |x::r,i+1,h=>by have ih:=erase_perm r i (by simpa using h);show((r[i]'(by simpa using h))::x::r.eraseIdx i).Perm (x::r);exact(List.Perm.swap _ _ _).trans (ih.cons x)
theorem HQ {α:Type}(next:Nat->Nat):∀(fuel k:Nat) (l:List α) (out:Array α),l.length<=fuel->(ug next fuel k l out).toList.Perm (out.toList++l)
 |0,k,l,out,h=>by have:l=[]:=yc.mp (by omega);subst this;rw[ug];simp
 |fuel+1,k,l,out,h=>by
  rw[ug]
  cases l with
  |nil=>simp
  |cons x r=>have hlt:next k % (x::r).length<(x::r).length:=Nat.mod_lt _ (by simp);rw[az hlt];dsimp only;refine(HQ next fuel (k+1) _ _ (by rw[vg hlt];omega)).trans ?_;rw[Array.toList_push,rp];refine vh _ ?_;exact erase_perm _ _ hlt
theorem VY {α:Type}(next:Nat->Nat) (xs:Array α):(pickOrder next xs).toList.Perm xs.toList:=by unfold pickOrder;have:=HQ next xs.size 0 xs.toList #[] (by simp);simpa using this
section
variable{prog:bf}{w:cg}
def gG (w:cg) (a:ah) (ep:Nat) (es:Array (Int×af)):Array (Int×af):=if w.params.followText "set-order" then pickOrder (w.params.setOrder a ep) es else es
theorem HR (w:cg) (a:ah) (ep:Nat) (es:Array (Int×af)):(gG w a ep es).toList.Perm es.toList:=by
 unfold gG
 split
 ·exact VY _ _
 ·exact .refl _
theorem uR (w:cg) (a:ah) (ep:Nat) (es:Array (Int×af)):(gG w a ep es).size=es.size:=by simpa using(HR w a ep es).length_eq
def fG (w:cg) (t:gm) (i:Nat):Nat:=if w.params.followText "set-order" then 0 else match i with|0=>0|j+1=>t.place.getD j 0+1
def iN (a:ah) (slot i n ep:Nat):Obj:={ cls:=.type "set_iterator",data:=.fields #[rawInt slot,rawInt i,.ref a,rawInt n,rawInt ep] }
theorem VZ {t:gm}{hs:List Int}(T:TOk t hs) (hb:w.params.followText "set-order" = false) {i:Nat}(hi:i<=t.place.size):pv t.place (fG w t i)=i:=by
 obtain⟨h1,h2,h3⟩:=rH (j:=fG w t i) T.rise;have mono:∀a b (ha:a<t.place.size) (hb:b<t.place.size),a<b->t.place[a]<t.place[b]:=by intro a b ha hb hab;have:=fz.mp T.rise a b (by simpa using ha) (by simpa using hb) hab;simpa using this
 unfold fG at h1 h2 h3 ⊢;rw[hb]at h1 h2 h3 ⊢;simp only[cj,if_false]at h1 h2 h3 ⊢
 cases i with
 |zero=>
  dsimp only at h1 h2 h3 ⊢;generalize pv t.place 0=r at h1 h2 h3 ⊢
  cases r with
  |zero=>rfl
  |succ r=>have:=h1 r (by omega) (by omega);omega
 |succ j=>
  dsimp only at h1 h2 h3 ⊢;have hj:j<t.place.size:=by omega
  have ej:t.place.getD j 0=t.place[j]:=by simp[jm,hj]
  rw[ej]at h1 h2 h3 ⊢;generalize pv t.place (t.place[j]+1)=r at h1 h2 h3 ⊢
  rcases Nat.lt_trichotomy r (j+1)with q|q|q
  ·have:=h2 j hj (by omega);omega
  ·exact q
  ·have:=h1 (j+1) (by omega) q;have:=mono j (j+1) hj (by omega) (by omega);omega
end
section
variable{prog:bf}{w:cg}{A:cf}{E:af->ag->Prop}{s:ag}{a it:ah}{kb:KB}{o:Obj}{es:Array (Int×af)}{ep:Nat}{t:gm}
theorem V0 {Q:Bool->ag->Prop}(P:Parts prog w s.heap a kb o es ep t) (h:Q false s):wpAny (model prog w) A (setDrawn a) Q E s:=by
 unfold setDrawn setsByText;refine aa (iw P.obj P.data P.fits ?_);dsimp only;refine aa (aa (km (ai ?_)));have e:(!(w.params.followText "set-order")&&((!t.plain)&&decide (es.size>1)))=false:=by rw[P.tab.plain];simp
 show wpAny _ _ (pure (!(w.params.followText "set-order")&&((!t.plain)&&decide (es.size>1)))) _ _ s;rw[e];exact ai h
theorem V1 {Q:af->ag->Prop}(P:Parts prog w s.heap a kb o es ep t) (h:Q (.ref s.heap.objs.size) { s with heap:=s.heap.push (iN a 0 0 es.size ep) }):
  wpAny (model prog w) A (pyIter (.ref a)) Q E s:=by
 have hT:s.TypeIs (.ref a) "set" := ⟨o,P.obj,P.ex.1⟩;refine wpAny_pyIter_slot hT walk_slots.1 (gg walk_slots.1 hT VW ?_ (uQ _).1);unfold kz.«frozenset.__iter__» Builtin.Frozenset.slot0;refine aa (m:=(do Builtin.Frozenset.addrOf (<-slotArgs "__iter__" 0 ⟨[.ref a],[]⟩).1:Sem ah)) (ai ?_);unfold Builtin.Frozenset.sizeOf;refine aa (aa (si P.obj P.data P.fits (ai ?_)));refine aa (V0 P ?_);simp only[cj,if_false];refine aa (ai ?_);refine aa (wpAny_setEpoch_of P.obj P.data P.fits ?_);refine aa (fj ?_ (by size_fits));refine ai ⟨_,rfl,"set_iterator",_,⟨_,ay _ rfl,rfl⟩,walk_slots.2.1.lookup,h⟩
end
section
variable{prog:bf}{w:cg}{A:cf}{E:af->ag->Prop}{s:ag}{a it:ah}{kb:KB}{o:Obj}{es:Array (Int×af)}{ep:Nat}{t:gm}
theorem HS {i:Nat}{Q:Option (af×Nat)->ag->Prop}(P:Parts prog w s.heap a kb o es ep t) (hi:i<=es.size)
  (h:Q (((gG w a ep es)[i]?).map λe=>(e.2,fG w t (i+1))) s):wpAny (model prog w) A (setNext a (fG w t i) i ep) Q E s:=by
 unfold setNext setsByText;refine aa (iw P.obj P.data P.fits ?_);dsimp only;refine aa (aa (km (ai ?_)));have hps:t.place.size=es.size:=by have:=P.tab.size;rw[P.size];simpa using this
 show wpAny _ _ (if w.params.followText "set-order" = true then _ else _) _ _ s
 by_cases hb:w.params.followText "set-order" = true
 ·rw[if_pos hb,if_neg (by simp)];refine aa ?_;unfold setWalk setsByText;refine aa (iw P.obj P.data P.fits ?_);dsimp only;refine aa (aa (km (ai ?_)));show wpAny _ _ (if w.params.followText "set-order" = true then _ else _) _ _ s;rw[if_pos hb];refine aa (km (ai (ai ?_)));unfold gG fG at h;unfold fG;rw[if_pos hb]at h ⊢;rw[if_pos hb]at h;exact h
 ·have hb':w.params.followText "set-order" = false:=by simpa using hb
  rw[if_neg hb];have hl:t.led=true:=by rw[P.led,hb'];rfl
  have hd:((!t.plain)&&decide (es.size>1))=false:=by rw[P.tab.plain];rfl
  show wpAny _ _ (if((!t.plain)&&decide (es.size>1))=true then _ else _) _ _ s;rw[hd];simp only[cj,if_false];show wpAny _ _ ((if((!t.led)&&!es.isEmpty)=true then _ else _) >>= _) _ _ s;rw[hl];simp only[mr,Bool.false_and,cj,if_false];refine aa (ai ?_);have hbl:=VZ (w:=w) P.tab hb' (i:=i) (by omega);rw[hbl];unfold gG at h;rw[if_neg hb]at h;refine ai ?_
  by_cases hlt:i<es.size
  ·have e1:es[i]?=some es[i]:=ey hlt;have e2:t.place[i]?=some t.place[i]:=ey (by omega);rw[e1]at h;rw[e1,e2];have e3:fG w t (i+1)=t.place[i]+1:=by unfold fG;rw[if_neg hb];simp[jm,show i<t.place.size by omega]
   rw[e3]at h;exact h
  ·have e1:es[i]?=none:=pf (by omega);rw[e1]at h ⊢;exact h
theorem V2 {i:Nat}{x:Int×af}{Q:Option af->ag->Prop}(P:Parts prog w s.heap a kb o es ep t) (hit:s.heap.get? it=some (iN a (fG w t i) i es.size ep)) (hx:(gG w a ep es)[i]?=some x)
  (hQ:∀h',h'.get? it=some (iN a (fG w t (i+1)) (i+1) es.size ep)->gv it s.heap h'->Q (some x.2) { s with heap:=h' }):wpAny (model prog w) A (pyNext (.ref it)) Q E s:=by
 have hT:s.TypeIs (.ref it) "set_iterator" := ⟨_,hit,rfl⟩;have hlt:i<es.size:=by rw[<-uR w a ep es];exact(de.mp hx).1
 unfold pyNext;refine aa (sy (fv (name:=ie "__next__") hT walk_slots.2.1 (gg walk_slots.2.1 hT HP ?_ (uQ _).2.1)));unfold kz.«set_iterator.__next__»;refine aa (m:=slotArgs "__next__" 0 ⟨[.ref it],[]⟩) (ai ?_);refine aa (wpAny_fieldsOf hit rfl ?_);dsimp only;show wpAny _ _ (setEntries a >>= _) _ _ s;refine aa (si P.obj P.data P.fits ?_);rw[if_neg (by simp)];show wpAny _ _ (setNext a ((fG w t i:Nat):Int).toNat ((i:Nat):Int).toNat ((ep:Nat):Int).toNat >>= _) _ _ s;rw[fh,fh,fh];refine aa (HS P (gp hlt) ?_);rw[hx];show wpAny _ _ (setField (.ref it) 0 (rawInt ((fG w t (i+1):Nat):Int)) >>= _) _ _ s;refine aa (iq hit (by simp) λh1 g1 b1=>?_);refine aa (iq g1 (by simp) λh2 g2 b2=>?_);refine ai ⟨_,rfl,ai (hQ h2 ?_ (b1.trans b2))⟩;rw[g2];rfl
theorem V3 {i:Nat}{Q:Option af->ag->Prop}(hh:A.handled=none) (P:Parts prog w s.heap a kb o es ep t) (hit:s.heap.get? it=some (iN a (fG w t i) i es.size ep)) (hi:i=es.size)
  (hQ:∀h',z9 it s.heap h'->Q none { s with heap:=h' }):wpAny (model prog w) A (pyNext (.ref it)) Q E s:=by
 have hT:s.TypeIs (.ref it) "set_iterator" := ⟨_,hit,rfl⟩;unfold pyNext;refine aa (sy (fv (name:=ie "__next__") hT walk_slots.2.1 (gg walk_slots.2.1 hT HP ?_ (uQ _).2.1)));unfold kz.«set_iterator.__next__»;refine aa (m:=slotArgs "__next__" 0 ⟨[.ref it],[]⟩) (ai ?_);refine aa (wpAny_fieldsOf hit rfl ?_);dsimp only;show wpAny _ _ (setEntries a >>= _) _ _ s;refine aa (si P.obj P.data P.fits ?_);rw[if_neg (by simp)];show wpAny _ _ (setNext a ((fG w t i:Nat):Int).toNat ((i:Nat):Int).toNat ((ep:Nat):Int).toNat >>= _) _ _ s;rw[fh,fh,fh];refine aa (HS P (lh hi) ?_);rw[pf (by rw[uR];omega)];show wpAny _ _ (setField (.ref it) 2 jb >>= _) _ _ s;refine aa (iq hit (by simp) λh1 g1 b1=>?_);show wpAny _ _ (newExc (.type "StopIteration") [] >>= _) _ _ _;refine aa ?_;simp only[newExc,newTuple];refine aa (fj ?_ (by size_fits));refine aa (m:=firstArgMember _ _) (xk (a:=jb) (by first|rfl|(simp only[firstArgMember];rfl)) ?_);refine fj ?_ (by size_fits);simp only[raiseNew];refine aa (wpAny_handled ?_);rw[show A.in1.handled=none from hh];refine aa (ai (wpAny_throw ?_));refine aa (xa (T := "StopIteration") (b:=true) ⟨_,ay _ rfl,rfl⟩ isSubtype_stop ?_);exact ai (hQ _ ((b1.extBut.push _).push _))
end
section
variable{prog:bf}{w:cg}{A:cf}{E:af->ag->Prop}{s:ag}{a:ah}{kb:KB}{o:Obj}{es:Array (Int×af)}{ep:Nat}{t:gm}
theorem Parts.at' {h h':ck}(P:Parts prog w h a kb o es ep t) (k:h'.get? a=some o):Parts prog w h' a kb o es ep t:=⟨k,P.ex,P.data,P.es,P.tab,P.nd,P.nf,P.led⟩
theorem V4 (hh:A.handled=none) (I:ah) (hne:a≠I):
  Walks prog w A I [I,a] [I] es.size (λi v=>∃x,(gG w a ep es)[i]?=some x/\v=x.2) (λi h=>Parts prog w h a kb o es ep t/\h.get? I=some (iN a (fG w t i) i es.size ep)) where
 sub:=λb hb=>by rw[gq.mp hb];exact ba ..
 frame:=λi h h' ⟨p,q⟩ k=>⟨p.at' (k a (by simp) _ p.obj),k I (by simp) _ q⟩
 item:=λi s Q E hi ⟨p,q⟩ hQ=>by
  have hi':i<(gG w a ep es).size:=by rw[uR];exact hi
  have hx:(gG w a ep es)[i]?=some (gG w a ep es)[i]:=ey hi';refine V2 p q hx λh' q' sb=>hQ _ h' s.toks ⟨_,hx,rfl⟩ ⟨p.at' ((sb.2 a hne).trans p.obj),q'⟩ λb o hb e=>?_;exact(sb.2 b λz=>hb (by rw[z];exact ba ..)).trans e
 done:=λs Q E ⟨p,q⟩ hQ=>V3 hh p q rfl λh' x=>hQ h' s.toks λb o hb e=>x b o (λz=>hb (by rw[z];exact ba ..)) e
 self:=λi s Q E ⟨_,q⟩ hQ=>by have hT:s.TypeIs (.ref I) "set_iterator" := ⟨_,q,rfl⟩;refine wpAny_pyIter_slot hT walk_slots.2.2.1 (gg walk_slots.2.2.1 hT VX ?_ (uQ _).2.2);exact ai ⟨_,rfl,"set_iterator",_,⟨_,q,rfl⟩,walk_slots.2.1.lookup,hQ⟩
theorem V5 {S:ah}{n:Nat}{Q:Unit->ag->Prop}(h:s.heap.get? S=some (seqObj "list" #[] n)) (q:∀h' c,h'.get? S=some (seqObj "list" #[] c)->(∀b o,b≠S->s.heap.get? b=some o->h'.get? b=some o)->Q () { s with heap:=h' }):
  wpAny (model prog w) A (t9 (.ref S)) Q E s:=by
 unfold t9;refine aa (tj h rfl ?_);have h1:=qo h (λx=>x.push jb);refine tj h1 rfl ?_;have h2:=qo h1 (λx=>x.pop);refine q _ _ h2 λb o hb e=>?_;rw[ni _ _ _ _ hb,ni _ _ _ _ hb];exact e
theorem V6 {Q:List af->ag->Prop}(hh:A.handled=none) (P:Parts prog w s.heap a kb o es ep t) (hn:es.size<=bq)
  (q:∀(h':ck) (tk:Nat),(∀b o,s.heap.get? b=some o->h'.get? b=some o)->s.heap.objs.size<=h'.objs.size->Q ((gG w a ep es).toList.map (·.2)) { s with heap:=h',toks:=tk }):wpAny (model prog w) A (collect (.ref a)) Q E s:=by
 have la:a<s.heap.objs.size:=au P.obj;have up1:∀b o,s.heap.get? b=some o->(s.heap.push (seqObj "list" #[] 0)).get? b=some o:=λb o e=>aj _ e;have hS1:(s.heap.push (seqObj "list" #[] 0)).get? s.heap.objs.size=some (seqObj "list" #[] 0):=ay _ rfl;have P1:Parts prog w (s.heap.push (seqObj "list" #[] 0)) a kb o es ep t:=P.at' (up1 a o P.obj);have hT1:qk { s with heap:=s.heap.push (seqObj "list" #[] 0) } (.ref a) "set" := ⟨o,P1.obj,P1.ex.1⟩;unfold collect;refine aa (wpAny_runValue (og entry_proto_collect' ?_));rw[m9 F.plain_proto_collect _];refine aa (m:=newList []) (zi (ai ⟨Code.quiet_builtin _ (by decide +kernel),og entry_list_iadd' ?_⟩));rw[m9 F.plain_list_iadd _];show wpAny _ A.in1 (qz (.ref s.heap.objs.size) (.ref a) (.ref s.heap.objs.size)) _ _ { s with heap:=s.heap.push (seqObj "list" #[] 0) };unfold qz;refine aa (oj hT1 ?_);have ne:rz (.ref s.heap.objs.size) (.ref a)=false:=by simp[rz,ji la]
 rw[if_neg (by rw[ne];decide)];refine aa (V1 P1 ?_);have sz:(s.heap.push (seqObj "list" #[] 0)).objs.size=s.heap.objs.size+1:=size_push' _ _;rw[sz];have up2:∀b o,(s.heap.push (seqObj "list" #[] 0)).get? b=some o->((s.heap.push (seqObj "list" #[] 0)).push (iN a 0 0 es.size ep)).get? b=some o:=λb o e=>aj _ e;have P2:Parts prog w ((s.heap.push (seqObj "list" #[] 0)).push (iN a 0 0 es.size ep)) a kb o es ep t:=P1.at' (up2 a o P1.obj);have hT2:qk { s with heap:=(s.heap.push (seqObj "list" #[] 0)).push (iN a 0 0 es.size ep) } (.ref a) "set" := ⟨o,P2.obj,P2.ex.1⟩;have hI2:((s.heap.push (seqObj "list" #[] 0)).push (iN a 0 0 es.size ep)).get? (s.heap.objs.size+1)=some (iN a 0 0 es.size ep):=by rw[<-sz];exact ay _ rfl
 refine aa (gr ?_);unfold Builtin.List.listLengthHint;refine aa (wpAny_specialOf hT2 walk_slots.2.2.2.lookup ?_);have spl:splitId "set.__len__" = some ("set","__len__"):=by decide +kernel
 dsimp only;rw[spl];dsimp only;refine aa (xa (b:=true) hT2 sub_set_self ?_);rw[if_neg (by decide),if_pos (by decide +kernel)];refine aa (oj hT2 (ai ?_));rw[if_pos (by decide +kernel)];refine aa (qj ?_);refine aa (V5 (s:={ s with heap:=(s.heap.push (seqObj "list" #[] 0)).push (iN a 0 0 es.size ep) }) (up2 _ _ hS1) λh3 c hS3 up3=>?_);have neS:∀b o,s.heap.get? b=some o->b≠s.heap.objs.size:=λb o e=>bc (au e);have P3:Parts prog w h3 a kb o es ep t:=P2.at' (up3 a o (bc la) P2.obj);have hI3:h3.get? (s.heap.objs.size+1)=some (iN a 0 0 es.size ep):=up3 _ _ (pg _) hI2;have hz:fG w t 0=0:=by unfold fG;split <;> rfl
 have hh2:A.in1.handled=none:=by simp[hh]
 have nin:s.heap.objs.size∉[s.heap.objs.size+1,a]:=λm=>by
  rcases bg.mp m with e|m
  ·exact pg _ e.symm
  ·exact ji la (gq.mp m)
 refine ai ⟨plainId_quiet F.plain_extend_loop _,codeAny_extend_loopS (A:=A) ((V4 (kb:=kb) (o:=o) (t:=t) (ep:=ep) (es:=es) hh2 (s.heap.objs.size+1) (a:=a) (bc (jx la))).toS) hn s.heap.objs.size nin _ es.size 0 { s with heap:=h3 } #[] c rfl (ja _)
  ⟨P3,by rw[hz];exact hI3⟩ hS3 (ItemsOf.nil _) λs' acc c' mv hS' ia=>?_⟩
 have eacc:acc.toList=(gG w a ep es).toList.map (·.2):=by
  apply sd
  intro i;rw[lr,dj,lr]
  cases q:acc[i]? with
  |some v=>obtain⟨x,h1,h2⟩:=ia.2 i v q;rw[h1,h2];rfl
  |none=>have h1:acc.size<=i:=Array.getElem?_eq_none_iff.mp q;rw[pf (by rw[uR,<-ia.1];exact h1)];rfl
 obtain⟨hp,gs,dr,tk,os⟩:=s';have e1:gs=s.gens:=mv.gens;have e2:dr=s.drawn:=mv.drawn;have e3:os=s.os:=mv.os;subst e1;subst e2;subst e3;show wpAny _ A (load s.heap.objs.size >>= _) _ _ _;refine aa (wpAny_load hS' (ai ?_));rw[eacc];refine q hp tk (λb o e=>mv.heap b o (λm=>?_) (up3 b o (neS b o e) (up2 b o (up1 b o e)))) (gp (au hS'))
 rcases bg.mp m with z|m
 ·exact neS b o e z
 ·exact bc (jx (au e)) (gq.mp m)
end
open PySem.W SoM L2
section
variable{prog:bf}{w:cg}{A:cf}{E:af->ag->Prop}{s:ag}
theorem HU {fin:Bool}{Q:Bool->ag->Prop}:∀{kx ky:List Int}{vx vy:List af}(i:Nat),ItemsAre (intKind prog w) kx vx->ItemsAre (intKind prog w) ky vy->fin=decide (vx.length<vy.length)->Q (cB kx ky) s->KatLex prog w A true fin Q (vx.zip vy) i s
 |_,_,_,_,i,.nil,.nil,hf,h=>by subst hf;exact kat_nil h
 |_,_,_,_,i,.nil,.cons _ _,hf,h=>by subst hf;refine kat_nil ?_;rw[decide_eq_true (by simp)];exact h
 |_,_,_,_,i,.cons _ _,.nil,hf,h=>by subst hf;refine kat_nil ?_;rw[decide_eq_false (by simp)];exact h
 |_,_,_,_,i,.cons (k:=a) hu hx,.cons (k:=b) hv hy,hf,h=>by
  obtain⟨t,rfl⟩:=kq hu;obtain⟨t',rfl⟩:=kq hv;refine kat_cons (wpAny_eqBool_int (kat_go (λe=>?_) λe=>?_))
  ·refine kat_yes (HU (i+1) hx hy (hf.trans (by simp)) ?_);rw[cB,if_pos e]at h;exact h
  ·have h':Q (decide (a<b)) s:=by rw[cB,if_neg (by rw[e];simp)]at h;exact h
   refine kat_no ?_
   cases q:i==0 with
   |true=>exact oneLt_int h'
   |false=>exact kat_one _ _ (u9 h')
theorem V7 {x y:ah}{kx ky:List Int}{Q:Bool->ag->Prop}(hx:fi (intKind prog w) s.heap kx x) (hy:fi (intKind prog w) s.heap ky y) (h:Q (cB kx ky) s):wpAny (model prog w) A (keyLt' (tuples' true) (.ref x) (.ref y)) Q E s:=by obtain⟨ox,ix,nx,e1,_,d1,i1⟩:=hx;obtain⟨oy,iy,ny,e2,_,d2,i2⟩:=hy;exact kat_lt e1 d1 e2 d2 (HU 0 i1 i2 (by simp) h)
def KeysAt (prog:bf) (w:cg) (h:ck) (n:Nat) (ad:Nat->ah) (ky:Nat->List Int):Prop:=∀i,i<n->fi (intKind prog w) h (ky i) (ad i)/\ky i≠[]
def bF (n:Nat) (ad:Nat->ah):List af:=(bo n).map λi=>.ref (ad i)
theorem jI (n:Nat) (ad:Nat->ah):(bF n ad).length=n:=by simp[bF]
theorem zN {n:Nat}{ad:Nat->ah}{i:Nat}(h:i<n):(bF n ad).getD i jb=.ref (ad i):=by simp[bF,h]
theorem HV:∀(l:List Nat) {ad:Nat->ah}{ky:Nat->List Int},(∀i∈l,fi (intKind prog w) s.heap (ky i) (ad i)/\ky i≠[])->∃fs:List af,KatTups s.heap (l.map λi=>.ref (ad i)) fs/\fs.length=l.length/\∀v∈fs,∃a t,v=.int a t
 | [],_,_,_=>⟨[],trivial,rfl,by simp⟩
 |i::l,ad,ky,h=>by
  obtain⟨fs,t,hl,hv⟩:=HV l (ad:=ad) (ky:=ky) λj hj=>h j (aw _ hj);obtain⟨⟨o,its,n,e,c,d,r⟩,ne⟩:=h i (ba ..)
  cases q:its.toList with
  |nil=>rw[q]at r;cases hk:ky i with
   |nil=>exact absurd hk ne
   |cons a b=>rw[hk]at r;cases r
  |cons v vs=>
   rw[q]at r
   cases hk:ky i with
   |nil=>exact absurd hk ne
   |cons a b=>
    rw[hk]at r
    cases r with
    |cons hu _=>
     obtain⟨tk,rfl⟩:=kq hu;refine⟨.int a tk::fs,KatTups.cons e c d (by rw[<-lr,q];rfl) t,by simp[hl],λv hv'=>?_⟩
     rcases bg.mp hv' with rfl|hv'
     ·exact⟨_,_,rfl⟩
     ·exact hv v hv'
theorem V8 {n:Nat}{ad:Nat->ah}{ky:Nat->List Int}{G:Array Nat->ag->Prop}(h2:2<=n) (hk:KeysAt prog w s.heap n ad ky)
  (h:∀p,Ent n p->eZ cB (p.toList.map ky)->G p s):
  wpAny (model prog w) A (keyKind' (bF n ad).toArray) (λκ s'=>(kas_sort (bF n ad).length).kasWp (kas_ask prog w A κ (bF n ad)) G s') (λ_ _=>False) s:=by
 obtain⟨fs,t,hl,hv⟩:=HV (prog:=prog) (w:=w) (s:=s) (bo n) (ad:=ad) (ky:=ky) λi hi=>hk i (bx.mp hi);refine kat_kind (T:=.type "int") t (by rw[hl,jw];omega) (λv hv'=>?_) (by decide) ?_
 ·obtain⟨a,tk,rfl⟩:=hv v hv';exact .now
 ·rw[jI]
  let ks:=(bo n).map ky
  have mem:∀i,i<n->ky i∈ks:=λi hi=>dg.mpr ⟨i,bx.mpr hi,rfl⟩;refine GQ (n:=n) (f:=λi=>rk cB ks (ky i)) (I:=λs'=>s'=s) (λi j C s' hs hi hj hC=>?_) (kas_sort n) (λp=>Ent n p/\eZ cB (p.toList.map ky)) G s s (UQ (by omega) λp e inc=>⟨e, ?_⟩) rfl λp s' hp hs=>by subst hs;exact h p hp.1 hp.2
  ·subst hs;show wpAny (model prog w) A (keyLt' (tuples' true) ((bF n ad).getD i jb) ((bF n ad).getD j jb)) C (λ_ _=>False) s';rw[zN hi,zN hj];refine V7 (hk i hi).1 (hk j hj).1 ?_;have:=hC s' rfl;rwa [GW stoL (mem i hi)]at this
  ·refine fz.mpr λi j hi hj hij=>?_;have hj':j<p.size:=by simpa using hj
   have hi':i<p.size:=by omega
   have z:=inc i j (gp hij) (by rw[<-e.1];exact hj');unfold SoM.F at z;have ei:p.getD i 0=p[i]:=by simp[jm,hi']
   have ej:p.getD j 0=p[j]:=by simp[jm,hj']
   rw[ei,ej]at z;have lt:∀k (hk:k<p.size),p[k]<n:=λk hk=>bx.mp (e.2.mem_iff.mp (by simp));have:=US stoL (mem _ (lt j hj')) z;simpa using this
end
section
variable{prog:bf}{w:cg}{A:cf}{E:af->ag->Prop}{s:ag}
abbrev uS (h h':ck):Prop:=∀b o,h.get? b=some o->h'.get? b=some o
def Sorted (n:Nat) (ad:Nat->ah) (ky:Nat->List Int) (out:List af):Prop:=∃p:List Nat,p.Perm (bo n)/\eZ cB (p.map ky)/\out=p.map λi=>.ref (ad i)
theorem Sorted.len {n:Nat}{ad:Nat->ah}{ky:Nat->List Int}{out:List af}(h:Sorted n ad ky out):out.length=n:=by obtain⟨p,pp,_,e⟩:=h;rw[e,bh,pp.length_eq,jw]
theorem KeysAt.keep {h h':ck}{n:Nat}{ad:Nat->ah}{ky:Nat->List Int}(k:KeysAt prog w h n ad ky) (g:∀i,i<n->∀o,h.get? (ad i)=some o->h'.get? (ad i)=some o):KeysAt prog w h' n ad ky:=λi hi=>⟨uP (k i hi).1 (g i hi),(k i hi).2⟩
theorem V9 {a:ah}{n c:Nat}{ad:Nat->ah}{ky:Nat->List Int}{P:Fin->ag->Prop}(ho:s.heap.get? a=some (seqObj "list" (bF n ad).toArray c)) (h64:n<64) (hk:KeysAt prog w s.heap n ad ky)
  (q:∀h' e out,Sorted n ad ky out->h'.get? a=some (seqObj "list" out.toArray e)->(∀b o,b≠a->s.heap.get? b=some o->h'.get? b=some o)->P (.done (.ret .none)) { s with heap:=h' }):
  wpAny (model prog w) A (kz.«list.sort» ⟨[.ref a],[]⟩) P E s:=by
 have la:a<s.heap.objs.size:=au ho;obtain⟨e1,g1⟩:∃e1,(s.heap.update a (mm λ_=>(#[]:Array af))).get? a=some (seqObj "list" #[] e1):=⟨_,qo ho λ_=>#[]⟩
 have k1:∀b o,b≠a->s.heap.get? b=some o->(s.heap.update a (mm λ_=>(#[]:Array af))).get? b=some o:=λb o hb e=>by rw[ni _ _ _ _ hb];exact e
 generalize hH1:s.heap.update a (mm λ_=>(#[]:Array af))=H1 at g1 k1;have k3:uS H1 ((H1.push (seqObj "tuple" (bF n ad).toArray 0)).push (seqObj "list" #[] 0)):=λb o e=>aj _ (aj _ e);have ne:∀i,i<n->ad i≠a:=λi hi e=>by obtain⟨⟨o,its,m,e1,c1,_⟩,_⟩:=hk i hi;rw[e,ho]at e1;cases e1;exact absurd (Value.type.inj c1) (by decide)
 have K3:KeysAt prog w ((H1.push (seqObj "tuple" (bF n ad).toArray 0)).push (seqObj "list" #[] 0)) n ad ky:=hk.keep λi hi o e=>k3 _ o (k1 _ o (ne i hi) e);have g3:=k3 a _ g1;have kk:∀b o,b≠a->s.heap.get? b=some o->((H1.push (seqObj "tuple" (bF n ad).toArray 0)).push (seqObj "list" #[] 0)).get? b=some o:=λb o hb e=>k3 b o (k1 b o hb e);have sl:n<=bq:=by rw[jd];omega
 have fin:∀(out:List af),Sorted n ad ky out->wpAny (model prog w) A (do
   let touched:=(<-seqEpoch a) != e1
   Builtin.List.listUpdate (.ref a) λ_=>out.toArray
   if let some e:=(none:Option af)then rule "list.sort.comparison-raised"; throw e
   if touched then rule "list.sort.modified"; raiseError "ValueError" "list modified during sort"
   ret .none) P E { s with heap:=(H1.push (seqObj "tuple" (bF n ad).toArray 0)).push (seqObj "list" #[] 0) }:=λout ho'=>by
  refine aa (seqEpoch_at g3 rfl ?_);refine aa (tj g3 rfl ?_ (ja _) (by rw[ar,ho'.len];omega));simp only[bne_self_eq_false,cj,if_false];exact ai (q _ _ out ho' (qo g3 λ_=>out.toArray) λb o hb e=>by rw[ni _ _ _ _ hb];exact kk b o hb e)
 generalize hH3:(H1.push (seqObj "tuple" (bF n ad).toArray 0)).push (seqObj "list" #[] 0)=H3 at k3 K3 g3 kk fin;rw[list_sort_plain];refine aa (listItems_at ho rfl (aa (tj ho rfl ?_ (by rw[ar,jI];exact sl) (ja _))));rw[hH1];refine aa (seqEpoch_at g1 rfl (aa (wpAny_newTuple (aa (zi (gr ?_) (ja _))) (by show(bF n ad).length<=_;rw[jI];exact sl))));show wpAny (model prog w) A _ P E { s with heap:=(H1.push (seqObj "tuple" (bF n ad).toArray 0)).push (seqObj "list" #[] 0) };rw[hH3];have hz:(bF n ad).toArray.size=n:=by rw[ar,jI]
 dsimp only
 by_cases h2:n<2
 ·rw[if_pos (by rw[hz];exact h2),if_pos (by rw[hz];exact h2)];refine aa (ai ?_);rw[StateT.run_pure];refine aa (ai ?_);have e:(arrOf (SortSt.mk' general' ((bF n ad).toArray.zip (bF n ad).toArray) #[] 7 none)).map (·.2)=(bF n ad).toArray:=by show(((bF n ad).toArray.zip (bF n ad).toArray)).map (·.2)=_;rw[Array.map_snd_zip (ak _)]
  dsimp only;rw[e];refine fin _ ⟨bo n,.refl _, ?_,rfl⟩;refine fz.mpr λi j hi hj hij=>?_;rw[bh,jw]at hj;omega
 ·have h2':2<=n:=by omega
  rw[if_neg (by rw[hz];exact h2),if_neg (by rw[hz];exact h2)];refine aa (js (V8 (A:=A) (s:={ s with heap:=H3 }) (G:=λp s'=>s'={ s with heap:=H3 }/\Ent n p/\eZ cB (p.toList.map ky)) h2' K3 λp e r=>⟨rfl,e,r⟩) (λκ s0 hκ=>?_) λ_ _ x=>x.elim);refine aa (js (kat_run (ks:=bF n ad) (vs:=bF n ad) (Q:=λst' s'=>∃p:Array Nat,p.size=(bF n ad).length/\arrOf st'=p.map (kas_item ((bF n ad).toArray.zip (bF n ad).toArray))/\failedOf st'=none/\s'={ s with heap:=H3 }/\Ent n p/\eZ cB (p.toList.map ky))
   rfl (by rw[jI];exact h2') (by rw[jI];exact h64) (λp st' s' z1 z2 z3 z4=>⟨p,z1,z2,z3,z4⟩) hκ) ?_ λ_ _ e=>e)
  rintro ⟨⟨⟩,st'⟩ s' ⟨p,_,z2,z3,rfl,z5,z6⟩
  dsimp only;rw[kat_snds rfl z2,z3];have e:(p.toList.map λi=>(bF n ad).getD i jb)=p.toList.map λi=>.ref (ad i):=zj λi hi=>zN (bx.mp (z5.2.mem_iff.mp hi));rw[e];exact fin _ ⟨p.toList,z5.2,z6,rfl⟩
theorem WA {x:af}{n:Nat}{ad:Nat->ah}{ky:Nat->List Int}{Q:af->ag->Prop}(h64:n<64) (hk:KeysAt prog w s.heap n ad ky)
  (hc:∀(Q':List af->ag->Prop) (E':af->ag->Prop),(∀h' tk,uS s.heap h'->s.heap.objs.size<=h'.objs.size->Q' (bF n ad) { s with heap:=h',toks:=tk })->wpAny (model prog w) A.in1 (collect x) Q' E' s)
  (q:∀h' tk D e out,Sorted n ad ky out->s.heap.objs.size<=D->h'.get? D=some (seqObj "list" out.toArray e)->uS s.heap h'->Q (.ref D) { s with heap:=h',toks:=tk }):
  wpAny (model prog w) A (call (.builtin "sorted") [x]) Q E s:=by
 refine Calls.call_function_entry kind_sorted plain_sorted entry_sorted (args_sorted1 _) ?_;unfold kz.«sorted»;refine aa (m:=checkCount "sorted" 1 1 _) (ai (aa (hc _ _ λh1 tk k1 sz=>aa (zi ?_ (by rw[jI,jd];omega)))));have g:(h1.push (seqObj "list" (bF n ad).toArray 0)).get? h1.objs.size=some (seqObj "list" (bF n ad).toArray 0):=ay _ rfl;have k2:uS s.heap (h1.push (seqObj "list" (bF n ad).toArray 0)):=λb o e=>aj _ (k1 b o e);refine aa (gr (gg slot_list_sort ⟨_,g,rfl⟩ entry_list_sort (V9 (s:={ s with heap:=h1.push (seqObj "list" (bF n ad).toArray 0),toks:=tk }) g h64 (hk.keep λi hi o e=>k2 _ o e) λh' e out so ho ke=>⟨_,rfl, ?_⟩) (args_list_sort _)));exact ai ⟨_,rfl,q h' tk h1.objs.size e out so sz ho λb o e=>ke b o (bc (av (au e) sz)) (k2 b o e)⟩
end
def bare (w:cg):Obj:={ cls:=.type "set",dict:=none,data:=.set #[] 0 (.fresh 0 0 (!w.params.followText "set-order")) }
section
variable{prog:bf}{w:cg}{A:cf}{E:af->ag->Prop}{s:ag}
theorem WB {h:ck}{a:ah}(e:h.get? a=some (bare w)):jH prog w h a []:=by
 have tok:∀led:Bool,TOk (.fresh 0 0 led) []:=λled=>⟨rfl,.nil,rfl,(λj hj=>nomatch hj),ja _,.inl rfl,(λi h j e=>nomatch e),rfl⟩
 exact⟨bare w,#[],0,_,e,⟨rfl,rfl,rfl⟩,rfl,rfl,tok _,.nil,(by show 0*5<7*3;decide),rfl⟩
theorem WC (a:af) {Q:af->ag->Prop}(q:Q (.ref s.heap.objs.size) { s with heap:=s.heap.push (bare w) }):
  codeAny (model prog w) A (.call (.builtin "set.__new__") ⟨[.type "set",a],[]⟩) (wants Q E) s:=by
 refine rf F.plain_set_new F.entry_set_new (xk (F.newCall_set_1 a) ?_);have self:=sub_set_self;unfold kz.«set.__new__» Builtin.Frozenset.newClass;cases s
 wp_walk
 exact km (ai (aa (wpAny_alloc (ai (ai q)))))
theorem WD {v:af}{Q N:af->ag->Prop}(hn:codeAny (model prog w) A.in1 (.call (.builtin "set.__new__") ⟨[.type "set",v],[]⟩) (wants N E) s)
  (hi:∀x s1,N x s1->s1.TypeIs x "set"/\codeAny (model prog w) A.in1 (.call (.builtin "set.__init__") ⟨[x,v],[]⟩) (wants (λr s2=>r=.none/\Q x s2) E) s1):wpAny (model prog w) A (call (.type "set") [v]) Q E s:=by
 have f:=F.called_set;obtain⟨_,_,fm⟩:=f.mro;have fd:=f.made;have fs:=f.sub;have ft:=f.notType;have fc:=f.canCreate;have fk:=F.typeCall_set_1 v;have fl:=f.init.lookup;have q:(Code.builtin "type.__call__" ⟨[.type "set",v],[]⟩).quiet=true:=Code.quiet_builtin _ (by decide +kernel);refine yk (codeAny_of_tree (ai ⟨q,og F.entry_type_call ?_⟩));rw[Around.under_plain (weight_type_call_type "set" [v] []) rfl]
 repeat (any_goals (first|assumption|wp_step))
 refine md hn ?_
 rintro (e|fl1) s1 h1
 ·exact h1
 ·cases fl1 <;> try exact h1.elim
  rename_i x;obtain⟨hx,hr⟩:=hi x s1 h1;have fb:=f.init.bind x
  repeat (any_goals (first|assumption|wp_step))
  refine md hr ?_
  rintro (e|fl2) s2 h2
  ·exact h2
  ·cases fl2 <;> try exact h2.elim
   obtain⟨rfl,h3⟩:=h2
   repeat (any_goals (first|assumption|wp_step))
theorem HW {l:ah}{T:String}{it:Obj}{n:Nat}{P:Nat->af->Prop}{St:Nat->ck->Prop}{fp wr:List ah}(ad:Nat->ah) (ky:Nat->List Int) (U:List (List Int)) {Q:af->ag->Prop}
  (hu:A.units+8<cLine) (hT:s.TypeIs (.ref l) T) (n1:isSubtype (.type T) (.type "set")=pure false) (n2:isSubtype (.type T) (.type "frozenset")=pure false) (n3:(zd T==zd "dict")=false)
  (hi:∀(B:cf) (Q':af->ag->Prop) (E':af->ag->Prop),Q' (.ref (s.heap.objs.size+1)) { s with heap:=(s.heap.push (bare w)).push it }->wpAny (model prog w) B (pyIter (.ref l)) Q' E' { s with heap:=s.heap.push (bare w) })
  (W:Walks prog w A.in1.in1.in1 (s.heap.objs.size+1) fp wr n P St) (hfp:s.heap.objs.size∉fp) (hwr:∀b∈wr,s.heap.objs.size<b) (h0:St 0 ((s.heap.push (bare w)).push it))
  (hval:∀i v,P i v->v=.ref (ad i)) (hU:U.length<=76) (hky:∀i,i<n->ky i∈U) (hkeys:∀j,j<n->fi (intKind prog w) s.heap (ky j) (ad j))
  (q:∀(h':ck) (tk:Nat) kb,jH prog w h' s.heap.objs.size kb->Upto ky ad n kb->(∀b o,s.heap.get? b=some o->h'.get? b=some o)->Q (.ref s.heap.objs.size) { s with heap:=h',toks:=tk }):
  wpAny (model prog w) A (call (.type "set") [.ref l]) Q E s:=by
 refine WD (N:=λx s1=>x=.ref s.heap.objs.size/\s1={ s with heap:=s.heap.push (bare w) }) (WC _ ⟨rfl,rfl⟩) ?_
 rintro x s1 ⟨rfl,rfl⟩
 have up:∀b o,s.heap.get? b=some o->(s.heap.push (bare w)).get? b=some o:=λb o e=>aj _ e;have hb:(s.heap.push (bare w)).get? s.heap.objs.size=some (bare w):=ay _ rfl;have hS:qk { s with heap:=s.heap.push (bare w) } (.ref s.heap.objs.size) "set" := ⟨_,hb,rfl⟩;refine⟨hS,rf F.called_set.init.plain F.entry_set_init (check_set_init_1 hS ?_)⟩;obtain⟨ol,el,cl⟩:=hT;have hl1:qk { s with heap:=s.heap.push (bare w) } (.ref l) T:=⟨ol,up l ol el,cl⟩
 have lt:∀j,j<n->ad j<s.heap.objs.size:=λj hj=>let ⟨_,_,_,e,_⟩:=hkeys j hj;au e;have hb2:((s.heap.push (bare w)).push it).get? s.heap.objs.size=some (bare w):=aj _ hb;have run:∀(R:vk->ag->Prop),(∀h' tk kb,jH prog w h' s.heap.objs.size kb->Upto ky ad n kb->(∀b o,s.heap.get? b=some o->h'.get? b=some o)->R (.ok (.ret .none)) { s with heap:=h',toks:=tk })->
   codeAny (model prog w) A.in1.in1 (.builtin "set.update.loop" ⟨[.ref s.heap.objs.size,.ref (s.heap.objs.size+1)],[]⟩) R { s with heap:=(s.heap.push (bare w)).push it }:=λR hR=>by
  refine VV W s.heap.objs.size hfp ad ky hval (by show A.units+1+1+2<cLine;omega) U hU hky (λj hj=>⟨bc (lt j hj),λm=>Nat.lt_asymm (lt j hj) (hwr _ m)⟩) n 0 _ [] rfl (ja _) h0 (WB hb2)
   ⟨(λp hp=>nomatch hp),λj hj=>absurd hj (Nat.not_lt_zero j)⟩ (λj hj=>uP (hkeys j hj) λo e=>aj _ (up _ o e)) λh' tk kb keep S u=>hR h' tk kb S u λb o e=>?_
  have hlt:=au e;exact keep b o (λm=>(bg.mp m).elim (bc hlt) λm=>Nat.lt_asymm hlt (hwr b m)) (aj _ (up b o e))
 unfold kz.«set.__init__» noKeywords Builtin.Frozenset.updateFrom;generalize hPI:pyIter=PI;unfold bare at hb
 wp_walk
 subst hPI;refine hi _ _ _ ?_;refine aa (wpAny_runValue (run _ λh' tk kb S u keep=>?_));exact ai (ai ⟨rfl,q h' tk kb S u keep⟩)
end
end SR
namespace L2.Mr
open PySem PySem.Spec PyProof.Rows SR
def TupsAre (H:Hp):List V->List (List Int)->Prop
 | [],[]=>True
 |v::vs,k::ks=>(∃b,v=.ref b/\H b=some (.tup (k.map V.int)))/\TupsAre H vs ks
 |_,_=>False
def WE:V->ah
 | .ref b=>b
 |_=>0
def dS (vs:List V) (i:Nat):ah:=WE (vs.getD i .non)
section
variable{X:Cx}{pins:List (ah×Obj)}{σ:St}{H H':Hp}{s:ag}
theorem TupsAre.len:∀{vs:List V}{ks:List (List Int)},TupsAre H vs ks->vs.length=ks.length
 | [],[],_=>rfl
 | [],_::_,h=>h.elim
 |_::_,[],h=>h.elim
 |v::vs,k::ks,h=>by rw[cp,cp,TupsAre.len h.2]
theorem TupsAre.at_:∀{vs:List V}{ks:List (List Int)}{i:Nat},TupsAre H vs ks->i<ks.length->vs[i]?=some (.ref (dS vs i))/\H (dS vs i)=some (.tup ((ks.getD i []).map V.int))
 | [],[],_,_,h=>by simp at h
 | [],_::_,_,h,_=>h.elim
 |_::_,[],_,h,_=>h.elim
 |v::vs,k::ks,0,h,_=>by obtain⟨⟨b,rfl,e⟩,_⟩:=h;exact⟨rfl,e⟩
 |v::vs,k::ks,i+1,h,hi=>by
  obtain⟨e1,e2⟩:=TupsAre.at_ (i:=i) h.2 (by simpa using hi);have ea:dS (v::vs) (i+1)=dS vs i:=by simp[dS]
  exact⟨by rw[ea];simpa using e1,by rw[ea];simpa using e2⟩
theorem HX:∀{k:List Int}{its:List af}{prog:bf}{w:cg},Vals (k.map V.int) its->ItemsAre (intKind prog w) k its
 | [],_,_,_,.nil=>.nil
 |n::k,_,_,_,.cons h1 h2=>by obtain⟨t,rfl⟩:=h1;exact .cons (intKind_is _ _ _ _) (HX h2)
theorem zO (I:Inv X pins σ H s) {b:ah}{k:List Int}(e:H b=some (.tup (k.map V.int))):fi (intKind X.prog X.w) s.heap k b:=by obtain⟨_,its,r,o,e1,c,_,n,d⟩:=I.hok b _ e;exact⟨o,its.toArray,n,e1,c,d,HX r⟩
theorem HY {vs:List V}{ks:List (List Int)}{its:List af}(h:TupsAre H vs ks) (r:Vals vs its):its=bF ks.length (dS vs):=by
 have hl:=r.length;have hl2:=h.len
 apply sd
 intro i
 by_cases hi:i<ks.length
 ·obtain⟨e1,_⟩:=h.at_ hi;obtain⟨u,e2,e3⟩:=r.get e1;cases e3;rw[e2];simp[bF,hi]
 ·rw[yu (by omega),yu (by rw[jI];omega)]
theorem WG {n:Nat}{ad:Nat->ah}{ky:Nat->List Int}{out:List af}(so:Sorted n ad ky out) (hH:∀i,i<n->H (ad i)=some (.tup ((ky i).map V.int))):
  ∃(p:List Nat) (vs':List V),p.Perm (bo n)/\eZ cB (p.map ky)/\Vals vs' out/\TupsAre H vs' (p.map ky):=by
 obtain⟨p,pp,r,rfl⟩:=so;refine⟨p,p.map λi=>V.ref (ad i),pp,r, ?_, ?_⟩
 ·clear pp r
  induction p with
  |nil=>exact .nil
  |cons i p ih=>exact .cons rfl ih
 ·have:∀q:List Nat,(∀i∈q,i<n)->TupsAre H (q.map λi=>V.ref (ad i)) (q.map ky):=λq=>by
   induction q with
   |nil=>intro _;trivial
   |cons i q ih=>exact λh=>⟨⟨_,rfl,hH i (h i (ba ..))⟩,ih λj hj=>h j (aw _ hj)⟩
  exact this p λi hi=>bx.mp (pp.mem_iff.mp hi)
theorem WH {α:Type}{p:List Nat}{n:Nat}{l:List α}{d:α}(h:p.Perm (bo n)) (hl:l.length=n):(p.map λi=>l.getD i d).Perm l:=by
 refine(h.map _).trans ?_;have:(bo n).map (λi=>l.getD i d)=l:=by
  apply List.ext_getElem (by simp[hl])
  intro i h1 h2;simp[h2]
 rw[this]
def uT (prog:bf) (w:cg) (l:ah) (o:Obj) (kb:KB):Prop:=∃es ep t,∀h:ck,h.get? l=some o->Parts prog w h l kb o es ep t
structure KbOk (H:Hp) (kb:KB) (ks:List (List Int)):Prop where
 tup:∀p∈kb,H p.2=some (.tup (p.1.map V.int))
 frm:∀p∈kb,p.1∈ks
 all:∀k∈ks,k∈kb.map du
abbrev HZ (X:Cx):List V->Hp->VK->Prop:=λxs H Q=>∃(p:ah) (vs:List V) (ks:List (List Int)),xs=[.ref p]/\H p=some (.lst vs)/\TupsAre H vs ks/\(cW cB ks).length<=76/\∀l o kb,H l=none->uT X.prog X.w l o kb->KbOk H kb ks->Q (.ref l) (aM H l (.frz o (.own 0)))
theorem sub_list:isSubtype (.type "list") (.type "set")=pure false/\isSubtype (.type "list") (.type "frozenset")=pure false:=⟨F.sub_list_set,F.sub_list_frozenset⟩
theorem WI {k:Nat}(rm:Room k X.A):CallR X (.type "set") (HZ X):=by
 intro pins s σ H xs us Q I rv ⟨p,vs,ks,e,hp,ht,hU,q⟩;subst e;obtain⟨u,rfl,ru⟩:=gI rv;cases ru;obtain⟨its,rits,pl,hz⟩:=I.list (SqL.of hp);have hits:=HY ht rits;have lp:=I.hok.lt hp;have hI:s.heap.IsList p (bF ks.length (dS vs)).toArray:=by rw[<-hits];exact pl.isList
 have hsz:(bF ks.length (dS vs)).toArray.size=ks.length:=by rw[ar,jI]
 have hh:X.A.in1.in1.in1.handled=none:=rm.hd;have hne:p≠s.heap.objs.size+1:=bc (jx lp);have hb:(s.heap.push (bare X.w)).IsList p (bF ks.length (dS vs)).toArray:=hI.push _;have hs1:(s.heap.push (bare X.w)).objs.size=s.heap.objs.size+1:=size_push' _ _;have W:=zg (prog:=X.prog) (w:=X.w) (A:=X.A.in1.in1.in1) hh (s.heap.objs.size+1) p hne (bF ks.length (dS vs)).toArray;rw[hsz]at W;refine HW (T := "list") (it:={ cls:=.type "list_iterator",data:=.fields #[.ref p,.int 0 0] }) (dS vs) (λi=>ks.getD i []) (cW cB ks) (by have:=rm.un;omega) hI.typeIs sub_list.1 sub_list.2 (by decide) (λB Q' E' hQ=>?_) W ?_ ?_ ?_ (λi v hv=>?_) hU (λi hi=>?_) (λj hj=>?_) λh' tk kb hS hup k=>?_
 ·refine pj hb ?_;rw[<-hs1]at hQ;exact hQ
 ·intro m
  rcases bg.mp m with z|m
  ·exact pg _ z.symm
  ·exact ji lp (gq.mp m)
 ·intro b hb;rw[gq.mp hb];exact kh _
 ·refine⟨⟨{ cls:=.type "list_iterator",data:=.fields #[.ref p,.int 0 0] }, ?_,rfl,rfl⟩,hb.push _⟩;rw[<-hs1];exact ay _ rfl
 ·have hi:i<ks.length:=by have:=(de.mp hv).1;rwa [hsz]at this
  have:(bF ks.length (dS vs))[i]?=some (.ref (dS vs i)):=by simp[bF,hi]
  rw[yv,this]at hv;exact(cn hv).symm
 ·refine(lD stoL _ _).mpr ?_;show ks.getD i []∈ks;simp[hi]
 ·exact zO I (ht.at_ hj).2
 ·obtain⟨o,es,ep,t,P⟩:=hS;refine⟨.ref s.heap.objs.size,_,I.laid (t':=tk) (o:=.frz o (.own 0)) k (ak _) ⟨P.obj,o,P.obj⟩,rfl,q _ o kb (I.hok.fresh (ak _)) ⟨es,ep,t,λh e=>P.at' e⟩ ⟨λz hz=>?_,λz hz=>?_,λz hz=>?_⟩⟩
  ·obtain⟨j,hj,rfl⟩:=hup.from_ z hz;exact(ht.at_ hj).2
  ·obtain⟨j,hj,rfl⟩:=hup.from_ z hz;show ks.getD j []∈ks;simp[hj]
  ·obtain⟨j,hj,rfl⟩:=jk hz;have:=hup.all j hj;simpa[hj]using this
abbrev IA (X:Cx):List V->Hp->VK->Prop:=λxs H Q=>∃(l:ah) (o:Obj) (kb:KB) (ks:List (List Int)),xs=[.ref l]/\H l=some (.frz o (.own 0))/\uT X.prog X.w l o kb/\KbOk H kb ks/\(∀k∈ks,k≠[])/\(cW cB ks).length<64/\∀D vs',H D=none->TupsAre H vs' (cW cB ks)->Q (.ref D) (aM H D (.lst vs'))
theorem WJ {α β:Type}{f:α->β}:∀{l:List β}{l':List β},l.Perm l'->∀xs:List α,l'=xs.map f->∃ys:List α,ys.Perm xs/\l=ys.map f:=by
 intro l l' h
 induction h with
 |nil=>intro xs e;exact⟨xs,.refl _,e⟩
 |cons a _ ih=>
  intro xs e
  cases xs with
  |nil=>cases e
  |cons x xs=>simp only[da,zb]at e;obtain⟨ys,p,e'⟩:=ih xs e.2;exact⟨x::ys,p.cons x,by simp[e.1,e']⟩
 |swap a b l=>
  intro xs e
  cases xs with
  |nil=>cases e
  |cons x xs=>
   cases xs with
   |nil=>simp at e
   |cons y xs=>simp only[da,zb]at e;exact⟨y::x::xs,.swap ..,by simp[e.1,e.2.1,e.2.2]⟩
 |trans _ _ ih1 ih2=>intro xs e;obtain⟨ys,p,e'⟩:=ih2 xs e;obtain⟨zs,p',e''⟩:=ih1 ys e';exact⟨zs,p'.trans p,e''⟩
theorem WK {k:Nat}(rm:Room k X.A):CallR X (.builtin "sorted") (IA X):=by
 intro pins s σ H xs us Q I rv ⟨l,o,kb,ks,e,hl,⟨es,ep,t,hP⟩,kO,ne,h64,q⟩;subst e;obtain⟨u,rfl,ru⟩:=gI rv;cases ru;have P:=hP s.heap (I.hok l _ hl).1;have pe:(gG X.w l ep es).toList.Perm (fF X.prog X.w kb):=by rw[<-P.es];exact HR _ _ _ _
 obtain⟨kc,pk,ek⟩:=WJ pe kb rfl;have mem:∀i,i<kc.length->kc.getD i ([],0)∈kb:=λi hi=>pk.mem_iff.mp (by simp[hi]);have hn:(kb.map du).length=(cW cB ks).length:=by refine List.Perm.length_eq ((nr P.nd (rF stoL (rE stoL ks))).mpr λz=>?_);rw[lD stoL];refine⟨λh=>?_,λh=>kO.all z h⟩;obtain⟨p,hp,rfl⟩:=dg.mp h;exact kO.frm p hp
 have hlen:kc.length<64:=by rw[pk.length_eq];rw[bh]at hn;omega
 have hes:es.size=kc.length:=by rw[P.size,pk.length_eq]
 have KA:KeysAt X.prog X.w s.heap kc.length (λi=>(kc.getD i ([],0)).2) (λi=>(kc.getD i ([],0)).1):=λi hi=>⟨zO I (kO.tup _ (mem i hi)),ne _ (kO.frm _ (mem i hi))⟩
 have er:(gG X.w l ep es).toList.map (·.2)=bF kc.length (λi=>(kc.getD i ([],0)).2):=by
  rw[ek,nj]
  apply List.ext_getElem (by simp[jI])
  intro i h1 h2;have hi:i<kc.length:=by simpa using h1
  simp[bF,hi]
 refine WA hlen KA (λQ' E' hQ=>?_) λh' tk D e out so hD ho k=>?_
 ·refine V6 (show X.A.in1.handled=none from rm.hd) P (by rw[hes,jd];omega) λh' tk kk sz=>?_;rw[er];exact hQ h' tk kk sz
 ·obtain⟨pp,vs',h1,h2,h3,h4⟩:=WG (H:=H) so λi hi=>kO.tup _ (mem i hi);have pm:(pp.map λi=>(kc.getD i ([],0)).1).Perm (kb.map du):=by have:=((WH (d:=(([],0):List Int×ah)) h1 rfl).trans pk).map du;rwa [nj]at this
  have nd:(pp.map λi=>(kc.getD i ([],0)).1).Nodup:=pm.nodup_iff.mpr P.nd;have rs:dM cB (pp.map λi=>(kc.getD i ([],0)).1):=by
   refine(h2.and nd).imp λ{a b} ⟨x,y⟩=>?_
   cases q:cB a b with
   |true=>rfl
   |false=>exact absurd (stoL.tot a b q x) y
  have e1:(pp.map λi=>(kc.getD i ([],0)).1)=cW cB ks:=UR stoL rs λz=>by rw[pm.mem_iff];refine⟨λh=>?_,λh=>kO.all z h⟩;obtain⟨p,hp,rfl⟩:=dg.mp h;exact kO.frm p hp
  rw[e1]at h4;refine⟨.ref D,_,I.laid (t':=tk) k hD (show ObjOk X.prog X.w _ _ _ (.lst vs') from⟨?_,out,e,h3,ho⟩),rfl,q D vs' (I.hok.fresh hD) h4⟩;rw[h4.len,jd];omega
end
def oV:Dv->Option (List Int)
 | .tup xs=>bB jU xs
 |_=>none
def uU (k:List Int):Dv:=.tup (k.map Dv.int)
section
variable{X:Cx}{G:Cfg}{E:XK}{k:Nat}{e a b:bj}{es:List bj}{ma mb:M Dv}{aQ:M (List Dv)}{p p2 pos pos2:Pos}
theorem zP {μ:Nat->ah}{n:Nat}{H:Hp}:∀{xs:List Dv}{vs:List V}{ks:List (List Int)},RelDL G μ n H xs vs->bB oV xs=some ks->TupsAre H vs ks
 | [],_,ks,r,e=>by cases e;rw[RelDL]at r;subst r;trivial
 |x::xs,_,ks,r,e=>by
  rw[RelDL]at r;obtain⟨v,rr,rfl,r1,r2⟩:=r;unfold bB at e
  cases x with
  |tup ds=>
   dsimp only[oV]at e
   cases q:bB jU ds with
   |none=>rw[q]at e;cases e
   |some zs=>
    rw[q]at e;dsimp only at e
    cases q2:bB oV xs with
    |none=>rw[q2]at e;cases e
    |some ys=>rw[q2]at e;cases e;rw[RelD]at r1;obtain⟨b,us,rfl,h1,h2⟩:=r1;rw[uI h2 q]at h1;exact⟨⟨b,rfl,h1⟩,zP r2 q2⟩
  |_=>cases e
theorem IB {μ:Nat->ah}{n:Nat}{H:Hp}:∀{vs:List V}{ks:List (List Int)},TupsAre H vs ks->RelDL G μ n H (ks.map uU) vs
 | [],[],_=>RelDL.nil
 | [],_::_,h=>h.elim
 |_::_,[],h=>h.elim
 |v::vs,k::ks,h=>by obtain⟨⟨b,rfl,e⟩,h2⟩:=h;refine RelDL.cons ?_ (IB h2);unfold uU;rw[RelD];exact⟨b,_,rfl,e,pZ k⟩
def uV (ks:List (List Int)):Bool:=ks.all λk=>!k.isEmpty
theorem WL {ks:List (List Int)}(h:uV ks=true):∀k∈ks,k≠[]:=λk hk e=>by have:=fw.mp h k hk;rw[e]at this;cases this
theorem WM:cx "set" = some (.type "set"):=by decide +kernel
end
open PySem.SeqAt PySem.MeetsSeq PySem.MeetsSeq2 PySem.MeetsSeq3
section
variable{X:Cx}{G:Cfg}{E:XK}{k:Nat}{e a b o:bj}{es:List bj}{mo me ma mb:M Dv}{aQ:M (List Dv)}{p p2 pos pos2 apos cpos np:Pos}{y:Str}
theorem WN {prog:bf}{w:cg}{A:cf}{Ee:af->ag->Prop}{s:ag}{t sl:ah}{items:Array af}{vl vu:af}{lo hi:Option Int}{Q:af->ag->Prop}(ht:IsTup s.heap t items) (hs:s.heap.IsSliceOf sl vl vu .none) (pl:r8 vl lo) (pu:r8 vu hi)
  (h0:HT.sIx items.size 0 lo=0) (h1:HT.sIx items.size items.size hi=items.size) (h:Q (.ref t) s):wpAny (model prog w) A (getItem (.ref t) (.ref sl)) Q Ee s:=by
 obtain⟨os,hos,hcs,hds⟩:=id hs;have hTs:s.TypeIs (.ref sl) "slice" := ⟨os,hos,hcs⟩;have tt:=ht.typeIs;obtain⟨ot,et,ct,_⟩:=id ht;unfold getItem
 try with_reducible refine gr ?_
 first|refine aa (ai ?_)|skip
 refine aa (wpAny_sequenceKey tt (by decide) (aa (fv (name:=ie "__getitem__") tt fg (gg fg tt PySem.F.entry_tuple_getitem ?_ (PySem.F.args_tuple_getitem_2 _ _)))));refine aa (m:=slotArgs "__getitem__" 1 ⟨[.ref t,.ref sl],[]⟩) (ai (aa (tupleItemsOf_ ht (aa (oj hTs ?_)))));rw[if_pos (by decide)];refine aa (HT.sliceApplied_gen hs pl pu ?_);rw[h0,h1];show wpAny _ _ (if(((0:Nat):Int)==0&&(1:Int)==1&&(items.size - 0)==items.size)=true then _ else _) _ _ s;rw[if_pos (by simp)];unfold Builtin.Tuple.tupleIsExact;refine aa (aa (oj tt (ai ?_)));rw[if_pos (by decide)];refine aa (qj (ai ⟨_,rfl,ai h⟩))
theorem WO:SlR X (λx lo hi H Q=>∃a xs,x=.ref a/\SqT X.K H a xs/\HT.sIx xs.length 0 lo=0/\HT.sIx xs.length xs.length hi=xs.length/\Q (.ref a) H):=by
 intro pins s σ H x v vl vu lo hi sl Q I rx hs pl pu ⟨a,xs,ex,hx,h0,h1,q⟩;subst ex;cases rx;obtain⟨its,r,ht,hz⟩:=I.tuple hx;have hlen:its.toArray.size=xs.length:=by rw[ar];exact r.length.symm
 exact⟨"tuple",_,fg.lookup,ht.typeIs,WN ht hs pl pu (by rw[hlen];exact h0) (by rw[hlen];exact h1) ⟨.ref a,H,I,rfl,q⟩⟩
def uW (x:Dv) (lo hi:Option Int) (h:Hs):Rs Dv:=match x with
 | .ref j=>match getL h j with
  |some xs=>.ok (.ref h.length) (h++[.lst (lY xs lo hi)])
  |none=>.bad
 | .tup xs=>.ok (.tup (lY xs lo hi)) h
 |_=>.bad
theorem WQ {xs:List Dv}{lo hi:Option Int}(h0:HT.sIx xs.length 0 lo=0) (h1:HT.sIx xs.length xs.length hi=xs.length):lY xs lo hi=xs:=by unfold lY;rw[h0,h1];simp
def rM (m:M Dv) (lo hi:MO):M Dv:=λρ h=>(m ρ h).bind λx h1=>(lo ρ h1).bind λl h2=>(hi ρ h2).bind λu h3=>uW x l u h3
theorem WR {lo hi:Option bj}{ml mh:MO}(ho:aG X G E o mo) (hl:uE X G E lo ml) (hh:uE X G E hi mh):aG X G E (.Subscript o (.Slice lo hi none p2) pos) (rM mo ml mh):=λhK=>
 PE.imp (OL (SlR.or (SlR.or OV ON) WO) (ho hK) (hl hK) (hh hK)) λσ H Q ⟨μ,ρ,h,rs,s,oo⟩=>cR rs s oo λμ1 x h1 vx H1 x1 rs1 s1 r1 o1=>by
  refine⟨μ1,ρ,h1,rs1,s1,(o1.bind (R1:=λ_ _ _ a b=>b=a)).mono λl' H2 ⟨μ2,l,h2,x2,s2,el,o2⟩=>?_⟩;subst el;refine⟨μ2,ρ,h2,rs1.mono x2,s2,(o2.bind (R1:=λ_ _ _ a b=>b=a)).mono λu' H3 ⟨μ3,u,h3,x3,s3,eu,o3⟩=>?_⟩;subst eu;have r3:=RelD.mono (x2.trans x3) _ _ r1
  cases x with
  |ref j=>
   dsimp only[uW]at o3
   cases q:getL h3 j with
   |none=>rw[q]at o3;exact o3.elim
   |some xs=>rw[q]at o3;obtain⟨vs,ea,ra⟩:=s3.ob j _ (cT q);obtain⟨_,rfl⟩:=r3;exact .inl (.inl ⟨_,vs,rfl,SqL.of ea,λp hp=>nZ s3 (F5 ra _ _) hp o3⟩)
  |tup xs=>
   dsimp only[uW]at o3;obtain⟨a,vs,rfl,ea,ra⟩:=r3
   by_cases hw:HT.sIx xs.length 0 l'=0/\HT.sIx xs.length xs.length u'=xs.length
   ·refine .inr ⟨a,vs,rfl,SqT.of ea,by rw[ra.length];exact hw.1,by rw[ra.length];exact hw.2,o3 μ3 _ _ Ext.refl s3 ?_⟩;rw[WQ hw.1 hw.2];exact⟨a,vs,rfl,ea,ra⟩
   ·exact .inl (.inr ⟨a,vs,rfl,SqT.of ea,by rw[ra.length];exact hw,λp hp=>o3 μ3 _ _ (Ext.same (bU hp)) (s3.same (bU hp)) ⟨p,_,rfl,bX,RelDL.mono (Ext.same (bU hp)) _ _ (F5 ra _ _)⟩⟩)
  |_=>exact o3.elim
def fH (x y:Dv) (h:Hs):Rs Dv:=match x,y with
 | .int i,.int j=>.ok (.bl (decide (i<j))) h
 | .tup xs,.tup ys=>match bB jU xs,bB jU ys with
  |some ns,some ms=>.ok (.bl (HT.lexLt ns ms)) h
  |_,_=>.bad
 |_,_=>.bad
theorem IC:∀x y:List Int,HT.lexLt x y=cB x y
 | [],[]=>rfl
 | [],_::_=>rfl
 |_::_,[]=>rfl
 |a::x,b::y=>by
  rw[HT.lexLt_cons,cB,IC x y]
  by_cases h:a=b <;> simp[h]
theorem ID:dO G (λx y H Q=>(iF λi j=>.bl (decide (i<j))) x y H Q∨DJ G.K x y H Q) fH:=by
 intro E μ h H x y vx vy Q s rx ry o;unfold fH at o
 split at o
 ·rename_i i j;exact .inl (pX E μ h H (.int i) (.int j) vx vy Q s rx ry o)
 ·rename_i xs ys
  cases q1:bB jU xs with
  |none=>rw[q1]at o;exact o.elim
  |some ns=>
   cases q2:bB jU ys with
   |none=>rw[q1,q2]at o;exact o.elim
   |some ms=>rw[q1,q2]at o;obtain⟨a,us,rfl,ea,ra⟩:=rx;obtain⟨b,ws,rfl,eb,rb⟩:=ry;exact .inr ⟨a,b,ns,ms,rfl,rfl,SqT.of (by rw[ea,uI ra q1]),SqT.of (by rw[eb,uI rb q2]),o.val s rfl⟩
 ·exact o.elim
theorem IE (g:Good X G E k) (ha:aG X G E a ma) (hb:aG X G E b mb):aG X G E (.Compare a [.Lt] [b] pos) (m2 fH ma mb):=λhK=>tH (OpR.or CO (DK (by have:=g.room.un;omega))) (by rw[hK];exact ID) ha hb (mP _) hK
theorem IF (g:Good X G E k) (ha:aG X G E a ma) (hb:aG X G E b mb):gK X G E (.Compare a [.Lt] [b] pos) (mB (m2 fH ma mb)):=λhK=>tI (OpR.or CO (DK (by have:=g.room.un;omega))) (by rw[hK];exact ID) ha hb (mP _) hK
def gH (j:Int):List Int:=(bo j.toNat).map λk:Nat=>(k:Int)
theorem WS:CallR X (.type "range") (λxs H Q=>∃j:Int,xs=[.int j]/\∀l,H l=none->Q (.ref l) (aM H l (.rng 0 j))):=by intro pins s σ H xs us Q I rv ⟨j,e,q⟩;subst e;obtain⟨u,rfl,ru⟩:=gI rv;obtain⟨t,rfl⟩:=ru;refine call_range_1 ⟨.ref s.heap.objs.size,_,I.laid (t':=s.toks+1+1) (o:=.rng 0 j) (λb ob q=>aj _ q) (ak _) ⟨_,_,_,ay _ rfl⟩,rfl,q _ (I.hok.fresh (ak _))⟩
theorem WT (rm:Room k X.A):CallR X (.type "list") (λxs H Q=>∃(l:ah) (j:Int),xs=[.ref l]/\H l=some (.rng 0 j)/\0<=j/\j<=1000/\∀D,H D=none->Q (.ref D) (aM H D (.lst ((gH j).map V.int)))):=by
 intro pins s σ H xs us Q I rv ⟨l,j,e,hl,h0,h1,q⟩;subst e;obtain⟨u,rfl,ru⟩:=gI rv;cases ru;obtain⟨t,u,v,hr⟩:=I.hok l _ hl;refine call_list_range (n:=j.toNat) (a:=0) (b:=j) (c:=1) rm.hd hr (small_one (by omega) (by omega) (by omega) (by omega)) ?_ (by omega) λh' tk acc c ke ho ia=>?_
 ·rw[rangeSize_one]
  split <;> omega
 ·have hv:Vals ((gH j).map V.int) acc.toList:=by
   have:∀(n:Nat) (as:List af),as.length=n->(∀(i:Nat) (v:af),as[i]?=some v->∃t,v=Value.int (0+(i:Int)*1) t)->Vals (((bo n).map λk:Nat=>(k:Int)).map V.int) as:=λn=>by
    induction n with
    |zero=>intro as hl _;rw[yc.mp hl];exact .nil
    |succ n ih=>
     intro as hl hi;have hne:as≠[]:=λz=>by rw[z]at hl;cases hl
     have e:=List.dropLast_concat_getLast hne;rw[<-e,List.range_succ,jg,jg];have hlast:as[n]?=some (as.getLast hne):=by
      rw[List.getLast_eq_getElem,az (by omega)]
      congr 2;omega
     obtain⟨t,ht⟩:=hi n _ hlast;refine Vals.append (ih as.dropLast (by simp[hl]) λi v hv=>hi i v ?_) ?_
     ·rw[List.getElem?_dropLast]at hv
      split at hv
      ·exact hv
      ·cases hv
     ·refine .cons ?_ .nil;show RelV (.int (n:Int)) _;rw[ht];exact⟨t,by simp⟩
   refine this j.toNat acc.toList (by simpa using ia.1) λi v hv=>?_;exact ia.2 i v (by simpa using hv)
  refine⟨.ref s.heap.objs.size,_,I.laid (t':=tk) ke (ak _) (show ObjOk X.prog X.w _ _ _ (.lst ((gH j).map V.int)) from⟨?_,acc.toList,c,hv, ?_⟩),rfl,q _ (I.hok.fresh (ak _))⟩
  ·rw[bh,gH,bh,jw,jd];omega
  ·rw[ho]
def oW:Dv->Hs->Rs Dv
 | .int j,h=>if(decide (0<=j)&&decide (j<=1000))=true then .ok (.ref h.length) (h++[.lst ((gH j).map Dv.int)])else .bad
 |_,_=>.bad
theorem WU (g:Good X G E k) (hg:Gl X "list") (hm:X.mg "list" = none) (hg2:Gl X "range") (hm2:X.mg "range" = none) (ha:cS X G E [e] aQ)
  (he:aq [e] X.env=[(false,eval e X.env)]:=by rfl) (he2:aq [Expr.Call (.Name "range" p2) [e] [] pos2] X.env=[(false,eval (.Call (.Name "range" p2) [e] [] pos2) X.env)]:=by rfl):
  aG X G E (.Call (.Name "list" p) [.Call (.Name "range" p2) [e] [] pos2] [] pos) (aD (f1 oW) aQ):=λhK=>
 PE.imp (pP (WT g.room) hg hm tN (fK (pP WS hg2 hm2 yj (ha hK) (by decide) (by decide) he rfl) gJ he2) (by decide) (by decide) he2 rfl) λσ H Q ⟨μ,ρ,h,rs,s,o⟩=>by
  refine iT rs s o λμ1 ds h1 vs H1 x1 rs1 s1 r1 o1=>?_;unfold f1 at o1
  split at o1
  ·rename_i d;obtain⟨v,rfl,rv⟩:=qB r1
   cases d with
   |int j=>
    dsimp only[oW]at o1
    split at o1
    ·rename_i h0;rw[cy]at h0;have j0:0<=j:=by simpa using h0.1
     have j1:j<=1000:=by simpa using h0.2
     rw[RelD]at rv;subst rv;refine⟨j,rfl,λl hl=>?_⟩;have sm:=bU (o:=.rng 0 j) hl;refine⟨l,j,rfl,bX,j0,j1,λD hD=>?_⟩;exact nZ (E:=E) (s1.same sm) (pZ _) hD (λμ' H' v x'=>o1 μ' H' v ((Ext.same sm).trans x'))
    ·exact o1.elim
   |_=>exact o1.elim
  ·exact o1.elim
end
section
variable{mo me:M Dv}{ml mh:MO}
end
section
variable{X:Cx}{G:Cfg}{E:XK}{k:Nat}{e a b o:bj}{es:List bj}{mo me ma mb:M Dv}{aQ:M (List Dv)}{p p2 pos pos2 apos cpos np:Pos}{y:Str}
theorem sub_tuple:isSubtype (.type "tuple") (.type "set")=pure false/\isSubtype (.type "tuple") (.type "frozenset")=pure false:=by constructor <;> (rw[isSubtype_type];kernel_rfl)
abbrev IG (X:Cx):List V->Hp->VK->Prop:=λxs H Q=>∃(p:ah) (vs:List V) (ks:List (List Int)),xs=[.ref p]/\H p=some (.tup vs)/\TupsAre H vs ks/\(cW cB ks).length<=76/\∀l o kb,H l=none->uT X.prog X.w l o kb->KbOk H kb ks->Q (.ref l) (aM H l (.frz o (.own 0)))
theorem WV (rm:Room k X.A):CallR X (.type "set") (IG X):=by
 intro pins s σ H xs us Q I rv ⟨p,vs,ks,e,hp,ht,hU,q⟩;subst e;obtain⟨u,rfl,ru⟩:=gI rv;cases ru;obtain⟨its,rits,pl,hz⟩:=I.tuple (SqT.of hp);have hits:=HY ht rits;have lp:=I.hok.lt hp;have hI:s.heap.IsTuple p (bF ks.length (dS vs)).toArray:=by rw[<-hits];exact pl
 have hsz:(bF ks.length (dS vs)).toArray.size=ks.length:=by rw[ar,jI]
 have hne:p≠s.heap.objs.size+1:=bc (jx lp);have hb:(s.heap.push (bare X.w)).IsTuple p (bF ks.length (dS vs)).toArray:=IsTup.push (items:=(bF ks.length (dS vs)).toArray) hI _;have hs1:(s.heap.push (bare X.w)).objs.size=s.heap.objs.size+1:=size_push' _ _;have W:=Walks.tuple (prog:=X.prog) (w:=X.w) (A:=X.A.in1.in1.in1) (show X.A.in1.in1.in1.handled=none from rm.hd) (s.heap.objs.size+1) p hne (bF ks.length (dS vs)).toArray;rw[hsz]at W;refine HW (T := "tuple") (it:={ cls:=.type "tuple_iterator",data:=.fields #[.ref p,.int 0 0] }) (dS vs) (λi=>ks.getD i []) (cW cB ks) (by have:=rm.un;omega) hI.typeIs sub_tuple.1 sub_tuple.2 (by decide) (λB Q' E' hQ=>?_) W (λm=>?_) (λb hb=>?_) ⟨⟨{ cls:=.type "tuple_iterator",data:=.fields #[.ref p,.int 0 0] }, ?_,rfl,rfl⟩,IsTup.push (items:=(bF ks.length (dS vs)).toArray) hb _⟩ (λi v hv=>?_) hU (λi hi=>?_) (λj hj=>zO I (ht.at_ hj).2) λh' tk kb hS hup k=>?_
 ·refine p0 hb ?_;rw[<-hs1]at hQ;exact hQ
 ·rcases bg.mp m with z|m
  ·exact pg _ z.symm
  ·exact ji lp (gq.mp m)
 ·rw[gq.mp hb];exact kh _
 ·rw[<-hs1];exact ay _ rfl
 ·have hi:i<ks.length:=by have:=(de.mp hv).1;rwa [hsz]at this
  have:(bF ks.length (dS vs))[i]?=some (.ref (dS vs i)):=by simp[bF,hi]
  rw[yv,this]at hv;exact(cn hv).symm
 ·refine(lD stoL _ _).mpr ?_;show ks.getD i []∈ks;simp[hi]
 ·obtain⟨o,es,ep,t,P⟩:=hS;refine⟨.ref s.heap.objs.size,_,I.laid (t':=tk) (o:=.frz o (.own 0)) k (ak _) ⟨P.obj,o,P.obj⟩,rfl,q _ o kb (I.hok.fresh (ak _)) ⟨es,ep,t,λh e=>P.at' e⟩ ⟨λz hz=>?_,λz hz=>?_,λz hz=>?_⟩⟩
  ·obtain⟨j,hj,rfl⟩:=hup.from_ z hz;exact(ht.at_ hj).2
  ·obtain⟨j,hj,rfl⟩:=hup.from_ z hz;show ks.getD j []∈ks;simp[hj]
  ·obtain⟨j,hj,rfl⟩:=jk hz;have:=hup.all j hj;simpa[hj]using this
theorem WW (rm:Room k X.A):CallR X (.type "set") (λxs H Q=>HZ X xs H Q∨IG X xs H Q):=by
 intro pins s σ H xs us Q I rv h
 rcases h with h|h
 ·exact WI rm pins s σ H xs us Q I rv h
 ·exact WV rm pins s σ H xs us Q I rv h
def nM (x:Dv) (h:Hs):Option (List (List Int)):=match x with
 | .ref i=>match getL h i with
  |some xs=>bB oV xs
  |none=>none
 | .tup xs=>bB oV xs
 |_=>none
def jX (x:Dv) (h:Hs):Rs Dv:=match nM x h with
 |some ks=>if(uV ks&&decide ((cW cB ks).length<64))=true then .ok (.ref h.length) (h++[.lst ((cW cB ks).map uU)])else .bad
 |none=>.bad
theorem IH (g:Good X G E k) (hg:Gl X "sorted") (hm:X.mg "sorted" = none) (hg2:Gl X "set") (hm2:X.mg "set" = none) (ha:cS X G E [e] aQ)
  (he:aq [e] X.env=[(false,eval e X.env)]:=by rfl) (he2:aq [Expr.Call (.Name "set" p2) [e] [] pos2] X.env=[(false,eval (.Call (.Name "set" p2) [e] [] pos2) X.env)]:=by rfl):
  aG X G E (.Call (.Name "sorted" p) [.Call (.Name "set" p2) [e] [] pos2] [] pos) (aD (f1 jX) aQ):=λhK=>
 PE.imp (pO (WK g.room) hg hm UJ (fK (pP (WW g.room) hg2 hm2 WM (ha hK) (by decide) (by decide) he rfl) gJ he2) (by decide) (by decide) he2 rfl) λσ H Q ⟨μ,ρ,h,rs,s,o⟩=>by
  refine iT rs s o λμ1 ds h1 vs H1 x1 rs1 s1 r1 o1=>?_;unfold f1 at o1
  split at o1
  ·rename_i d;obtain⟨v,rfl,rv⟩:=qB r1;unfold jX at o1
   cases q:nM d h1 with
   |none=>rw[q]at o1;exact o1.elim
   |some ks=>
    rw[q]at o1;dsimp only at o1
    split at o1
    ·rename_i h0;rw[cy]at h0;have h64:(cW cB ks).length<64:=by simpa using h0.2
     have fin:∀(l:ah) (o:Obj) (kb:KB),H1 l=none->uT X.prog X.w l o kb->KbOk H1 kb ks->IA X [.ref l] (aM H1 l (.frz o (.own 0))) Q:=λl o kb hl so ko=>by have sm:=bU (o:=.frz o (.own 0)) hl;refine⟨l,o,kb,ks,rfl,bX,so,⟨λp hp=>sm _ _ (ko.tup p hp),ko.frm,ko.all⟩,WL h0.1,h64,λD vs' hD ht=>?_⟩;exact nZ (E:=E) (s1.same sm) (IB ht) hD (λμ' H' v x'=>o1 μ' H' v ((Ext.same sm).trans x'))
     cases d with
     |ref i=>
      dsimp only[nM]at q
      cases q1:getL h1 i with
      |none=>rw[q1]at q;cases q
      |some xs=>rw[q1]at q;obtain⟨vs,e1,r2⟩:=s1.ob i _ (cT q1);obtain⟨_,rfl⟩:=rv;exact .inl ⟨_,vs,ks,rfl,e1,zP r2 q,by omega,fin⟩
     |tup xs=>obtain⟨a,vs,rfl,e1,r2⟩:=rv;exact .inr ⟨_,vs,ks,rfl,e1,zP r2 q,by omega,fin⟩
     |_=>cases q
    ·exact o1.elim
  ·exact o1.elim
end
theorem II {α β:Type}{f g:α->Option β}:∀l:List α,(∀x∈l,f x=g x)->l.filterMap f=l.filterMap g
 | [],_=>rfl
 |x::l,h=>by rw[bz,bz,h x (by simp),II l λy hy=>h y (by simp[hy])]
section
variable{X:Cx}{G:Cfg}{E:XK}{o:bj}{mo:M Dv}{ms:MO}{se:bj}{p2 pos:Pos}
end
open L2
section
variable{X:Cx}{G:Cfg}{E:XK}{pos:Pos}
end
def mG:M Dv:=λ_ _=>.bad
def uX (f:bj->M Dv):List bj->M (List Dv)
 | []=>aC
 |e::es=>aA (f e) (uX f es)
def lF (lk:Str->Option Nat):Nat->bj->M Dv
 |0,_=>mG
 |n+1,e=>match e with
  | .Constant c _ _=>match c with
   | .int i=>mC (.int i)
   | .bool b=>mC (.bl b)
   | .none=>mC .non
   | .str x=>mC (.str x)
   |_=>mG
  | .Tuple es _ _=>aJ (uX (lF lk n) es)
  | .List es _=>aU (uX (lF lk n) es)
  | .Dict [] [] _=>mC .edc
  | .Name x _=>match lk x with
   |some i=>aB i
   |none=>mG
  | .UnaryOp .USub a _=>m1 yV (lF lk n a)
  |_=>mG
def IJ (e:bj):Prop:=∀es env,aq (e::es) env=(false,eval e env)::aq es env
section
variable{X:Cx}{G:Cfg}{E:XK}{lk:Str->Option Nat}
theorem uY {e:bj}:aG X G E e mG:=λ_ pins s σ H Q _ ⟨_,_,_,_,_,o⟩=>o.elim
theorem WX {e:bj}{es:List bj}{ms:M (List Dv)}:cS X G E (e::es) (aA mG ms):=λ_ pos pins s σ H Q _ ⟨_,_,_,_,_,o⟩=>o.elim
theorem zQ {f:bj->M Dv}(hf:∀e,aG X G E e (f e)/\(IJ e∨f e=mG)):∀es,cS X G E es (uX f es)
 | []=>aN
 |e::es=>by
  obtain⟨a,b|b⟩:=hf e
  ·exact aI a (zQ hf es) (b es X.env)
  ·show cS X G E (e::es) (aA (f e) _);rw[b];exact WX
theorem uZ (hv:∀x i pos,lk x=some i->aG X G E (.Name x pos) (aB i)):∀n e,aG X G E e (lF lk n e)/\(IJ e∨lF lk n e=mG)
 |0,_=>⟨uY,.inr rfl⟩
 |n+1,e=>by
  unfold lF
  split
  ·split
   ·exact⟨aY,.inl λ_ _=>rfl⟩
   ·exact⟨iU,.inl λ_ _=>rfl⟩
   ·exact⟨EL,.inl λ_ _=>rfl⟩
   ·exact⟨iH,.inl λ_ _=>rfl⟩
   ·exact⟨uY,.inr rfl⟩
  ·exact⟨lQ (zQ (uZ hv n) _),.inl λ_ _=>rfl⟩
  ·exact⟨gL (zQ (uZ hv n) _),.inl λ_ _=>rfl⟩
  ·exact⟨S0,.inl λ_ _=>rfl⟩
  ·rename_i x pos
   split
   ·rename_i i q;exact⟨hv x i pos q,.inl λ_ _=>rfl⟩
   ·exact⟨uY,.inr rfl⟩
  ·exact⟨TH (uZ hv n _).1,.inl λ_ _=>rfl⟩
  ·exact⟨uY,.inr rfl⟩
theorem rN (n:Nat) {e:bj}{m:M Dv}(h:lF (λ_=>none) n e=m:=by rfl):aG X G E e m:=h▸(uZ (λ_ _ _ h=>by cases h) n e).1
end
structure SW (X:Cx) (G:Cfg) (E:XK) (st:gy) (m:MS):Prop where
 ok:gZ X G E st m
structure SWs (X:Cx) (G:Cfg) (E:XK) (st:List gy) (m:MS):Prop where
 ok:hJ X G E st m
section
variable{X:Cx}{G:Cfg}{E:XK}{st:gy}{rest:List gy}{m u:MS}{pos:Pos}
theorem zR (a:SW X G E st m) (b:SWs X G E rest u):SWs X G E (st::rest) (aL m u):=⟨bC a.ok b.ok⟩
theorem WY (a:SW X G E st m):SWs X G E [st] m:=⟨bJ a.ok⟩
theorem WZ (n:Nat) {i:Nat}{x:Str}{pos':Pos}{e:bj}{me:M Dv}(hN:X.N.Nodup) (hi:X.N[i]?=some x) (hx:jJ X.env.scope x) (h:lF (λ_=>none) n e=me:=by rfl) (hs:swapsWith e (some (.Name x pos')) pos.line X.env=pure false:=by rfl) (hf:X.fn x=true∨X.env.scope.names.lookup x=some .local:=by first|exact .inl rfl|exact .inr rfl|assumption):
  SW X G E (.Assign [.Name x pos'] e pos) (aK me (aF i)):=⟨yE hN hi hx (rN n h) hs hf⟩
theorem IK (n:Nat) {i:Nat}{x:Str}{pos' p2 p3:Pos}{e:bj}{me:M Dv}(hN:X.N.Nodup) (hi:X.N[i]?=some x) (hx:jJ X.env.scope x) (hv:aG X G E (.Name x p2) (aB i)) (h:lF (λ_=>none) n e=me:=by rfl) (hs:swapsWith (.BinOp (.Name x p2) .Add e p3) (some (.Name x pos')) pos.line X.env=pure false:=by rfl) (hf:X.fn x=true∨X.env.scope.names.lookup x=some .local:=by first|exact .inl rfl|exact .inr rfl|assumption):
  SW X G E (.Assign [.Name x pos'] (.BinOp (.Name x p2) .Add e p3) pos) (aK (m2 bL (aB i) me) (aF i)):=⟨yE hN hi hx (gO hv (rN n h)) hs hf⟩
end
section
variable{P:bf}{w:cg}{K:ao}{mg:Str->Option af}{base:ck}{G:Cfg}{N:List Str}{f:ah}{k:Nat}
theorem W0 {x qual:Str}{st:gy}{fd:bp}{ps:List Str}{mb:MS}(Fn:Fun K x qual st f fd) (S:FnScope N ps (aT st)) (hK:K=G.K)
  (hbody:∀(cdv:af) (A:cf) (outer:List Env) (s:ag) (H:Hp) (E₀ E:XK),Good (eG (bE P w base) P w K mg base N qual (aT st) f cdv A outer s H E₀) G E k->SWs (eG (bE P w base) P w K mg base N qual (aT st) f cdv A outer s H E₀) G E (gU st) mb):
  FnOk P w K mg base (bE P w base) (k+1) f fd ps (cF G (aS ps.length N.length mb)):=dR Fn S hK λcdv A outer s H E₀ E g=>(hbody cdv A outer s H E₀ E g).ok
end
section
variable{prog:bf}{w:cg}{A:cf}{E:af->ag->Prop}{s:ag}
end
section
variable{X:Cx}{G:Cfg}{E:XK}{k:Nat}{e:bj}{aQ:M (List Dv)}{p p2 pos pos2:Pos}
end
section
variable{prog:bf}{w:cg}{A:cf}{E:af->ag->Prop}{s:ag}{z TI TO i j u v T:ah}{xs ys:List af}{st su:Nat->ck->Prop}{f1:Bool}
end
section
variable{X:Cx}{pins:List (ah×Obj)}{σ:St}{H:Hp}{s:ag}{B:cf}{z TI TO i j t u:ah}{vs ws:List V}{n:Nat}
end
section
variable{X:Cx}{pins:List (ah×Obj)}{σ:St}{B:cf}{z TI TO i j t u S:ah}{vs ws:List V}{H0:Hp}
end
section
variable{X:Cx}{G:Cfg}{E:XK}{a b:bj}{ta:TA}{ms:M (List Dv)}{p p2 pos pos2:Pos}
end
section
variable{prog:bf}{w:cg}{A:cf}{Ee:af->ag->Prop}{s:ag}
end
section
variable{X:Cx}{G:Cfg}{E:XK}{k:Nat}{e:bj}{aQ:M (List Dv)}{p p2 pos pos2:Pos}
end
section
variable{prog:bf}{w:cg}{A:cf}{I S:ah}{fp wr:List ah}{n:Nat}{P:Nat->af->Prop}{St:Nat->ck->Prop}{R:vk->ag->Prop}{ky:Nat->Int}{d:af}
end
section
variable{X:Cx}{G:Cfg}{E:XK}{e:bj}{ml:M (List Dv)}{p pos kpos:Pos}
end
section
variable{X:Cx}{G:Cfg}{E:XK}{o i o' i' e:bj}{me mo mi mo' mi':M Dv}{pos spos spos' tpos:Pos}{kt:Nat}
end
section
variable{X:Cx}{G:Cfg}{E:XK}{e:bj}{aQ:M (List Dv)}{p pos:Pos}
end
section
variable{X:Cx}{G:Cfg}{E:XK}{e:bj}{me:M Dv}{pos pos':Pos}{i:Nat}{x:Str}
theorem cH (hN:X.N.Nodup) (hi:X.N[i]?=some x:=by rfl) (hx:jJ X.env.scope x:=by first|exact .inl rfl|exact .inr rfl) (hf:X.fn x=true∨X.env.scope.names.lookup x=some .local:=by first|exact .inl rfl|exact .inr rfl|assumption):kW X G (.Name x pos) (aF i):=QP hN hi hx hf
theorem cP (hN:X.N.Nodup) (he:aG X G E e me) (hi:X.N[i]?=some x:=by rfl) (hx:jJ X.env.scope x:=by first|exact .inl rfl|exact .inr rfl) (hs:swapsWith e (some (.Name x pos')) pos.line X.env=pure false:=by rfl) (hf:X.fn x=true∨X.env.scope.names.lookup x=some .local:=by first|exact .inl rfl|exact .inr rfl|assumption):gZ X G E (.Assign [.Name x pos'] e pos) (aK me (aF i)):=yE hN hi hx he hs hf
theorem hY {sc os:gn}{oN N:List Str}{cap:List (Option Nat)}(hs:X.env.scope.names=os.names:=by rfl) (hN:X.N=oN:=by rfl) (h1:sc.kind=.function:=by rfl) (h2:∀p∈sc.names,p.2=.local->sc.names.lookup p.1=some .local:=by decide +kernel) (h3:cap.length=N.length:=by rfl)
  (h4:∀p∈sc.names,p.2=.free->os.names.lookup p.1=some .cell∨os.names.lookup p.1=some .free:=by decide +kernel) (h5:∀p∈sc.names,p.2=.free->(p.1,df)∉sc.names:=by decide +kernel) (h6:∀q∈cap.zip N,∀j∈q.1,oN[j]?=some q.2/\sc.names.lookup q.2=some .free:=by decide +kernel):CapOk X sc N cap:=TF hs hN h1 h2 h3 h4 h5 h6
end
theorem dG {N P:List Str}{sc:gn}(h1:sc.kind=.function:=by rfl) (h2:sc.isCoroutine=false:=by rfl) (h3:sc.isGenerator=false:=by rfl) (h4:N.Nodup:=by decide +kernel) (h5:N.take P.length=P:=by rfl) (h6:∀x∈P,sc.names.lookup x=some .local∨sc.names.lookup x=some .cell:=by decide +kernel) (h7:∀y∈sc.names,y.2≠.free:=by decide +kernel):FnScope N P sc:=⟨h1,h2,h3,h4,h5,h6,h7⟩
theorem cC {k:Nat}{f:ah}{X:Cx}{G:Cfg}{E:XK}{F:List Dv->Hs->Rs Dv}{ps:List Str}{fd:bp}{x:Str}{p pos:Pos}{e:bj}{es:List bj}{ms:M (List Dv)}{j:Nat}(g:Good X G E k) (Fn:FnOk X.prog X.w X.K X.mg X.base (bE X.prog X.w X.base) j f fd ps (cF G F))
  (hm:X.mg x=some (.ref f)) (hk:jt X.K (.ref f)=true) (hb:Binds X.K fd ps []) (ha:cS X G E (e::es) ms) (hj:j<=k:=by decide) (hg:Gl X x:=by exact rfl)
  (hdb:(x==("__debug__" : Str))=false:=by decide) (he:aq (e::es) X.env=(false,eval e X.env)::aq es X.env:=by rfl) (hpl:(backTo pos (aq es X.env)).any (·.1)=false:=by rfl):
  aG X G E (.Call (.Name x p) (e::es) [] pos) (aD F ms):=FC g Fn hj hg hm hk hb ha hdb he hpl
open PySem.W in
theorem dH {F:List (Frag->Bool)}{K:Frag}{l m:List (Option bp)}(hf:l=m) (hc:F.all (λf=>f K)=true) (f:ah) (st:gy) (n:Str) (c:ah) (ps:List Str) (i j k:Nat)
  (hb:∀(kV doc pm:af) (an:Option ah) (cdv ct:af) (us:List af),us.length=ps.length->bindArgs (fnOf n n (lO st) (gU st) (aT st) .none kV doc pm an cdv ct) ⟨us,[]⟩=pure (ps.zip us))
  (h1:l[i]?=some (cQ K f):=by rfl) (h2:m[i]?=some (some (fnOf n n (lO st) (gU st) (aT st) .none .none .none .none none (.ref c) .none)):=by rfl) (h3:F[j]?=some (codeIn · (.ref c) n):=by rfl) (h4:F[k]?=some (keepIn · (.ref f)):=by rfl):
  ∃fd:bp,Fun K n n st f fd/\Binds K fd ps []/\fd.code=.ref c/\∀us:List af,us.length=ps.length->bindArgs fd ⟨us,[]⟩=pure (ps.zip us):=TB (K1 hf i h1 h2) (kM hc j h3) (kM hc k h4) hb
end L2.Mr
namespace L2.Mr.Com
open PySem PySem.Spec PyProof.Rows L2 L2.Mr
def zS:MS:=(aO (dJ (m1 (aV oR) (aB 0)) (m1 oD (m1 (aV jT) (aB 0)))))
def F_qv:List Dv->Hs->Rs Dv:=aS 1 1 (zS)
def vA:MS:=(aO (dJ (aD F_qv (aA (aB 0) aC)) (oC oQ oQ (aB 1) (aB 0) (aB 2))))
def F_qk:List Dv->Hs->Rs Dv:=aS 3 3 (vA)
def IL:MS:=(aO (mL jB (bT (aQ lV (aA (aB 0) (aA (rM (aB 0) (qR (mC (.int 1))) qQ) aC))) [none,none] (cE 2 (aX (aF 0) (aX (aF 1) cL))) cU (bQ (m2 fH (aB 0) (aB 1))))))
def F_qs:List Dv->Hs->Rs Dv:=aS 1 1 (IL)
def zT:MS:=(aO (aD F_qk (aA (aB 1) (aA (mC (.int 0)) (aA (m2 lB (aB 0) (mC (.int 1))) aC)))))
def F_qu:List Dv->Hs->Rs Dv:=aS 2 2 (zT)
def vB:MS:=(aO (dJ (m1 (aV gN) (aB 1)) (mL jB (bT (cA eF (aB 1)) [none,some 0] (aF 0) cU (bQ (aD F_qu (aA (aB 1) (aA (aB 0) aC))))))))
def F_qj:List Dv->Hs->Rs Dv:=aS 2 2 (vB)
def oX:MS:=(aO (dJ (aD F_qj (aA (aB 0) (aA (aB 1) aC))) (m2 bS (aD (f1 fR) (aA (aB 1) aC)) (mC (.int 2)))))
def F_qw:List Dv->Hs->Rs Dv:=aS 2 2 (oX)
def zU:MS:=(aO (mL jB (bT (cA eF (aB 1)) [none,some 0] (aF 0) cU (bQ (aD F_qw (aA (aB 1) (aA (aB 0) aC)))))))
def F_qq:List Dv->Hs->Rs Dv:=aS 2 2 (zU)
def IM:MS:=(aO (mL qJ (bT (cA eF (aB 0)) [none,none] (cE 2 (aX (aF 0) (aX (aF 1) cL))) cU (bQ (m2 bS (aB 0) (aB 1))))))
def F_qr:List Dv->Hs->Rs Dv:=aS 1 1 (IM)
def IP:MS:=(aO (mL jB (bT (cA eF (aB 0)) [none,none,none,none,some 0] (cE 2 (aX (aF 0) (aX (aF 1) cL))) cU (kY (cA eF (aB 4)) (cE 2 (aX (aF 2) (aX (aF 3) cL))) (mB (m2 bS (aB 1) (aB 2))) (bQ (m2 (nG false) (aJ (aA (aB 0) (aA (aB 3) aC))) (aB 4)))))))
def F_qg:List Dv->Hs->Rs Dv:=aS 1 1 (IP)
def nO:MS:=(aL (bD (dY (cJ (bH (m1 (aV gN) (aB 0)))) (mB (m2 bY (aD (f1 fR) (aA (aB 0) aC)) (mC (.int 2))))) (aO (mC (.bl false))) bP) (aL (aK (aB 0) (cE 2 (aX (aF 1) (aX (aF 2) cL)))) (aL (bD (dY (cJ (bH (aD F_qk (aA (aB 1) (aA (mC (.int 1)) (aA (mC (.int 6)) aC)))))) (cJ (bH (m1 (aV gN) (aB 2))))) (aO (mC (.bl false))) bP) (aL (bD (dY (cJ (bH (aD F_qq (aA (aB 1) (aA (aB 2) aC))))) (cJ (bH (aD F_qs (aA (aB 2) aC))))) (aO (mC (.bl false))) bP) (aO (dJ (m1 oD (aD F_qr (aA (aB 2) aC))) (aD F_qg (aA (aB 2) aC))))))))
def F_qt:List Dv->Hs->Rs Dv:=aS 1 3 (nO)
def vC (scr:List Int):MS:=(aL (bD (mB (m2 fH (aB 1) (aD (f1 (gY scr)) (aA (aB 0) aC)))) (aO (m2 (eR scr) (aB 0) (aB 1))) bP) (aO (mC (.int 0))))
def F_qd (scr:List Int):List Dv->Hs->Rs Dv:=aS 2 2 (vC scr)
def vD (scr:List Int):MS:=(aL (aK (aD (F_qd scr) (aA (aB 0) (aA (aB 1) aC))) (aF 2)) (aL (bD (mB (m2 uG (aB 2) (m2 qS (mC (.int 10)) (mC (.int 18))))) (aO (aU (aA (m2 lB (aB 2) (m2 qS (mC (.int 10)) (mC (.int 18)))) (aA (mC (.bl true)) aC)))) bP) (aO (aU (aA (m2 gM (aB 2) (mC (.int 2147483647))) (aA (mC (.bl false)) aC))))))
def F_qi (scr:List Int):List Dv->Hs->Rs Dv:=aS 2 3 (vD scr)
def zV:MS:=(aL (bD (bH (m2 aW (aB 0) (mC (.int 1)))) (aL (aK (m2 gM (m2 aW (aB 0) (mC (.int 0))) (aB 1)) (aF 2)) (aL (qL (aB 0) (mC (.int 0)) (m2 qZ (m2 aW (aB 0) (mC (.int 0))) (aB 1))) (aO (aB 2)))) bP) (aL (qL (aB 0) (mC (.int 0)) (m2 gM (m2 bL (m2 nE (m2 aW (aB 0) (mC (.int 0))) (mC (.int 48271))) (mC (.int 29))) (mC (.int 2147483647)))) (aL (aK (m2 gM (m2 bL (m2 bL (m2 nE (m2 aW (aB 0) (mC (.int 0))) (m2 aW (aB 0) (mC (.int 0)))) (m2 nE (mC (.int 39373)) (m2 aW (aB 0) (mC (.int 0))))) (mC (.int 7))) (mC (.int 2147483629))) (aF 3)) (aL (aK (m2 gM (m2 bL (m2 nE (aB 3) (aB 3)) (m2 nE (mC (.int 16807)) (aB 3))) (mC (.int 2147483587))) (aF 3)) (aO (m2 gM (m2 qZ (aB 3) (mC (.int 8))) (aB 1)))))))
def F_qp:List Dv->Hs->Rs Dv:=aS 2 4 (zV)
def zW:MS:=(aL (aK (aD (f1 jF) (aA (aB 1) aC)) (aF 2)) (aL (aK (aU aC) (aF 3)) (aL (gF (mB (m2 bY (aB 2) (aU aC))) (eU (nA (aB 3) (qP (aB 2) (aD F_qp (aA (aB 0) (aA (aD (f1 fR) (aA (aB 2) aC)) aC)))))) 40) (aO (aB 3)))))
def F_qb:List Dv->Hs->Rs Dv:=aS 2 4 (zW)
def gQ:MS:=(aL (aK (aD (f1 jX) (aA (aB 0) aC)) (aF 1)) (gF (bH (mC (.bl true))) (aL (aK (aD (f1 jF) (aA (aB 1) aC)) (aF 2)) (aL (gE (cA gD (aB 1)) (cE 2 (aX (aF 3) (aX (aF 4) cL))) (eU (nB (aB 2) (bT (cA gD (aB 1)) [none,none,some 3,some 4] (cE 2 (aX (aF 0) (aX (aF 1) cL))) (mB (m2 bS (aB 3) (aB 0))) (bQ (aJ (aA (aB 2) (aA (aB 1) aC)))))))) (aL (aK (aD (f1 jX) (aA (aB 2) aC)) (aF 2)) (aL (bD (mB (m2 bS (aB 2) (aB 1))) (aO (aB 1)) bP) (aK (aB 2) (aF 1)))))) 40))
def F_qf:List Dv->Hs->Rs Dv:=aS 1 5 (gQ)
def gR:MS:=(aL (aK (m2 lB (aB 1) (m2 aW (aU (aA (mC (.int 0)) (aA (mC (.int 0)) (aA (mC (.int 1)) (aA (mC (.int 2)) (aA (mC (.int 0)) (aA (mC (.int 3)) (aA (mC (.int 1)) (aA (mC (.int 4)) aC))))))))) (aD F_qp (aA (aB 0) (aA (mC (.int 8)) aC))))) (aF 2)) (aL (aK (aD kT (aA (mC (.int 1)) (aA (aB 2) aC))) (aF 2)) (aL (aK (aD F_qb (aA (aB 0) (aA (aD (f1 oW) (aA (aB 2) aC)) aC))) (aF 3)) (aL (aK (aD F_qp (aA (aB 0) (aA (mC (.int 5)) aC))) (aF 4)) (aL (aK (aU aC) (aF 5)) (aL (aK (dQ (bT (cA gD (aB 3)) [none,some 0] (aF 0) cU (bQ (aD F_qp (aA (aB 1) (aA (mC (.int 3)) aC)))))) (aF 6)) (aL (gE (aQ eI (aA (aB 2) aC)) (aF 7) (gE (aQ mY (aA (m2 bL (aB 7) (mC (.int 1))) (aA (aB 2) aC))) (aF 8) (aL (aK (aU (aA (m2 bS (aD F_qp (aA (aB 0) (aA (mC (.int 6)) aC))) (mC (.int 0))) (aA (m2 bS (aD F_qp (aA (aB 0) (aA (mC (.int 2)) aC))) (mC (.int 0))) (aA (m2 uF (aD F_qp (aA (aB 0) (aA (mC (.int 4)) aC))) (mC (.int 0))) aC)))) (aF 9)) (aL (aK (m2 bL (aB 9) (aU (aA (m2 fH (m2 aW (aB 6) (aB 7)) (m2 aW (aB 6) (aB 8))) (aA (m2 bS (m2 aW (aB 6) (aB 7)) (m2 aW (aB 6) (aB 8))) aC)))) (aF 9)) (bD (bH (m2 aW (aB 9) (aB 4))) (eU (nA (aB 5) (aJ (aA (m2 aW (aB 3) (aB 7)) (aA (m2 aW (aB 3) (aB 8)) aC))))) bP))))) (aL (bD (mB (m2 bS (aB 4) (mC (.int 3)))) (aL (aK (aU aC) (aF 5)) (gE (aQ eI (aA (aB 2) aC)) (aF 7) (aK (m2 bL (aB 5) (dQ (bT (aQ eI (aA (aB 2) aC)) [none,some 7,some 6] (aF 0) (mB (m2 fH (m2 aW (aB 2) (aB 1)) (m2 aW (aB 2) (aB 0)))) (bQ (aJ (aA (aB 1) (aA (aB 0) aC))))))) (aF 5)))) bP) (aO (aJ (aA (aB 2) (aA (aD (f1 kU) (aA (aD F_qf (aA (aB 5) aC)) aC)) aC))))))))))))
def F_qh:List Dv->Hs->Rs Dv:=aS 2 10 (gR)
def gS:MS:=(aL (aK (aU (aA (mC .non) (aA (mC (.int 0)) (aA (aJ aC) (aA (aJ (aA (mC (.int 0)) (aA (aJ aC) aC))) (aA (aJ (aA (mC (.int 7)) (aA (aJ aC) aC))) (aA (aJ (aA (mC (.bl true)) (aA (aJ aC) aC))) (aA (aJ (aA (mC (.int 2)) (aA (aU aC) aC))) (aA (aU (aA (mC (.int 2)) (aA (aJ aC) aC))) (aA (aJ (aA (mC (.int 2)) (aA (aJ (aA (aJ (aA (mC (.int 0)) (aA (mC (.int 1)) aC))) (aA (aJ (aA (mC (.int 0)) (aA (mC (.int 1)) aC))) aC))) aC))) (aA (aJ (aA (mC (.int 2)) (aA (aJ (aA (aJ (aA (mC (.int 1)) (aA (mC (.int 0)) aC))) (aA (aJ (aA (mC (.int 0)) (aA (mC (.int 1)) aC))) aC))) aC))) aC))))))))))) (aF 1)) (aL (aK (m2 bL (aB 1) (aU (aA (aJ (aA (mC (.int 3)) (aA (aJ (aA (aJ (aA (mC (.int 0)) (aA (mC (.int 1)) aC))) (aA (aJ (aA (mC (.int 1)) (aA (mC (.int 2)) aC))) aC))) aC))) (aA (aJ (aA (mC (.int 2)) (aA (aJ (aA (aJ (aA (mC (.int 0)) (aA (mC (.int 0)) aC))) aC)) aC))) (aA (aJ (aA (mC (.int 2)) (aA (aJ (aA (aJ (aA (mC (.int 0)) (aA (mC (.int 2)) aC))) aC)) aC))) (aA (aJ (aA (mC (.int 2)) (aA (aJ (aA (aJ (aA (mC (.int 0)) (aA (mC (.bl true)) aC))) aC)) aC))) (aA (aJ (aA (mC (.int 2)) (aA (aJ (aA (aJ (aA (mC (.int 0)) (aA (mC (.int 1)) (aA (mC (.int 1)) aC)))) aC)) aC))) (aA (mC .edc) aC)))))))) (aF 1)) (aL (aK (m2 bL (aB 1) (aU (aA (mC (.str "2:")) (aA (aJ (aA (mC (.int 2)) (aA (aJ (aA (mC (.int 0)) (aA (mC (.int 1)) aC))) aC))) (aA (aJ (aA (mC (.int 3)) (aA (aJ (aA (aJ (aA (mC (.int 0)) (aA (mC (.int 2)) aC))) (aA (aJ (aA (mC (.int 0)) (aA (mC (.int 1)) aC))) aC))) aC))) (aA (aJ (aA (mC (.int 2)) (aA (mC .non) aC))) (aA (aJ (aA (mC (.int 2)) (aA (aJ aC) (aA (aJ aC) aC)))) (aA (aJ (aA (mC (.int 2)) aC)) (aA (aJ (aA (mC (.int 2)) (aA (aJ (aA (aU (aA (mC (.int 0)) (aA (mC (.int 1)) aC))) aC)) aC))) (aA (aJ (aA (mC (.int 2)) (aA (aJ (aA (mC .non) aC)) aC))) aC)))))))))) (aF 1)) (aO (m2 aW (aB 1) (aD F_qp (aA (aB 0) (aA (mC (.int 24)) aC))))))))
def F_qa:List Dv->Hs->Rs Dv:=aS 1 2 (gS)
def rO (Fs:List Dv->Hs->Rs Dv):MS:=(aL (bD (bH (m1 (aV oS) (aB 1))) (aL (bD (dY (mB (m2 bY (m1 (aV gN) (aB 0)) (m1 (aV gN) (aB 1)))) (mB (m2 bY (m1 (aV qU) (aB 0)) (m1 (aV qU) (aB 1))))) (aO (mC (.bl false))) bP) (aL (bD (mB (m2 bY (aD (f1 fR) (aA (aB 0) aC)) (aD (f1 fR) (aA (aB 1) aC)))) (aO (mC (.bl false))) bP) (aO (mL jB (bT (aQ lV (aA (aB 0) (aA (aB 1) aC))) [none,none] (cE 2 (aX (aF 0) (aX (aF 1) cL))) cU (bQ (aD Fs (aA (aB 0) (aA (aB 1) aC))))))))) bP) (aO (dJ (m2 bS (aB 0) (aB 1)) (m2 bS (m1 (aV jT) (aB 0)) (m1 (aV jT) (aB 1))))))
def F_qo:Nat->List Dv->Hs->Rs Dv
 |0=>λ_ _=>.bad
 |n+1=>aS 2 2 (rO (F_qo n))
end L2.Mr.Com
namespace L2.Mr
open PySem PySem.Spec PyProof.Rows L2
section
variable{X:Cx}{G:Cfg}{E:XK}{a b e o:bj}{ma mb me mo:M Dv}{pos p cpos apos:Pos}
def fT:Dv->Dv->Hs->Rs Dv
 | .str x,.str y,h=>lim (x.length+y.length) (.ok (.str (x++y)) h)
 |_,_,_=>.bad
theorem W2:dO G (λx y H Q=>∃i j,x=.str i/\y=.str j/\i.length+j.length<=bq/\Q (.str (i++j)) H) fT:=by
 intro E μ h H x y vx vy Q s rx ry o
 cases x with
 |str i=>
  cases y with
  |str j=>
   dsimp only[fT]at o;unfold lim at o
   split at o
   ·rename_i hl;exact⟨i,j,rx,ry,jL hl,o.val s rfl⟩
   ·exact o.elim
  |_=>exact o.elim
 |_=>exact o.elim
theorem vE (ha:aG X G E a ma) (hb:aG X G E b mb):aG X G E (.BinOp a .Add b pos) (m2 fT ma mb):=mR NT W2 ha hb
def gC:Dv->Dv->Hs->Rs Dv
 | .str z,.int i,h=>match dW z.cps.toList i with
  |some c=>lim z.length (.ok (.str ⟨#[c]⟩) h)
  |none=>.bad
 |_,_,_=>.bad
theorem W3:dO G xO gC:=by
 intro E μ h H x y vx vy Q s rx ry o
 cases x with
 |str z=>
  cases y with
  |int i=>
   dsimp only[gC]at o
   cases q:dW z.cps.toList i with
   |none=>rw[q]at o;exact o.elim
   |some c=>
    rw[q]at o;dsimp only at o;unfold lim at o
    split at o
    ·rename_i hl;exact⟨z,i,c,rx,ry,jL hl,q,o.val s rfl⟩
    ·exact o.elim
  |_=>exact o.elim
 |_=>exact o.elim
theorem zX (ha:aG X G E a ma) (hb:aG X G E b mb) (hs:sU b:=by intro _ _;rfl):aG X G E (.Subscript a b pos) (m2 gC ma mb):=λhK=>PE.imp (xN DO (ha hK) (hb hK) hs) λ_ _ _ t=>oA W3 t
def jY:Dv->Hs->Rs Dv
 | .str z,h=>lim z.length (.ok (.int z.length) h)
 |_,_=>.bad
theorem W4:jM G (λx H Q=>∃z,x=.str z/\z.length<=bq/\Q (.int z.length) H) jY:=by
 intro E μ h H d v Q s r1 o
 cases d with
 |str z=>
  dsimp only[jY]at o;unfold lim at o
  split at o
  ·rename_i hl;exact⟨z,r1,jL hl,o.val s rfl⟩
  ·exact o.elim
 |_=>exact o.elim
theorem IQ {es:List bj}{aQ:M (List Dv)}(hg:Gl X "len") (hm:X.mg "len" = none) (ha:cS X G E (e::es) aQ)
  (he:aq (e::es) X.env=(false,eval e X.env)::aq es X.env:=by rfl) (hpl:(backTo pos (aq es X.env)).any (·.1)=false:=by rfl):aG X G E (.Call (.Name "len" p) (e::es) [] pos) (aD (f1 jY) aQ):=λhK=>
 qA (CallR.imp (NY (X:=X)) λxs H Q ⟨v,h1,z,h2,h3,h4⟩=>⟨v,z.length,h1,by subst h2;exact⟨h3,rfl⟩,h4⟩) (oH W4) hg hm ue ha (by decide) (by decide) he hpl hK
def dD:Dv->Hs->Rs Dv
 | .int i,h=>if i.natAbs.log2<1920 then .ok (.str (ie (toString i))) h else .bad
 |_,_=>.bad
theorem IS:jM G (λx H Q=>∃i,x=.int i/\i.natAbs.log2<1920/\Q (.str (ie (toString i))) H) dD:=by
 intro E μ h H d v Q s r1 o
 cases d with
 |int i=>
  dsimp only[dD]at o
  split at o
  ·rename_i hl;exact⟨i,r1,hl,o.val s rfl⟩
  ·exact o.elim
 |_=>exact o.elim
theorem zY {es:List bj}{aQ:M (List Dv)}(hg:Gl X "str") (hm:X.mg "str" = none) (ha:cS X G E (e::es) aQ)
  (he:aq (e::es) X.env=(false,eval e X.env)::aq es X.env:=by rfl) (hpl:(backTo pos (aq es X.env)).any (·.1)=false:=by rfl):aG X G E (.Call (.Name "str" p) (e::es) [] pos) (aD (f1 dD) aQ):=λhK=>
 yC (CallR.imp (NW (X:=X)) λxs H Q ⟨v,h1,i,h2,h3,h4⟩=>⟨i,by rw[h1,h2],h3,h4⟩) (oH IS) hg hm F9 ha (by decide) (by decide) he hpl hK
theorem zZ {x:Str}{z:Str}{t:Tok}(hg:Gl X x) (hm:X.mg x=some (.str z t)) (hd:(x==("__debug__" : Str))=false:=by decide):aG X G E (.Name x pos) (mC (.str z)):=λ_=>PE.imp (xA (v:=.str z) hg hm ⟨t,rfl⟩ hd) λσ H Q ⟨μ,ρ,h,rs,s,o⟩=>o.val s (show RelD G μ _ H (.str z) (.str z) from rfl)
theorem AA (ha:aG X G E a ma):aG X G E (.FormattedValue a (-1) none pos) (m1 dD ma):=λhK pins s σ H Q I ⟨μ,ρ,h,rs,sm,o⟩=>by refine FormattedValue_plain (aR (ha hK pins s σ H _ I (cR rs sm o λμ1 d h1 v H1 x1 rs1 s1 r1 o1=>(IS E μ1 h1 H1 d v Q s1 r1 o1:∃i,v=.int i/\_/\_))) λu s1 ⟨v,H1,I1,r1,i,hv,hl,q⟩=>?_);subst hv;obtain⟨t,rfl⟩:=r1;exact formatField_int_small hl ⟨.str _,H1,I1.tok _,⟨_,rfl⟩,q⟩
def hZ:List (M Dv)->Str->M Dv
 | [],acc=>λρ h=>lim acc.length (.ok (.str acc) h)
 |m::ms,acc=>λρ h=>(m ρ h).bind λd h1=>match d with
  | .str z=>if acc.length+z.length<=1000000 then hZ ms (acc++z) ρ h1 else .bad
  |_=>.bad
def PJ (X:Cx) (es:List bj) (acc:Str) (t:TE):Prop:=∀(pins:List (ah×Obj)) (s:ag) (σ:St) (H:Hp) (Q:VK),Inv X pins σ H s->t σ H Q->wpAny (model X.prog X.w) X.A (joinParts acc (evalEach es X.env)) (EP X pins σ Q) X.xe s
def vF (X:Cx) (G:Cfg) (E:XK) (es:List bj) (ms:List (M Dv)):Prop:=X.K=G.K->∀acc,PJ X es acc (eQ G E (hZ ms acc))
theorem IT:vF X G E [] []:=λhK acc pins s σ H Q I ⟨μ,ρ,h,rs,sm,o⟩=>by
 unfold hZ lim at o
 split at o
 ·rename_i hl;exact joinParts_nilE (joinParts_nil ⟨.str acc,H,I.tok _,⟨_,rfl⟩,o.val sm rfl⟩ (jL hl))
 ·exact o.elim
theorem oY {es:List bj}{ms:List (M Dv)}(ha:aG X G E a ma) (hs:vF X G E es ms) (he:evalEach (a::es) X.env=eval a X.env::evalEach es X.env:=by rfl):vF X G E (a::es) (ma::ms):=λhK acc pins s σ H Q I ⟨μ,ρ,h,rs,sm,o⟩=>by
 rw[he,joinParts.eq_2];refine aa (aR (ha hK pins s σ H (λv H1=>∃z,v=.str z/\acc.length+z.length<=bq/\eQ G E (hZ ms (acc++z)) σ H1 Q) I (cR rs sm o λμ1 d h1 v H1 x1 rs1 s1 r1 o1=>?_)) λu s1 ⟨v,H1,I1,r1,z,hv,hl,q⟩=>?_)
 ·cases d with
  |str z=>
   dsimp only at o1
   split at o1
   ·rename_i hl;exact⟨z,r1,jL hl,μ1,ρ,h1,rs1,s1,o1⟩
   ·exact o1.elim
  |_=>exact o1.elim
 ·subst hv;obtain⟨t,rfl⟩:=r1;refine aa (show wpAny _ _ (pure (some z)) _ _ _ from ai ?_);have hn:¬ (acc.length+z.length>bq):=by omega
  simp only[hn,if_false];exact hs hK (acc++z) pins s1 σ H1 Q I1 q
theorem IU {b:bj}{es:List bj}{ms:List (M Dv)}(h:vF X G E (a::b::es) ms) (he:evalEach (a::b::es) X.env=eval a X.env::eval b X.env::evalEach es X.env:=by rfl):aG X G E (.JoinedStr (a::b::es) pos) (hZ ms mn):=λhK pins s σ H Q I t=>by have z:=h hK mn pins s σ H Q I t;rw[he]at z;exact JoinedStr_many z
theorem IV {id:String}{name:Str}{r:V->List V->Hp->VK->Prop}{to:TE}{t:TA}(slot:Slot "str" name id) (hty:typeOf (.builtin id)=pure (.type "method_descriptor")) (hm:sV X id r) (ho:PE X o to) (ha:PA X [e] t)
  (hbase:attributeBase o name X.env (eval o X.env)=eval o X.env)
  (hfew:((backTo cpos (aq [e] X.env)).all (λx=>!x.1)&&(backToKw cpos (keywordEach [] X.env)).all (λx=>x.1.isSome)
   && decide ([e].length+([]:List Keyword).length+(if([]:List Keyword).isEmpty then 0 else 1)<30))=true)
  (hline:(apos.endLine==cpos.line)=true) (hs:aq [e] X.env=[(false,eval e X.env)]):
  PE X (.Call (.Attribute o name apos) [e] [] cpos) (λσ H Q=>to σ H λx H1=>(∃z,x=.str z)/\t σ H1 λxs H2=>r x xs H2 Q):=by
 intro pins s σ H Q I h;refine wpAny_Call_method_late hbase hfew hline rfl (aR (ho pins s σ H _ I h) λv s1 ⟨x,H1,I1,r1,⟨z,ex⟩,q1⟩=>?_);subst ex;obtain⟨tk,rfl⟩:=r1;refine⟨"str",id,PySem.F.plainAttrs_str,slot,hty,typeIs_str s1 z tk,(λb eb=>by cases eb), ?_⟩;have hA:=ha cpos pins s1 σ H1 _ I1 q1;rw[hs]at hA ⊢;exact yb (by rfl) (qf (aR hA λus s2 ⟨vs,H2,I2,r2,q2⟩=>hm pins s2 σ H2 (.str z) vs (.str z tk) us Q I2 ⟨tk,rfl⟩ r2 q2))
theorem W5:sV X "str.find" (λx xs H Q=>∃z y,x=.str z/\xs=[.str y]/\Q (.int (xf z y)) H):=by intro pins s σ H x xs v us Q I rx rv ⟨z,y,e1,e2,q⟩;subst e1;subst e2;obtain⟨t,rfl⟩:=rx;obtain⟨u,rfl,ru⟩:=gI rv;obtain⟨t',rfl⟩:=ru;exact PySem.W.KXw.find rfl λt'' k=>⟨.int _,H,I.tok _,⟨_,rfl⟩,q⟩
theorem IW:∀{ys:List Str}{us:List af},Vals (ys.map V.str) us->StrsAre us ys
 | [],_,h=>by cases h;exact .nil
 |y::ys,_,h=>by
  cases h with
  |cons r rs=>obtain⟨t,rfl⟩:=r;exact .cons y t (IW rs)
theorem W6:sV X "str.join" (λx xs H Q=>∃z a ys,x=.str z/\xs=[.ref a]/\H a=some (.lst (ys.map V.str))/\(ys.map λx=>x.length).sum+ys.length*z.length<=16777216/\Q (.str (sj z ys)) H):=by intro pins s σ H x xs v us Q I rx rv ⟨z,a,ys,e1,e2,ha,hl,q⟩;subst e1;subst e2;obtain⟨t,rfl⟩:=rx;obtain⟨u,rfl,ru⟩:=gI rv;cases ru;obtain⟨its,r,pl,hz⟩:=I.list (SqL.of ha);exact join_list pl.isList (by simpa using IW r) hl λt'' k=>⟨.str _,H,I.tok _,⟨_,rfl⟩,q⟩
def mH:Dv->Option Str
 | .str z=>some z
 |_=>none
def W7 (x:Dv):Bool:=match x with
 | .str _=>true
 |_=>false
def iO (x y:Dv) (h:Hs):Rs Dv:=match x,y with
 | .str z,.str w=>.ok (.int (xf z w)) h
 |_,_=>.bad
def lG (x y:Dv) (h:Hs):Rs Dv:=match x,y with
 | .str z,.ref i=>match getL h i with
  |some ds=>match bB mH ds with
   |some ys=>if(ys.map λx=>x.length).sum+ys.length*z.length<=16777216 then .ok (.str (sj z ys)) h else .bad
   |none=>.bad
  |none=>.bad
 |_,_=>.bad
def eK (f:Dv->Dv->Hs->Rs Dv) (mo me:M Dv):M Dv:=λρ h=>(mo ρ h).bind λx h1=>if W7 x=true then(me ρ h1).bind λd h2=>f x d h2 else .bad
theorem IX {μ:Nat->ah}{n:Nat}{H:Hp}:∀{ds:List Dv}{vs:List V}{ys:List Str},RelDL G μ n H ds vs->bB mH ds=some ys->vs=ys.map V.str
 | [],_,ys,h,q=>by rw[RelDL]at h;subst h;cases q;rfl
 |d::ds,_,ys,h,q=>by
  rw[RelDL]at h;obtain⟨v,r,rfl,h1,h2⟩:=h
  cases d with
  |str z=>
   simp only[bB,mH]at q
   cases q2:bB mH ds with
   |none=>rw[q2]at q;cases q
   |some zs=>rw[q2]at q;cases q;rw[RelD]at h1;subst h1;rw[IX h2 q2];rfl
  |_=>simp[bB,mH]at q
theorem AB (ho:aG X G E o mo) (he:aG X G E e me) (hb:attributeBase o "find" X.env (eval o X.env)=eval o X.env:=by rfl) (hs:aq [e] X.env=[(false,eval e X.env)]:=by rfl) (hl:(apos.endLine==cpos.line)=true:=by rfl):aG X G E (.Call (.Attribute o "find" apos) [e] [] cpos) (eK iO mo me):=λhK=>
 PE.imp (IV PySem.F.slot_str_find PySem.F.type_str_find W5 (ho hK) (fK (he hK) gJ hs) hb (by rw[hs];rfl) hl hs) λσ H Q ⟨μ,ρ,h,rs,s,oo⟩=>cR rs s oo λμ1 x h1 vx H1 x1 rs1 s1 r1 o1=>by
  split at o1
  ·rename_i hl
   cases x with
   |str z=>
    rw[RelD]at r1;subst r1;refine⟨⟨z,rfl⟩,cR rs1 s1 o1 λμ2 d h2 vd H2 x2 rs2 s2 r2 o2=>?_⟩
    cases d with
    |str w=>rw[RelD]at r2;subst r2;exact⟨z,w,rfl,rfl,o2.val s2 rfl⟩
    |_=>exact o2.elim
   |_=>cases hl
  ·exact o1.elim
theorem IY (ho:aG X G E o mo) (he:aG X G E e me) (hb:attributeBase o "join" X.env (eval o X.env)=eval o X.env:=by rfl) (hs:aq [e] X.env=[(false,eval e X.env)]:=by rfl) (hl:(apos.endLine==cpos.line)=true:=by rfl):aG X G E (.Call (.Attribute o "join" apos) [e] [] cpos) (eK lG mo me):=λhK=>
 PE.imp (IV PySem.F.slot_str_join PySem.F.type_str_join W6 (ho hK) (fK (he hK) gJ hs) hb (by rw[hs];rfl) hl hs) λσ H Q ⟨μ,ρ,h,rs,s,oo⟩=>cR rs s oo λμ1 x h1 vx H1 x1 rs1 s1 r1 o1=>by
  split at o1
  ·rename_i hl
   cases x with
   |str z=>
    rw[RelD]at r1;subst r1;refine⟨⟨z,rfl⟩,cR rs1 s1 o1 λμ2 d h2 vd H2 x2 rs2 s2 r2 o2=>?_⟩
    cases d with
    |ref i=>
     dsimp only[lG]at o2
     cases g:getL h2 i with
     |none=>rw[g]at o2;exact o2.elim
     |some ds=>
      rw[g]at o2;dsimp only at o2
      cases q:bB mH ds with
      |none=>rw[q]at o2;exact o2.elim
      |some ys=>
       rw[q]at o2;dsimp only at o2
       split at o2
       ·rename_i hl2;obtain⟨vs,e1,r3⟩:=s2.ob i _ (cT g);obtain⟨_,rfl⟩:=r2;rw[IX r3 q]at e1;exact⟨z,_,ys,rfl,rfl,e1,hl2,o2.val s2 rfl⟩
       ·exact o2.elim
    |_=>exact o2.elim
   |_=>cases hl
  ·exact o1.elim
end
end L2.Mr
namespace L2.Mr.K90
open PySem PySem.Spec PyProof.Rows L2 L2.Mr L2.Mr.Com
def tblV:List (Nat×Bool):=[(0,true),(8,true)]
def tbl0:List (Nat×Bool):=[(0,true),(8,false)]
def tbl1:List (Nat×Bool):=[(0,false),(8,false)]
def tbl2:List (Nat×Bool):=[(0,false),(8,false)]
def tbl3:List (Nat×Bool):=[(0,false),(8,false)]
def tbl4:List (Nat×Bool):=[(0,false),(8,false)]
def tbl5:List (Nat×Bool):=[(0,false),(8,false)]
def tbl6:List (Nat×Bool):=[(0,false),(8,false)]
def tbl7:List (Nat×Bool):=[(0,false),(8,false)]
def tbl8:List (Nat×Bool):=[(0,false),(8,true)]
def tbl9:List (Nat×Bool):=[(0,false),(8,false)]
def tbl10:List (Nat×Bool):=[(0,false),(8,false)]
def rP:MS:=(bD (cJ (bH (aD F_qt (aA (aB 0) aC)))) (jR 0 (aA (mC (.str "this is no order")) aC)) bP)
def F_ql:List Dv->Hs->Rs Dv:=aS 1 1 (rP)
def vG:MS:=(aL (eU (aD F_ql (aA (aB 0) aC))) (aL (aK (aB 0) (cE 2 (aX (aF 1) (aX (aF 2) cL)))) (aO (m2 fT (hZ [(m1 dD (aB 1)),(mC (.str ":"))] mn) (eK lG (mC (.str "")) (dQ (bT (cA eF (aB 2)) [none,none] (cE 2 (aX (aF 0) (aX (aF 1) cL))) cU (bQ (hZ [(mC (.str " ")),(m1 dD (aB 0)),(mC (.str "<")),(m1 dD (aB 1))] mn)))))))))
def F_qm:List Dv->Hs->Rs Dv:=aS 1 3 (vG)
def AD:MS:=(aO (mL tX (bT (aQ oP (aA (mC (.int 2)) (aA (aD (f1 jY) (aA (aB 0) aC)) (aA (mC (.int 4)) aC)))) [none,some 0] (aF 0) cU (bQ (aJ (aA (eK iO (mC (.str "0123456789")) (m2 gC (aB 1) (m2 bL (aB 0) (mC (.int 1))))) (aA (eK iO (mC (.str "0123456789")) (m2 gC (aB 1) (m2 bL (aB 0) (mC (.int 3))))) aC)))))))
def F_qc:List Dv->Hs->Rs Dv:=aS 1 1 (AD)
def AE:MS:=(aL (bD (dY (cJ (bH (m1 (aV qV) (aB 0)))) (mB (m2 bY (m2 gM (aD (f1 jY) (aA (aB 0) aC)) (mC (.int 4))) (mC (.int 2))))) (jR 8 (aA (mC (.str "this is no text of an order")) aC)) bP) (aL (aK (aJ (aA (eK iO (mC (.str "0123456789")) (m2 gC (aB 0) (mC (.int 0)))) (aA (aD F_qc (aA (aB 0) aC)) aC))) (aF 1)) (aL (bD (dY (cJ (bH (aD F_qt (aA (aB 1) aC)))) (mB (m2 bY (aD F_qm (aA (aB 1) aC)) (aB 0)))) (jR 8 (aA (mC (.str "this text writes no order")) aC)) bP) (aO (aB 1)))))
def F_qn:List Dv->Hs->Rs Dv:=aS 1 2 (AE)
def jZ:MS:=(aL (aK (aU (aA (m1 (aV (cZ none tbl0)) (aB 1)) (aA (m1 (aV (cZ none tbl1)) (aB 1)) (aA (m1 (aV (cZ none tbl2)) (aB 1)) aC)))) (aF 3)) (aL (aK (m2 bL (aB 3) (aU (aA (m1 (aV (cZ none tbl3)) (aB 1)) (aA (m1 (aV (cZ none tbl4)) (aB 1)) (aA (m1 (aV (cZ none tbl5)) (aB 1)) aC))))) (aF 3)) (aL (aK (m2 bL (aB 3) (aU (aA (m1 (aV (cZ none tbl6)) (aB 1)) (aA (m1 (aV (cZ none tbl7)) (aB 1)) (aA (m1 (aV (cZ none tbl8)) (aB 1)) aC))))) (aF 3)) (aL (aK (m2 bL (aB 3) (aU (aA (m1 (aV (cZ none tbl9)) (aB 1)) (aA (m1 (aV (cZ none tbl10)) (aB 1)) aC)))) (aF 3)) (aL (bD (cJ (bH (m1 (aV (cZ none tblV)) (aB 1)))) (aO (mC .non)) bP) (aO (dQ (bT (aQ eI (aA (mC (.int 11)) aC)) [none,some 3] (aF 0) (bH (m2 aW (aB 1) (aB 0))) (bQ (aB 0))))))))))
def vH:M Dv:=(aD F_qm (aA (aB 0) aC))
def vI (scr:List Int):MS:=(aL (aK (aD (F_qi scr) (aA (aB 0) (aA (aB 1) aC))) (aF 2)) (aL (aK (aD F_qh (aA (aB 2) (aA (mC (.int 6)) aC))) (aF 3)) (aL (aK (eK lG (mC (.str " ")) (m2 bL (aU (aA (m2 fT (aD (f1 dD) (aA (m2 aW (aB 3) (mC (.int 0))) aC)) (mC (.str ":"))) aC)) (dQ (bT (cA eF (m2 aW (aB 3) (mC (.int 1)))) [none,none] (cE 2 (aX (aF 0) (aX (aF 1) cL))) cU (bQ (m2 fT (m2 fT (aD (f1 dD) (aA (aB 0) aC)) (mC (.str "<"))) (aD (f1 dD) (aA (aB 1) aC)))))))) (aF 4)) (aL (bD (dY (cJ (bH (aD (F_qo 6) (aA (aD F_qm (aA (aB 3) aC)) (aA (aB 4) aC))))) (cJ (bH (aD (F_qo 6) (aA (aD F_qn (aA (aB 4) aC)) (aA (aB 3) aC)))))) (aO (mC (.bl false))) bP) (aL (aK (aD F_qa (aA (aB 2) aC)) (aF 5)) (bD (mB (m2 bY (lX [5] 4 11 jZ vH) (aU (aA (mC (.int 0)) aC)))) (aO (mC (.bl false))) bP))))))
def IZ (scr:List Int):MS:=(gE (aQ eI (aA (aD kT (aA (mC (.int 1)) (aA (aD oI (aA (aD (f1 (gY scr)) (aA (aB 0) aC)) (aA (mC (.int 10)) aC))) aC))) aC)) (aF 1) (vI scr))
def AF:MS:=(aO (m2 bS (aD F_qn (aA (mC (.str "1:")) aC)) (aJ (aA (mC (.int 1)) (aA (aJ aC) aC)))))
def vJ (scr:List Int):MS:=(aL (IZ scr) AF)
def F_qx (scr:List Int):List Dv->Hs->Rs Dv:=aS 1 6 (vJ scr)
def dI (i:Nat):gy:=ae.main.body.getD i (.Pass ⟨0,0,0,0⟩)
abbrev AG:gy:=dI 14
abbrev AH:gy:=dI 15
abbrev vK:gy:=dI 16
abbrev AI:gy:=dI 19
abbrev vL:gy:=dI 20
abbrev AJ:gy:=dI 21
abbrev vM:gy:=dI 22
abbrev vN:gy:=dI 23
abbrev vO:gy:=dI 24
abbrev AK:gy:=dI 25
abbrev AL:gy:=dI 26
abbrev vP:gy:=dI 29
abbrev vQ:gy:=dI 30
abbrev AM:gy:=dI 31
abbrev AN:gy:=dI 33
abbrev AO:gy:=dI 34
abbrev AQ:gy:=dI 35
abbrev AR:gy:=dI 36
abbrev vR:gy:=dI 37
abbrev rQ:gy:=dI 38
abbrev AS:gy:=dI 39
abbrev vS:gy:=dI 40
abbrev nQ:gy:=dI 41
abbrev rR:gy:=dI 42
structure Ad where
 f_qv:ah
 fd_qv:bp
 f_qk:ah
 fd_qk:bp
 f_qs:ah
 fd_qs:bp
 f_qu:ah
 fd_qu:bp
 f_qj:ah
 fd_qj:bp
 f_qw:ah
 fd_qw:bp
 f_qq:ah
 fd_qq:bp
 f_qr:ah
 fd_qr:bp
 f_qg:ah
 fd_qg:bp
 f_qt:ah
 fd_qt:bp
 f_ql:ah
 fd_ql:bp
 f_qm:ah
 fd_qm:bp
 f_qc:ah
 fd_qc:bp
 f_qn:ah
 fd_qn:bp
 f_qd:ah
 fd_qd:bp
 f_qi:ah
 fd_qi:bp
 f_qp:ah
 fd_qp:bp
 f_qb:ah
 fd_qb:bp
 f_qf:ah
 fd_qf:bp
 f_qh:ah
 fd_qh:bp
 f_qa:ah
 fd_qa:bp
 f_qo:ah
 fd_qo:bp
 f_qe:ah
 fd_qe:bp
 f_qx:ah
 fd_qx:bp
 c_NoOrder:ah
 c_NoNumber:ah
 c_NoPairs:ah
 c_Round:ah
 c_NoThing:ah
 c_NoRow:ah
 c_TooMany:ah
 c_TooFew:ah
 c_NoText:ah
 c_NoLine:ah
 c_NoDeed:ah
 t_MOST_THINGS:Tok
 t_FIGURES:Tok
 NE:ah
 cc:ah
 P:ah
structure Tx (K:ao) (mg:Str->Option af) (G:Cfg) (A:Ad):Prop where
 hK:K=G.K
 F_qv:Fun K "is_whole" "is_whole" AG A.f_qv A.fd_qv
 B_qv:Binds K A.fd_qv ["thing"] []
 m_qv:mg "is_whole" = some (.ref A.f_qv)
 F_qk:Fun K "is_between" "is_between" AH A.f_qk A.fd_qk
 B_qk:Binds K A.fd_qk ["thing","low","high"] []
 m_qk:mg "is_between" = some (.ref A.f_qk)
 F_qs:Fun K "is_rising" "is_rising" vK A.f_qs A.fd_qs
 B_qs:Binds K A.fd_qs ["parts"] []
 m_qs:mg "is_rising" = some (.ref A.f_qs)
 F_qu:Fun K "is_thing" "is_thing" AI A.f_qu A.fd_qu
 B_qu:Binds K A.fd_qu ["many","thing"] []
 m_qu:mg "is_thing" = some (.ref A.f_qu)
 F_qj:Fun K "are_things" "are_things" vL A.f_qj A.fd_qj
 B_qj:Binds K A.fd_qj ["many","thing"] []
 m_qj:mg "are_things" = some (.ref A.f_qj)
 F_qw:Fun K "is_pair" "is_pair" AJ A.f_qw A.fd_qw
 B_qw:Binds K A.fd_qw ["many","thing"] []
 m_qw:mg "is_pair" = some (.ref A.f_qw)
 F_qq:Fun K "are_pairs" "are_pairs" vM A.f_qq A.fd_qq
 B_qq:Binds K A.fd_qq ["many","things"] []
 m_qq:mg "are_pairs" = some (.ref A.f_qq)
 F_qr:Fun K "has_alike" "has_alike" vN A.f_qr A.fd_qr
 B_qr:Binds K A.fd_qr ["pairs"] []
 m_qr:mg "has_alike" = some (.ref A.f_qr)
 F_qg:Fun K "is_complete" "is_complete" vO A.f_qg A.fd_qg
 B_qg:Binds K A.fd_qg ["pairs"] []
 m_qg:mg "is_complete" = some (.ref A.f_qg)
 F_qt:Fun K "is_order" "is_order" AK A.f_qt A.fd_qt
 B_qt:Binds K A.fd_qt ["thing"] []
 m_qt:mg "is_order" = some (.ref A.f_qt)
 F_ql:Fun K "need_order" "need_order" AL A.f_ql A.fd_ql
 B_ql:Binds K A.fd_ql ["order"] []
 m_ql:mg "need_order" = some (.ref A.f_ql)
 F_qm:Fun K "order_text" "order_text" vP A.f_qm A.fd_qm
 B_qm:Binds K A.fd_qm ["order"] []
 m_qm:mg "order_text" = some (.ref A.f_qm)
 F_qc:Fun K "written_pairs" "written_pairs" vQ A.f_qc A.fd_qc
 B_qc:Binds K A.fd_qc ["text"] []
 m_qc:mg "written_pairs" = some (.ref A.f_qc)
 F_qn:Fun K "read_order" "read_order" AM A.f_qn A.fd_qn
 B_qn:Binds K A.fd_qn ["text"] []
 m_qn:mg "read_order" = some (.ref A.f_qn)
 F_qd:Fun K "_law_cell_at" "_law_cell_at" AN A.f_qd A.fd_qd
 B_qd:Binds K A.fd_qd ["_law_script","_law_k"] []
 m_qd:mg "_law_cell_at" = some (.ref A.f_qd)
 F_qi:Fun K "_law_state" "_law_state" AO A.f_qi A.fd_qi
 B_qi:Binds K A.fd_qi ["_law_script","_law_k"] []
 m_qi:mg "_law_state" = some (.ref A.f_qi)
 F_qp:Fun K "_law_take" "_law_take" AQ A.f_qp A.fd_qp
 B_qp:Binds K A.fd_qp ["_law_state_here","_law_many"] []
 m_qp:mg "_law_take" = some (.ref A.f_qp)
 F_qb:Fun K "_law_mixed_row" "_law_mixed_row" AR A.f_qb A.fd_qb
 B_qb:Binds K A.fd_qb ["_law_state_here","_law_things"] []
 m_qb:mg "_law_mixed_row" = some (.ref A.f_qb)
 F_qf:Fun K "_law_closed" "_law_closed" vR A.f_qf A.fd_qf
 B_qf:Binds K A.fd_qf ["_law_pairs"] []
 m_qf:mg "_law_closed" = some (.ref A.f_qf)
 F_qh:Fun K "_law_order" "_law_order" rQ A.f_qh A.fd_qh
 B_qh:Binds K A.fd_qh ["_law_state_here","_law_most"] []
 m_qh:mg "_law_order" = some (.ref A.f_qh)
 F_qa:Fun K "_law_bad_order" "_law_bad_order" AS A.f_qa A.fd_qa
 B_qa:Binds K A.fd_qa ["_law_state_here"] []
 m_qa:mg "_law_bad_order" = some (.ref A.f_qa)
 F_qo:Fun K "_law_same" "_law_same" vS A.f_qo A.fd_qo
 B_qo:Binds K A.fd_qo ["_law_found","_law_due"] []
 m_qo:mg "_law_same" = some (.ref A.f_qo)
 F_qe:Fun K "_law_refused" "_law_refused" nQ A.f_qe A.fd_qe
 B_qe:Binds K A.fd_qe ["_law_call"] []
 m_qe:mg "_law_refused" = some (.ref A.f_qe)
 F_qx:Fun K "law" "law" rR A.f_qx A.fd_qx
 B_qx:Binds K A.fd_qx ["_law_script"] []
 m_qx:mg "law" = some (.ref A.f_qx)
 z_ValueError:mg "ValueError" = none
 z_all:mg "all" = none
 z_any:mg "any" = none
 z_bool:mg "bool" = none
 z_int:mg "int" = none
 z_isinstance:mg "isinstance" = none
 z_len:mg "len" = none
 z_list:mg "list" = none
 z_max:mg "max" = none
 z_min:mg "min" = none
 z_range:mg "range" = none
 z_set:mg "set" = none
 z_sorted:mg "sorted" = none
 z_str:mg "str" = none
 z_tuple:mg "tuple" = none
 z_zip:mg "zip" = none
 c_MOST_THINGS:mg "MOST_THINGS" = some (.int 6 A.t_MOST_THINGS)
 c_FIGURES:mg "FIGURES" = some (.str "0123456789" A.t_FIGURES)
 n_NoOrder:mg "NoOrder" = some (.ref A.c_NoOrder)
 n_NoNumber:mg "NoNumber" = some (.ref A.c_NoNumber)
 n_NoPairs:mg "NoPairs" = some (.ref A.c_NoPairs)
 n_Round:mg "Round" = some (.ref A.c_Round)
 n_NoThing:mg "NoThing" = some (.ref A.c_NoThing)
 n_NoRow:mg "NoRow" = some (.ref A.c_NoRow)
 n_TooMany:mg "TooMany" = some (.ref A.c_TooMany)
 n_TooFew:mg "TooFew" = some (.ref A.c_TooFew)
 n_NoText:mg "NoText" = some (.ref A.c_NoText)
 n_NoLine:mg "NoLine" = some (.ref A.c_NoLine)
 n_NoDeed:mg "NoDeed" = some (.ref A.c_NoDeed)
 ns_NoOrder:qv K cw "NoOrder" = some (some (.ref A.c_NoOrder))
 x_NoOrder:qg K A.c_NoOrder tW "ValueError.__new__" = true
 ce_NoOrder:A.c_NoOrder=G.cl 0
 ns_NoText:qv K cw "NoText" = some (some (.ref A.c_NoText))
 x_NoText:qg K A.c_NoText tW "ValueError.__new__" = true
 ce_NoText:A.c_NoText=G.cl 8
 ktV:∀c b,tblV.lookup c=some b->cq G.K (.ref (G.cl c)) (.type "ValueError")=some b/\ExK G.K (G.cl c)
 kt0:∀c b,tbl0.lookup c=some b->cq G.K (.ref (G.cl c)) (.ref A.c_NoOrder)=some b/\ExK G.K (G.cl c)
 kt1:∀c b,tbl1.lookup c=some b->cq G.K (.ref (G.cl c)) (.ref A.c_NoNumber)=some b/\ExK G.K (G.cl c)
 kt2:∀c b,tbl2.lookup c=some b->cq G.K (.ref (G.cl c)) (.ref A.c_NoPairs)=some b/\ExK G.K (G.cl c)
 kt3:∀c b,tbl3.lookup c=some b->cq G.K (.ref (G.cl c)) (.ref A.c_Round)=some b/\ExK G.K (G.cl c)
 kt4:∀c b,tbl4.lookup c=some b->cq G.K (.ref (G.cl c)) (.ref A.c_NoThing)=some b/\ExK G.K (G.cl c)
 kt5:∀c b,tbl5.lookup c=some b->cq G.K (.ref (G.cl c)) (.ref A.c_NoRow)=some b/\ExK G.K (G.cl c)
 kt6:∀c b,tbl6.lookup c=some b->cq G.K (.ref (G.cl c)) (.ref A.c_TooMany)=some b/\ExK G.K (G.cl c)
 kt7:∀c b,tbl7.lookup c=some b->cq G.K (.ref (G.cl c)) (.ref A.c_TooFew)=some b/\ExK G.K (G.cl c)
 kt8:∀c b,tbl8.lookup c=some b->cq G.K (.ref (G.cl c)) (.ref A.c_NoText)=some b/\ExK G.K (G.cl c)
 kt9:∀c b,tbl9.lookup c=some b->cq G.K (.ref (G.cl c)) (.ref A.c_NoLine)=some b/\ExK G.K (G.cl c)
 kt10:∀c b,tbl10.lookup c=some b->cq G.K (.ref (G.cl c)) (.ref A.c_NoDeed)=some b/\ExK G.K (G.cl c)
 n_NearError:mg "NearError" = some (.ref A.NE)
 e1:jf K (.ref A.NE) (.type "BaseException")=some true
 e2:jf K (.type "type") (.type "tuple")=some false
 e3:tw K (.ref A.NE) (.ref A.NE)=some true
 e4:∀c,c<11->jf K (.ref (G.cl c)) (.ref A.NE)=some true
 lq:(("law" : Str) ++ ".<locals>.") ++ "<lambda>" = G.lq
 tab:G.tab=some A.P
 code:A.fd_qx.code=.ref A.cc
theorem I0:(["one","other"]:List Str).Nodup:=by decide +kernel
theorem W8:(["part","many"]:List Str).Nodup:=by decide +kernel
theorem W9:(["thing","many"]:List Str).Nodup:=by decide +kernel
theorem vT:(["a","b"]:List Str).Nodup:=by decide +kernel
theorem vU:(["a","b","middle","c","pairs"]:List Str).Nodup:=by decide +kernel
theorem JA:(["thing","many","pairs"]:List Str).Nodup:=by decide +kernel
theorem JB:(["order","many","pairs"]:List Str).Nodup:=by decide +kernel
theorem XA:(["at","text"]:List Str).Nodup:=by decide +kernel
theorem XB:(["text","order"]:List Str).Nodup:=by decide +kernel
theorem XC:(["_law_script","_law_k","_law_cell"]:List Str).Nodup:=by decide +kernel
theorem AU:(["_law_state_here","_law_many","_law_found","_law_stirred"]:List Str).Nodup:=by decide +kernel
theorem JC:(["_law_state_here","_law_things","_law_left","_law_found"]:List Str).Nodup:=by decide +kernel
theorem oZ:(["_law_pairs","_law_found","_law_later","_law_a","_law_b"]:List Str).Nodup:=by decide +kernel
theorem JD:(["_law_c","_law_d","_law_a","_law_b"]:List Str).Nodup:=by decide +kernel
theorem iA:(["_law_state_here","_law_most","_law_many","_law_row","_law_way","_law_pairs","_law_marks","_law_i","_law_j","_law_near"]:List Str).Nodup:=by decide +kernel
theorem XD:(["_law_thing","_law_state_here"]:List Str).Nodup:=by decide +kernel
theorem XE:(["_law_j","_law_i","_law_marks"]:List Str).Nodup:=by decide +kernel
theorem AV:(["_law_state_here","_law_some"]:List Str).Nodup:=by decide +kernel
theorem JE:(["_law_one","_law_other"]:List Str).Nodup:=by decide +kernel
theorem vV:(["_law_call","_law_error","e","_law_marks"]:List Str).Nodup:=by decide +kernel
theorem XF:(["_law_k","_law_marks"]:List Str).Nodup:=by decide +kernel
theorem rS:(["_law_script","_law_k","_law_state_here","_law_order_here","_law_text","_law_bad"]:List Str).Nodup:=by decide +kernel
theorem JF:(["_law_a","_law_b"]:List Str).Nodup:=by decide +kernel
section
variable{P:bf}{w:cg}{K:ao}{mg:Str->Option af}{base:ck}{G:Cfg}{A:Ad}
theorem XG:FnScope ["thing"] ["thing"] (aT AG):=dG
theorem XH (T:Tx K mg G A):FnOk P w K mg base (bE P w base) 1 A.f_qv A.fd_qv ["thing"] (cF G F_qv):=dR (k:=0) T.F_qv XG T.hK λ_ _ _ _ _ _ _ g=>(bJ (bZ (oF (T3 rfl T.z_isinstance rfl T.z_int (aE 0)) (oE (EM (yZ rfl T.z_isinstance rfl T.z_bool (aE 0)))))))
theorem XI:FnScope ["thing","low","high"] ["thing","low","high"] (aT AH):=dG
theorem JG (T:Tx K mg G A):FnOk P w K mg base (bE P w base) 2 A.f_qk A.fd_qk ["thing","low","high"] (cF G F_qk):=dR (k:=1) T.F_qk XI T.hK λ_ _ _ _ _ _ _ g=>(bJ (bZ (oF (cC g (XH T) T.m_qv T.F_qv.kp T.B_qv (aI (aE 0) aN)) (oE (TM (aE 1) (aE 0) (aE 2))))))
theorem XJ:FnScope ["parts"] ["parts"] (aT vK):=dG
theorem XM (T:Tx K mg G A):FnOk P w K mg base (bE P w base) 1 A.f_qs A.fd_qs ["parts"] (cF G F_qs):=dR (k:=0) T.F_qs XJ T.hK λ_ _ _ _ _ _ _ g=>(bJ (bZ (qK g.calm rfl T.z_all (iJ g.calm (hY (N:=["one","other"]) (cap:=[none,none]) (os:=(aT vK)) (oN:=["parts"])) (FP rfl T.z_zip (aI (aE 0) (aI (WR (aE 0) (SY aY) SX) aN))) (λ_ _ _=>(iZ (eX g).calm (dP (cH (i:=0) I0) (dP (cH (i:=1) I0) iY)))) (λ_ _ _=>jQ) (λ_ _ _=>(IE (eX g) (aE 0) (aE 1)))))))
theorem XN:FnScope ["many","thing"] ["many","thing"] (aT AI):=dG
theorem XO (T:Tx K mg G A):FnOk P w K mg base (bE P w base) 3 A.f_qu A.fd_qu ["many","thing"] (cF G F_qu):=dR (k:=2) T.F_qu XN T.hK λ_ _ _ _ _ _ _ g=>(bJ (bZ (cC g (JG T) T.m_qk T.F_qk.kp T.B_qk (aI (aE 1) (aI aY (aI (yY (aE 0) aY) aN))))))
theorem XQ:FnScope ["many","thing"] ["many","thing"] (aT vL):=dG
theorem XR (T:Tx K mg G A):FnOk P w K mg base (bE P w base) 4 A.f_qj A.fd_qj ["many","thing"] (cF G F_qj):=dR (k:=3) T.F_qj XQ T.hK λ_ _ _ _ _ _ _ g=>(bJ (bZ (oF (qW rfl T.z_isinstance rfl T.z_tuple (aE 1)) (oE (qK g.calm rfl T.z_all (iJ g.calm (hY (N:=["part","many"]) (cap:=[none,some 0]) (os:=(aT vL)) (oN:=["many","thing"])) (mX (aE 1)) (λ_ _ _=>(cH (i:=0) W8)) (λ_ _ _=>jQ) (λ_ _ _=>(cC (eX g) (XO T) T.m_qu T.F_qu.kp T.B_qu (aI (aE 1) (aI (aE 0) aN))))))))))
theorem XS:FnScope ["many","thing"] ["many","thing"] (aT AJ):=dG
theorem XT (T:Tx K mg G A):FnOk P w K mg base (bE P w base) 5 A.f_qw A.fd_qw ["many","thing"] (cF G F_qw):=dR (k:=4) T.F_qw XS T.hK λ_ _ _ _ _ _ _ g=>(bJ (bZ (oF (cC g (XR T) T.m_qj T.F_qj.kp T.B_qj (aI (aE 0) (aI (aE 1) aN))) (oE (mD g (qX rfl T.z_len (aI (aE 1) aN)) aY)))))
theorem XU:FnScope ["many","things"] ["many","things"] (aT vM):=dG
theorem XW (T:Tx K mg G A):FnOk P w K mg base (bE P w base) 6 A.f_qq A.fd_qq ["many","things"] (cF G F_qq):=dR (k:=5) T.F_qq XU T.hK λ_ _ _ _ _ _ _ g=>(bJ (bZ (qK g.calm rfl T.z_all (iJ g.calm (hY (N:=["thing","many"]) (cap:=[none,some 0]) (os:=(aT vM)) (oN:=["many","things"])) (mX (aE 1)) (λ_ _ _=>(cH (i:=0) W9)) (λ_ _ _=>jQ) (λ_ _ _=>(cC (eX g) (XT T) T.m_qw T.F_qw.kp T.B_qw (aI (aE 1) (aI (aE 0) aN))))))))
theorem XX:FnScope ["pairs"] ["pairs"] (aT vN):=dG
theorem XY (T:Tx K mg G A):FnOk P w K mg base (bE P w base) 1 A.f_qr A.fd_qr ["pairs"] (cF G F_qr):=dR (k:=0) T.F_qr XX T.hK λ_ _ _ _ _ _ _ g=>(bJ (bZ (RR g.calm rfl T.z_any (iJ g.calm (hY (N:=["a","b"]) (cap:=[none,none]) (os:=(aT vN)) (oN:=["pairs"])) (mX (aE 0)) (λ_ _ _=>(iZ (eX g).calm (dP (cH (i:=0) vT) (dP (cH (i:=1) vT) iY)))) (λ_ _ _=>jQ) (λ_ _ _=>(mD (eX g) (aE 0) (aE 1)))))))
theorem XZ:FnScope ["pairs"] ["pairs"] (aT vO):=dG
theorem X0 (T:Tx K mg G A):FnOk P w K mg base (bE P w base) 1 A.f_qg A.fd_qg ["pairs"] (cF G F_qg):=dR (k:=0) T.F_qg XZ T.hK λ_ _ _ _ _ _ _ g=>(bJ (bZ (qK g.calm rfl T.z_all (QW g.calm (hY (N:=["a","b","middle","c","pairs"]) (cap:=[none,none,none,none,some 0]) (os:=(aT vO)) (oN:=["pairs"])) (mX (aE 0)) (λ_ _ _=>(iZ (eX g).calm (dP (cH (i:=0) vU) (dP (cH (i:=1) vU) iY)))) (λ_ _ _=>jQ) (λ_ _ _=>(mX (aE 4))) (λ_ _ _=>(iZ (eX g).calm (dP (cH (i:=2) vU) (dP (cH (i:=3) vU) iY)))) (λ_ _ _=>(tT (uH (eX g) (aE 1) (aE 2)))) (λ_ _ _=>(UN (eX g) (lQ (aI (aE 0) (aI (aE 3) aN))) (aE 4)))))))
theorem X1:FnScope ["thing","many","pairs"] ["thing"] (aT AK):=dG
theorem JH (T:Tx K mg G A):FnOk P w K mg base (bE P w base) 7 A.f_qt A.fd_qt ["thing"] (cF G F_qt):=dR (k:=6) T.F_qt X1 T.hK λ_ _ _ _ _ _ _ g=>(bC (eV (SndW.t (mT (iV (fX (qW rfl T.z_isinstance rfl T.z_tuple (aE 0)))) (mS (mE g (qX rfl T.z_len (aI (aE 0) aN)) aY)))) (bJ (bZ iU)) eS) (bC (E1 (aE 0) (iZ g.calm (dP (cH (i:=1) JA) (dP (cH (i:=2) JA) iY)))) (bC (eV (SndW.t (mT (iV (fX (cC g (JG T) T.m_qk T.F_qk.kp T.B_qk (aI (aE 1) (aI aY (aI (S1 rfl T.c_MOST_THINGS) aN)))))) (mS (iV (fX (qW rfl T.z_isinstance rfl T.z_tuple (aE 2))))))) (bJ (bZ iU)) eS) (bC (eV (SndW.t (mT (iV (fX (cC g (XW T) T.m_qq T.F_qq.kp T.B_qq (aI (aE 1) (aI (aE 2) aN))))) (mS (iV (fX (cC g (XM T) T.m_qs T.F_qs.kp T.B_qs (aI (aE 2) aN))))))) (bJ (bZ iU)) eS) (bJ (bZ (oF (EM (cC g (XY T) T.m_qr T.F_qr.kp T.B_qr (aI (aE 2) aN))) (oE (cC g (X0 T) T.m_qg T.F_qg.kp T.B_qg (aI (aE 2) aN))))))))))
theorem X2:FnScope ["order"] ["order"] (aT AL):=dG
theorem X3 (T:Tx K mg G A):FnOk P w K mg base (bE P w base) 8 A.f_ql A.fd_ql ["order"] (cF G F_ql):=dR (k:=7) T.F_ql X2 T.hK λ_ _ _ _ _ _ _ g=>(bJ (eV (iV (fX (cC g (JH T) T.m_qt T.F_qt.kp T.B_qt (aI (aE 0) aN)))) (bJ (yN g rfl T.n_NoOrder T.ns_NoOrder T.x_NoOrder T.ce_NoOrder (aI iH aN))) eS))
theorem X4:FnScope ["order","many","pairs"] ["order"] (aT vP):=dG
theorem AW (T:Tx K mg G A):FnOk P w K mg base (bE P w base) 9 A.f_qm A.fd_qm ["order"] (cF G F_qm):=dR (k:=8) T.F_qm X4 T.hK λ_ _ _ _ _ _ _ g=>(bC (tQ (cC g (X3 T) T.m_ql T.F_ql.kp T.B_ql (aI (aE 0) aN))) (bC (E1 (aE 0) (iZ g.calm (dP (cH (i:=1) JB) (dP (cH (i:=2) JB) iY)))) (bJ (bZ (vE (IU (oY (AA (aE 1)) (oY iH IT))) (IY iH (qG (iJ g.calm (hY (N:=["a","b"]) (cap:=[none,none]) (os:=(aT vP)) (oN:=["order","many","pairs"])) (mX (aE 2)) (λ_ _ _=>(iZ (eX g).calm (dP (cH (i:=0) vT) (dP (cH (i:=1) vT) iY)))) (λ_ _ _=>jQ) (λ_ _ _=>(IU (oY iH (oY (AA (aE 0)) (oY iH (oY (AA (aE 1)) IT))))))))))))))
theorem X5:FnScope ["text"] ["text"] (aT vQ):=dG
theorem X6 (T:Tx K mg G A):FnOk P w K mg base (bE P w base) 1 A.f_qc A.fd_qc ["text"] (cF G F_qc):=dR (k:=0) T.F_qc X5 T.hK λ_ _ _ _ _ _ _ g=>(bJ (bZ (RS rfl T.z_tuple (iJ g.calm (hY (N:=["at","text"]) (cap:=[none,some 0]) (os:=(aT vQ)) (oN:=["text"])) (S6 rfl T.z_range (aI aY (aI (IQ rfl T.z_len (aI (aE 0) aN)) (aI aY aN)))) (λ_ _ _=>(cH (i:=0) XA)) (λ_ _ _=>jQ) (λ_ _ _=>(lQ (aI (AB (zZ rfl T.c_FIGURES) (zX (aE 1) (gO (aE 0) aY))) (aI (AB (zZ rfl T.c_FIGURES) (zX (aE 1) (gO (aE 0) aY))) aN))))))))
theorem X7:FnScope ["text","order"] ["text"] (aT AM):=dG
theorem JI (T:Tx K mg G A):FnOk P w K mg base (bE P w base) 10 A.f_qn A.fd_qn ["text"] (cF G F_qn):=dR (k:=9) T.F_qn X7 T.hK λ_ _ _ _ _ _ _ g=>(bC (eV (SndW.t (mT (iV (fX (T4 rfl T.z_isinstance rfl T.z_str (aE 0)))) (mS (mE g (nF (IQ rfl T.z_len (aI (aE 0) aN)) aY) aY)))) (bJ (yN g rfl T.n_NoText T.ns_NoText T.x_NoText T.ce_NoText (aI iH aN))) eS) (bC (cP (i:=1) XB (lQ (aI (AB (zZ rfl T.c_FIGURES) (zX (aE 0) aY)) (aI (cC g (X6 T) T.m_qc T.F_qc.kp T.B_qc (aI (aE 0) aN)) aN)))) (bC (eV (SndW.t (mT (iV (fX (cC g (JH T) T.m_qt T.F_qt.kp T.B_qt (aI (aE 1) aN)))) (mS (mE g (cC g (AW T) T.m_qm T.F_qm.kp T.B_qm (aI (aE 1) aN)) (aE 0))))) (bJ (yN g rfl T.n_NoText T.ns_NoText T.x_NoText T.ce_NoText (aI iH aN))) eS) (bJ (bZ (aE 1))))))
theorem X8:FnScope ["_law_script","_law_k"] ["_law_script","_law_k"] (aT AN):=dG
theorem X9 (T:Tx K mg G A):FnOk P w K mg base (bE P w base) 1 A.f_qd A.fd_qd ["_law_script","_law_k"] (cF G (F_qd G.scr)):=dR (k:=0) (N:=["_law_script","_law_k"]) (mb:=(vC G.scr)) T.F_qd X8 T.hK λ_ _ _ _ _ _ _ g=>(bC (eV (IF g (aE 1) (EW rfl T.z_len (aI (aE 0) aN))) (bJ (bZ (QF (aE 0) (aE 1)))) eS) (bJ (bZ aY)))
theorem YA:FnScope ["_law_script","_law_k","_law_cell"] ["_law_script","_law_k"] (aT AO):=dG
theorem YB (T:Tx K mg G A):FnOk P w K mg base (bE P w base) 2 A.f_qi A.fd_qi ["_law_script","_law_k"] (cF G (F_qi G.scr)):=dR (k:=1) (N:=["_law_script","_law_k","_law_cell"]) (mb:=(vD G.scr)) T.F_qi YA T.hK λ_ _ _ _ _ _ _ g=>(bC (cP (i:=2) XC (cC g (X9 T) T.m_qd T.F_qd.kp T.B_qd (aI (aE 0) (aI (aE 1) aN)))) (bC (eV (TL (aE 2) (F8 aY aY)) (bJ (bZ (gL (aI (yY (aE 2) (F8 aY aY)) (aI iU aN))))) eS) (bJ (bZ (gL (aI (nF (aE 2) aY) (aI iU aN)))))))
theorem YC:FnScope ["_law_state_here","_law_many","_law_found","_law_stirred"] ["_law_state_here","_law_many"] (aT AQ):=dG
theorem mI (T:Tx K mg G A):FnOk P w K mg base (bE P w base) 1 A.f_qp A.fd_qp ["_law_state_here","_law_many"] (cF G F_qp):=dR (k:=0) T.F_qp YC T.hK λ_ _ _ _ _ _ _ g=>(bC (eV (fX (dZ (aE 0) aY)) (bC (cP (i:=2) AU (nF (dZ (aE 0) aY) (aE 1))) (bC (FN (aE 0) aY (GC (dZ (aE 0) aY) (aE 1))) (bJ (bZ (aE 2))))) eS) (bC (FN (aE 0) aY (nF (gO (qT (dZ (aE 0) aY) aY) aY) aY)) (bC (cP (i:=3) AU (nF (gO (gO (qT (dZ (aE 0) aY) (dZ (aE 0) aY)) (qT aY (dZ (aE 0) aY))) aY) aY)) (bC (cP (i:=3) AU (nF (gO (qT (aE 3) (aE 3)) (qT aY (aE 3))) aY)) (bJ (bZ (nF (GC (aE 3) aY) (aE 1))))))))
theorem YD:FnScope ["_law_state_here","_law_things","_law_left","_law_found"] ["_law_state_here","_law_things"] (aT AR):=dG
theorem YE (T:Tx K mg G A):FnOk P w K mg base (bE P w base) 2 A.f_qb A.fd_qb ["_law_state_here","_law_things"] (cF G F_qb):=dR (k:=1) T.F_qb YD T.hK λ_ _ _ _ _ _ _ g=>(bC (cP (i:=2) JC (GB rfl T.z_list (aI (aE 1) aN))) (bC (cP (i:=3) JC (gL aN)) (bC (F2 40 g.own (mE g (aE 2) (gL aN)) (bJ (tQ (FL (aE 3) (SU (aE 2) (cC g (mI T) T.m_qp T.F_qp.kp T.B_qp (aI (aE 0) (aI (qX rfl T.z_len (aI (aE 2) aN)) aN)))))))) (bJ (bZ (aE 3))))))
theorem YF:FnScope ["_law_pairs","_law_found","_law_later","_law_a","_law_b"] ["_law_pairs"] (aT vR):=dG
theorem YG (T:Tx K mg G A):FnOk P w K mg base (bE P w base) 1 A.f_qf A.fd_qf ["_law_pairs"] (cF G F_qf):=dR (k:=0) T.F_qf YF T.hK λ_ _ _ _ _ _ _ g=>(bC (cP (i:=1) oZ (IH g rfl T.z_sorted rfl T.z_set (aI (aE 0) aN))) (bJ (F2 40 g.own (fX iU) (bC (cP (i:=2) oZ (GB rfl T.z_list (aI (aE 1) aN))) (bC (qE g.own g.calm (yG (aE 1)) (iZ g.calm (dP (cH (i:=3) oZ) (dP (cH (i:=4) oZ) iY))) (bJ (tQ (RU (aE 2) (iJ g.calm (hY (N:=["_law_c","_law_d","_law_a","_law_b"]) (cap:=[none,none,some 3,some 4]) (os:=(aT vR)) (oN:=["_law_pairs","_law_found","_law_later","_law_a","_law_b"])) (yG (aE 1)) (λ_ _ _=>(iZ (eX g).calm (dP (cH (i:=0) JD) (dP (cH (i:=1) JD) iY)))) (λ_ _ _=>(tT (uH (eX g) (aE 3) (aE 0)))) (λ_ _ _=>(lQ (aI (aE 2) (aI (aE 1) aN))))))))) (bC (cP (i:=2) oZ (IH g rfl T.z_sorted rfl T.z_set (aI (aE 2) aN))) (bC (eV (uH g (aE 2) (aE 1)) (bJ (bZ (aE 1))) eS) (bJ (cP (i:=1) oZ (aE 2))))))))))
theorem YH:FnScope ["_law_state_here","_law_most","_law_many","_law_row","_law_way","_law_pairs","_law_marks","_law_i","_law_j","_law_near"] ["_law_state_here","_law_most"] (aT rQ):=dG
theorem YI (T:Tx K mg G A):FnOk P w K mg base (bE P w base) 3 A.f_qh A.fd_qh ["_law_state_here","_law_most"] (cF G F_qh):=dR (k:=2) T.F_qh YH T.hK λ_ _ _ _ _ _ _ g=>(bC (cP (i:=2) iA (yY (aE 1) (dZ (rN 2) (cC g (mI T) T.m_qp T.F_qp.kp T.B_qp (aI (aE 0) (aI aY aN)))))) (bC (cP (i:=2) iA (EY g.calm rfl T.z_max (aI aY (aI (aE 2) aN)))) (bC (cP (i:=3) iA (cC g (YE T) T.m_qb T.F_qb.kp T.B_qb (aI (aE 0) (aI (WU g rfl T.z_list rfl T.z_range (aI (aE 2) aN)) aN)))) (bC (cP (i:=4) iA (cC g (mI T) T.m_qp T.F_qp.kp T.B_qp (aI (aE 0) (aI aY aN)))) (bC (cP (i:=5) iA (gL aN)) (bC (cP (i:=6) iA (qG (iJ g.calm (hY (N:=["_law_thing","_law_state_here"]) (cap:=[none,some 0]) (os:=(aT rQ)) (oN:=["_law_state_here","_law_most","_law_many","_law_row","_law_way","_law_pairs","_law_marks","_law_i","_law_j","_law_near"])) (yG (aE 3)) (λ_ _ _=>(cH (i:=0) XD)) (λ_ _ _=>jQ) (λ_ _ _=>(cC (eX g) (mI T) T.m_qp T.F_qp.kp T.B_qp (aI (aE 1) (aI aY aN))))))) (bC (qE g.own g.calm (qD rfl T.z_range (aI (aE 2) aN)) (cH (i:=7) iA) (bJ (qE g.own g.calm (QS rfl T.z_range (aI (gO (aE 7) aY) (aI (aE 2) aN))) (cH (i:=8) iA) (bC (cP (i:=9) iA (gL (aI (mD g (cC g (mI T) T.m_qp T.F_qp.kp T.B_qp (aI (aE 0) (aI aY aN))) aY) (aI (mD g (cC g (mI T) T.m_qp T.F_qp.kp T.B_qp (aI (aE 0) (aI aY aN))) aY) (aI (TJ (cC g (mI T) T.m_qp T.F_qp.kp T.B_qp (aI (aE 0) (aI aY aN))) aY) aN))))) (bC (cP (i:=9) iA (gO (aE 9) (gL (aI (IE g (dZ (aE 6) (aE 7)) (dZ (aE 6) (aE 8))) (aI (mD g (dZ (aE 6) (aE 7)) (dZ (aE 6) (aE 8))) aN))))) (bJ (eV (fX (dZ (aE 9) (aE 4))) (bJ (tQ (FL (aE 5) (lQ (aI (dZ (aE 3) (aE 7)) (aI (dZ (aE 3) (aE 8)) aN)))))) eS))))))) (bC (eV (uH g (aE 4) aY) (bC (cP (i:=5) iA (gL aN)) (bJ (qE g.own g.calm (qD rfl T.z_range (aI (aE 2) aN)) (cH (i:=7) iA) (bJ (cP (i:=5) iA (gO (aE 5) (qG (iJ g.calm (hY (N:=["_law_j","_law_i","_law_marks"]) (cap:=[none,some 7,some 6]) (os:=(aT rQ)) (oN:=["_law_state_here","_law_most","_law_many","_law_row","_law_way","_law_pairs","_law_marks","_law_i","_law_j","_law_near"])) (qD rfl T.z_range (aI (aE 2) aN)) (λ_ _ _=>(cH (i:=0) XE)) (λ_ _ _=>(tT (IF (eX g) (dZ (aE 2) (aE 1)) (dZ (aE 2) (aE 0))))) (λ_ _ _=>(lQ (aI (aE 1) (aI (aE 0) aN)))))))))))) eS) (bJ (bZ (lQ (aI (aE 2) (aI (QM rfl T.z_tuple (aI (cC g (YG T) T.m_qf T.F_qf.kp T.B_qf (aI (aE 5) aN)) aN)) aN)))))))))))))
theorem YJ:FnScope ["_law_state_here","_law_some"] ["_law_state_here"] (aT AS):=dG
theorem YK (T:Tx K mg G A):FnOk P w K mg base (bE P w base) 2 A.f_qa A.fd_qa ["_law_state_here"] (cF G F_qa):=W0 (k:=1) T.F_qa YJ T.hK λ_ _ _ _ _ _ _ g=>(zR (WZ 5 (i:=1) AV rfl (by first|exact .inl rfl|exact .inr rfl)) (zR (IK 5 (i:=1) AV rfl (by first|exact .inl rfl|exact .inr rfl) (aE 1)) (zR (IK 5 (i:=1) AV rfl (by first|exact .inl rfl|exact .inr rfl) (aE 1)) (WY (SW.mk (bZ (dZ (aE 1) (cC g (mI T) T.m_qp T.F_qp.kp T.B_qp (aI (aE 0) (aI aY aN))))))))))
theorem YL:FnScope ["_law_found","_law_due"] ["_law_found","_law_due"] (aT vS):=dG
theorem AX (T:Tx K mg G A):∀n,FnOk P w K mg base (bE P w base) n A.f_qo A.fd_qo ["_law_found","_law_due"] (cF G (F_qo n))
 |0=>UA
 |n+1=>by have okS:=AX T n;exact dR (N:=["_law_found","_law_due"]) (mb:=rO (F_qo n)) T.F_qo YL T.hK λ_ _ _ _ _ _ _ g=>(bC (eV (fX (T6 rfl T.z_isinstance rfl T.z_tuple rfl T.z_list (aE 1))) (bC (eV (SndW.t (mT (mE g (qW rfl T.z_isinstance rfl T.z_tuple (aE 0)) (qW rfl T.z_isinstance rfl T.z_tuple (aE 1))) (mS (mE g (GA rfl T.z_isinstance rfl T.z_list (aE 0)) (GA rfl T.z_isinstance rfl T.z_list (aE 1)))))) (bJ (bZ iU)) eS) (bC (eV (mE g (qX rfl T.z_len (aI (aE 0) aN)) (qX rfl T.z_len (aI (aE 1) aN))) (bJ (bZ iU)) eS) (bJ (bZ (qK g.calm rfl T.z_all (iJ g.calm (hY (N:=["_law_one","_law_other"]) (cap:=[none,none]) (os:=(aT vS)) (oN:=["_law_found","_law_due"])) (FP rfl T.z_zip (aI (aE 0) (aI (aE 1) aN))) (λ_ _ _=>(iZ (eX g).calm (dP (cH (i:=0) JE) (dP (cH (i:=1) JE) iY)))) (λ_ _ _=>jQ) (λ_ _ _=>(FC (eX g) okS (ak _) rfl T.m_qo T.F_qo.kp T.B_qo (aI (aE 0) (aI (aE 1) aN)))))))))) eS) (bJ (bZ (oF (mD g (aE 0) (aE 1)) (oE (mD g (yZ rfl T.z_isinstance rfl T.z_bool (aE 0)) (yZ rfl T.z_isinstance rfl T.z_bool (aE 1))))))))
theorem YM:FnScope ["_law_call","_law_error","e","_law_marks"] ["_law_call"] (aT nQ):=dG
theorem YN {k:Nat}(T:Tx K mg G A) (cdv:af) (Ar:cf) (outer:List Env) (s:ag) (H:Hp) (E₀ E:XK) (g:Good (eG (bE P w base) P w K mg base ["_law_call","_law_error","e","_law_marks"] "_law_refused" (aT nQ) A.f_qe cdv Ar outer s H E₀) G E k):hJ (eG (bE P w base) P w K mg base ["_law_call","_law_error","e","_law_marks"] "_law_refused" (aT nQ) A.f_qe cdv Ar outer s H E₀) G E ((gU nQ).drop 2) jZ:=(bC (cP (i:=3) vV (gL (aI (jE rfl T.z_isinstance rfl T.n_NoOrder (aE 1) (λ_ h=>by cases h) T.kt0) (aI (jE rfl T.z_isinstance rfl T.n_NoNumber (aE 1) (λ_ h=>by cases h) T.kt1) (aI (jE rfl T.z_isinstance rfl T.n_NoPairs (aE 1) (λ_ h=>by cases h) T.kt2) aN))))) (bC (cP (i:=3) vV (gO (aE 3) (gL (aI (jE rfl T.z_isinstance rfl T.n_Round (aE 1) (λ_ h=>by cases h) T.kt3) (aI (jE rfl T.z_isinstance rfl T.n_NoThing (aE 1) (λ_ h=>by cases h) T.kt4) (aI (jE rfl T.z_isinstance rfl T.n_NoRow (aE 1) (λ_ h=>by cases h) T.kt5) aN)))))) (bC (cP (i:=3) vV (gO (aE 3) (gL (aI (jE rfl T.z_isinstance rfl T.n_TooMany (aE 1) (λ_ h=>by cases h) T.kt6) (aI (jE rfl T.z_isinstance rfl T.n_TooFew (aE 1) (λ_ h=>by cases h) T.kt7) (aI (jE rfl T.z_isinstance rfl T.n_NoText (aE 1) (λ_ h=>by cases h) T.kt8) aN)))))) (bC (cP (i:=3) vV (gO (aE 3) (gL (aI (jE rfl T.z_isinstance rfl T.n_NoLine (aE 1) (λ_ h=>by cases h) T.kt9) (aI (jE rfl T.z_isinstance rfl T.n_NoDeed (aE 1) (λ_ h=>by cases h) T.kt10) aN))))) (bC (eV (iV (fX (T7 rfl T.z_isinstance rfl T.z_ValueError (aE 1) (λ_ h=>by cases h) T.ktV))) (bJ (bZ EL)) eS) (bJ (bZ (qG (iJ g.calm (hY (N:=["_law_k","_law_marks"]) (cap:=[none,some 3]) (os:=(aT nQ)) (oN:=["_law_call","_law_error","e","_law_marks"])) (qD rfl T.z_range (aI aY aN)) (λ_ _ _=>(cH (i:=0) XF)) (λ_ _ _=>(tT (fX (dZ (aE 1) (aE 0))))) (λ_ _ _=>(aE 0)))))))))))
theorem YO {k:Nat}{Nl:List Str}{params:jz}{body:bj}{scope:gn}{me:M Dv}(T:Tx K mg G A) (LS:LamScope Nl scope) (hb:∀(cl:List (Str×ah)) (pm cdv ct:af),bindArgs (nh "<lambda>" G.lq params body scope cl pm cdv ct) ⟨[],[]⟩=pure [])
  (hbody:∀(f:ah) (cdv:af) (cl:List (Str×ah)) (A:cf) (outer:List Env) (s:ag) (H:Hp) (E₀ E:XK),Good (hO P w K mg base Nl G.lq scope f cdv cl A outer s H E₀) G E k->aG (hO P w K mg base Nl G.lq scope f cdv cl A outer s H E₀) G E body me):
  FnOk P w K mg base (bE P w base) (k+2) A.f_qe A.fd_qe ["_law_call"] (uC G base Nl params body scope me 4 11 jZ):=
 SI T.F_qe YM T.hK rfl rfl rfl rfl rfl rfl rfl (by decide) (by decide) (by decide) (by decide) (by decide) (λ_ _=>rfl) (λ_ _=>rfl) (λ_ _=>rfl) rfl T.n_NearError T.e1 T.e2 T.e3 T.e4 LS hb hbody (YN T)
theorem YQ:FnScope ["_law_script","_law_k","_law_state_here","_law_order_here","_law_text","_law_bad"] ["_law_script"] (aT rR):=dG
theorem YR (T:Tx K mg G A) (hC:jv base A.cc A.P) (hB:lA mg base):FnOk P w K mg base (bE P w base) 14 A.f_qx A.fd_qx ["_law_script"] (cF G (F_qx G.scr)):=T9 (k:=13) (N:=["_law_script","_law_k","_law_state_here","_law_order_here","_law_text","_law_bad"]) (mb:=vJ G.scr) T.F_qx YQ T.hK λcdv Ar outer s H E₀ E hcd g=>(bC (qE g.own g.calm (qD rfl T.z_range (aI (EY g.calm rfl T.z_max (aI aY (aI (QO g.calm rfl T.z_min (aI (EW rfl T.z_len (aI (aE 0) aN)) (aI aY aN))) aN))) aN)) (cH (i:=1) rS) (bC (cP (i:=2) rS (cC g (YB T) T.m_qi T.F_qi.kp T.B_qi (aI (aE 0) (aI (aE 1) aN)))) (bC (cP (i:=3) rS (cC g (YI T) T.m_qh T.F_qh.kp T.B_qh (aI (aE 2) (aI aY aN)))) (bC (cP (i:=4) rS (IY iH (gO (gL (aI (vE (zY rfl T.z_str (aI (dZ (aE 3) aY) aN)) iH) aN)) (qG (iJ g.calm (hY (N:=["_law_a","_law_b"]) (cap:=[none,none]) (os:=(aT rR)) (oN:=["_law_script","_law_k","_law_state_here","_law_order_here","_law_text","_law_bad"])) (mX (dZ (aE 3) aY)) (λ_ _ _=>(iZ (eX g).calm (dP (cH (i:=0) JF) (dP (cH (i:=1) JF) iY)))) (λ_ _ _=>jQ) (λ_ _ _=>(vE (vE (zY rfl T.z_str (aI (aE 0) aN)) iH) (zY rfl T.z_str (aI (aE 1) aN))))))))) (bC (eV (SndW.t (mT (iV (fX (cC g (AX T 6) T.m_qo T.F_qo.kp T.B_qo (aI (cC g (AW T) T.m_qm T.F_qm.kp T.B_qm (aI (aE 3) aN)) (aI (aE 4) aN))))) (mS (iV (fX (cC g (AX T 6) T.m_qo T.F_qo.kp T.B_qo (aI (cC g (JI T) T.m_qn T.F_qn.kp T.B_qn (aI (aE 4) aN)) (aI (aE 3) aN)))))))) (bJ (bZ iU)) eS) (bC (cP (i:=5) rS (cC g (YK T) T.m_qa T.F_qa.kp T.B_qa (aI (aE 2) aN))) (bJ (eV (mE g (UB (Nl:=["_law_bad"]) (caps:=[5]) (me:=vH) (os:=aT rR) (oN:=["_law_script","_law_k","_law_state_here","_law_order_here","_law_text","_law_bad"]) g (j:=10+2) (by decide) (λ_=>rfl) (λbase _ _=>YO (k:=10) T ⟨rfl,rfl,rfl,by decide +kernel,by decide +kernel,by decide +kernel⟩ (λ_ _ _ _=>rfl) (λ_ _ _ _ _ _ _ _ _ g=>(cC g (AW T) T.m_qm T.F_qm.kp T.B_qm (aI (aE 0) aN)))) rfl T.m_qe T.F_qe.kp T.B_qe rfl T.lq T.tab (hcd.symm.trans T.code) hC hB ⟨rfl,rfl,rfl,by decide +kernel,by decide +kernel,by decide +kernel⟩ rfl rfl (by decide +kernel) rfl (by decide +kernel)) (rN 2)) (bJ (bZ iU)) eS)))))))) (bJ (bZ (mD g (cC g (JI T) T.m_qn T.F_qn.kp T.B_qn (aI iH aN)) (rN 3)))))
end
end L2.Mr.K90
namespace L2.Mr
open PySem PySem.Spec PyProof.Rows L2
section
variable{H:Hs}{j:Nat}{up up1:List Int}{b v:Int}{ρ:Ev}{x:Nat}
end
section
variable{d:Dv}{r:Int}{i j:Nat}{fs:List Int}
end
section
variable{d:Dv}{n r:Int}{ps qs:List (Int×Int)}{Fl:List Dv->Hs->Rs Dv}
end
theorem vW {α:Type}{src:Src}{sg:cK}{t:M Bool}{m:MC}(xs:List α) (out:α->List Dv) (S:Ev->Hs->Prop)
  (fin:∀ρ h,S ρ h->src.fin h=true)
  (step:∀k (hk:k<xs.length) ρ h,S ρ h->∃d ρ1,src.get k h=some d/\sg d ρ=some ρ1 /\
   ((∃h2,t ρ1 h=.ok false h2/\out xs[k]=[]/\S ρ1 h2)∨∃h2,t ρ1 h=.ok true h2/\∀acc:List Dv,acc.length+(out xs[k]).length<=900000->∃ρ3 h3,m ρ1 h2 acc=.ok (ρ3,acc++out xs[k]) h3/\S ρ3 h3)):
  ∀(f k:Nat) (ρ:Ev) (h:Hs) (acc:List Dv),f+k=xs.length->S ρ h->acc.length+((xs.drop k).flatMap out).length<=900000->∃ρ' h',eW src sg t m f k ρ h acc=.ok (ρ',acc++(xs.drop k).flatMap out) h'/\S ρ' h'
 |0,k,ρ,h,acc,e,s,hl=>by have:xs.drop k=[]:=List.drop_eq_nil_of_le (by omega);exact⟨ρ,h,by simp[eW,fin ρ h s,this],s⟩
 |f+1,k,ρ,h,acc,e,s,hl=>by
  have hk:k<xs.length:=by omega
  obtain⟨d,ρ1,e1,e2,e3⟩:=step k hk ρ h s;rw[List.drop_eq_getElem_cons hk,gw]at hl ⊢;rw[bw]at hl
  rcases e3 with⟨h2,e3,e4,s2⟩|⟨h2,e3,e4⟩
  ·obtain⟨ρ',h',e5,s5⟩:=vW xs out S fin step f (k+1) ρ1 h2 acc (by omega) s2 (by omega);exact⟨ρ',h',by simp[eW,e1,e2,e3,e4,e5],s5⟩
  ·obtain⟨ρ3,h3,e6,s3⟩:=e4 acc (by omega);obtain⟨ρ',h',e5,s5⟩:=vW xs out S fin step f (k+1) ρ3 h3 (acc++out xs[k]) (by omega) s3 (by rw[bw];omega);exact⟨ρ',h',by simp[eW,e1,e2,e3,e6,e5],s5⟩
theorem JJ {α:Type}{mi:M Src}{cap:List (Option Nat)}{src:Src}{sg:cK}{t:M Bool}{m:MC}{ρ:Ev}{H H1:Hs}(xs:List α) (out:α->List Dv) (S:Ev->Hs->Prop)
  (hi:mi ρ H=.ok src H1) (hn:src.n=xs.length) (s0:S (jP cap ρ) H1) (fin:∀ρ h,S ρ h->src.fin h=true)
  (step:∀k (hk:k<xs.length) ρ h,S ρ h->∃d ρ1,src.get k h=some d/\sg d ρ=some ρ1 /\
   ((∃h2,t ρ1 h=.ok false h2/\out xs[k]=[]/\S ρ1 h2)∨∃h2,t ρ1 h=.ok true h2/\∀acc:List Dv,acc.length+(out xs[k]).length<=900000->∃ρ3 h3,m ρ1 h2 acc=.ok (ρ3,acc++out xs[k]) h3/\S ρ3 h3))
  (hl:(xs.flatMap out).length<=900000):∃ρ' H',bT mi cap sg t m ρ H=.ok (xs.flatMap out) H'/\S ρ' H':=by
 obtain⟨ρ',h',e,s⟩:=vW xs out S fin step xs.length 0 (jP cap ρ) H1 [] (by omega) s0 (by simpa using hl);refine⟨ρ',h', ?_,s⟩;unfold bT;rw[hi,Rs.bind_ok,hn,e];simp
theorem JK {e:M Dv}{ρ:Ev}{h h1:Hs}{d:Dv}{acc:List Dv}(he:e ρ h=.ok d h1) (hl:acc.length+[d].length<=900000):bQ e ρ h acc=.ok (ρ,acc++[d]) h1:=by
 have:acc.length<1000000:=by simp at hl;omega
 simp[bQ,he,this]
theorem iC {α:Type}{mi:M Src}{cap:List (Option Nat)}{src:Src}{sg:cK}{t:M Bool}{e:M Dv}{ρ:Ev}{H H1:Hs}(xs:List α) (g:α->Option Dv) (S:Ev->Prop)
  (hi:mi ρ H=.ok src H1) (hn:src.n=xs.length) (s0:S (jP cap ρ)) (fin:src.fin H1=true)
  (step:∀k (hk:k<xs.length) ρ,S ρ->∃d ρ1,src.get k H1=some d/\sg d ρ=some ρ1/\S ρ1/\match g xs[k]with
   |none=>t ρ1 H1=.ok false H1
   |some v=>t ρ1 H1=.ok true H1/\e ρ1 H1=.ok v H1)
  (hl:xs.length<=900000):bT mi cap sg t (bQ e) ρ H=.ok (xs.filterMap g) H1:=by
 have fm:∀l:List α,l.flatMap (λx=>(g x).toList)=l.filterMap g:=λl=>by
  induction l with
  |nil=>rfl
  |cons x l ih=>rw[gw,ih,bz];cases g x <;> rfl
 have len:(xs.filterMap g).length<=xs.length:=ki g xs;obtain⟨ρ',H',h,_,rfl⟩:=JJ (mi:=mi) (cap:=cap) (src:=src) (sg:=sg) (t:=t) (m:=bQ e) (ρ:=ρ) (H:=H) (H1:=H1) xs (λx=>(g x).toList) (λρ h=>S ρ/\h=H1) hi hn ⟨s0,rfl⟩ (λρ h s=>by rw[s.2];exact fin)
  (λk hk ρ h ⟨s,e1⟩=>by
   subst e1;obtain⟨d,ρ1,e1,e2,s1,e3⟩:=step k hk ρ s;refine⟨d,ρ1,e1,e2, ?_⟩
   cases q:g xs[k]with
   |none=>rw[q]at e3;exact .inl ⟨h,e3,rfl,s1,rfl⟩
   |some v=>rw[q]at e3;exact .inr ⟨h,e3.1,λacc hl=>⟨ρ1,h,JK e3.2 hl,s1,rfl⟩⟩) (by rw[fm];omega)
 rw[h,fm]
theorem YS {α β:Type}{mi mj:M Src}{cap:List (Option Nat)}{src:Src}{sg sg2:cK}{t2:M Bool}{e:M Dv}{ρ:Ev}{H H1:Hs}(xs:List α) (ys:α->List β) (g:α->β->Option Dv) (S:Ev->Prop)
  (hi:mi ρ H=.ok src H1) (hn:src.n=xs.length) (s0:S (jP cap ρ)) (fin:src.fin H1=true)
  (step:∀k (hk:k<xs.length) ρ,S ρ->∃(d:Dv) (ρ1:Ev) (src2:Src) (S2:Ev->Prop),src.get k H1=some d/\sg d ρ=some ρ1/\S2 ρ1/\(∀ρ,S2 ρ->S ρ)/\mj ρ1 H1=.ok src2 H1/\src2.n=(ys xs[k]).length/\src2.fin H1=true /\
   ∀j (hj:j<(ys xs[k]).length) ρ,S2 ρ->∃d ρ2,src2.get j H1=some d/\sg2 d ρ=some ρ2/\S2 ρ2/\match g xs[k] (ys xs[k])[j]with
    |none=>t2 ρ2 H1=.ok false H1
    |some v=>t2 ρ2 H1=.ok true H1/\e ρ2 H1=.ok v H1)
  (hl:(xs.flatMap λx=>(ys x).filterMap (g x)).length<=900000):bT mi cap sg cU (kY mj sg2 t2 (bQ e)) ρ H=.ok (xs.flatMap λx=>(ys x).filterMap (g x)) H1:=by
 have fm:∀(x:α) (l:List β),l.flatMap (λy=>(g x y).toList)=l.filterMap (g x):=λx l=>by
  induction l with
  |nil=>rfl
  |cons y l ih=>rw[gw,ih,bz];cases g x y <;> rfl
 obtain⟨ρ',H',h,_,rfl⟩:=JJ (mi:=mi) (cap:=cap) (src:=src) (sg:=sg) (t:=cU) (m:=kY mj sg2 t2 (bQ e)) (ρ:=ρ) (H:=H) (H1:=H1) xs (λx=>(ys x).filterMap (g x)) (λρ h=>S ρ/\h=H1) hi hn ⟨s0,rfl⟩ (λρ h s=>by rw[s.2];exact fin)
  (λk hk ρ h ⟨s,e1⟩=>by
   subst e1;obtain⟨d,ρ1,src2,S2,e1,e2,s1,sS,e3,e4,e5,e6⟩:=step k hk ρ s;refine⟨d,ρ1,e1,e2,.inr ⟨h,rfl,λacc hl=>?_⟩⟩;obtain⟨ρ3,h3,r,s3,rfl⟩:=vW (src:=src2) (sg:=sg2) (t:=t2) (m:=bQ e) (ys xs[k]) (λy=>(g xs[k] y).toList) (λρ hh=>S2 ρ/\hh=h) (λρ hh s=>by rw[s.2];exact e5)
    (λj hj ρ hh ⟨s,e1⟩=>by
     subst e1;obtain⟨d,ρ2,z1,z2,z3,z4⟩:=e6 j hj ρ s;refine⟨d,ρ2,z1,z2, ?_⟩
     cases q:g xs[k] (ys xs[k])[j]with
     |none=>rw[q]at z4;exact .inl ⟨hh,z4,rfl,z3,rfl⟩
     |some v=>rw[q]at z4;exact .inr ⟨hh,z4.1,λacc hl=>⟨ρ2,hh,JK z4.2 hl,z3,rfl⟩⟩) (ys xs[k]).length 0 ρ1 h acc (by omega) ⟨s1,rfl⟩ (by rw[List.drop_zero,fm];exact hl)
   refine⟨ρ3,h3, ?_,sS ρ3 s3,rfl⟩;unfold kY;rw[e3];dsimp only;rw[e4,r,List.drop_zero,fm]) hl
 exact h
theorem YT {c:M Bool}{b:MS}{f:Nat}{ρ:Ev}{h h1:Hs}(e:c ρ h=.ok false h1):gF c b (f+1) ρ h=.nx ρ h1:=by show(c ρ h).thenS _=_;rw[e];rfl
theorem JL {c:M Bool}{b:MS}{f:Nat}{ρ ρ2:Ev}{h h1 h2:Hs}(e:c ρ h=.ok true h1) (q:b ρ h1=.nx ρ2 h2):gF c b (f+1) ρ h=gF c b f ρ2 h2:=by show(c ρ h).thenS _=_;rw[e];simp[Rs.thenS,q]
theorem YU {c:M Bool}{b:MS}{f:Nat}{ρ:Ev}{d:Dv}{h h1 h2:Hs}(e:c ρ h=.ok true h1) (q:b ρ h1=.rt d h2):gF c b (f+1) ρ h=.rt d h2:=by show(c ρ h).thenS _=_;rw[e];simp[Rs.thenS,q]
theorem vX:∀bs:List Bool,bB lT (bs.map Dv.bl)=some bs
 | []=>rfl
 |b::bs=>by rw[da,bB,vX bs];rfl
end L2.Mr
namespace L2.Mr.Com
open PySem PySem.Spec PyProof.Rows L2 L2.Mr
def bM (n:Nat) (ps:List (Int×Int)):Dv:=.tup [.int n,.tup (ps.map aH)]
theorem pA {α:Type}{ml:M (List Dv)}{ρ:Ev}{H H1:Hs}{xs:List α}{f:α->Bool}(h:ml ρ H=.ok (xs.filterMap λx=>some (.bl (f x))) H1):mL jB ml ρ H=.ok (.bl (xs.all f)) H1:=by
 have e:(xs.filterMap λx=>some (Dv.bl (f x)))=(xs.map f).map Dv.bl:=by simp
 unfold mL;rw[h,Rs.bind_ok,e];unfold jB;rw[vX];simp[List.all_map]
theorem YV {α:Type}{ml:M (List Dv)}{ρ:Ev}{H H1:Hs}{xs:List α}{f:α->Bool}(h:ml ρ H=.ok (xs.filterMap λx=>some (.bl (f x))) H1):mL qJ ml ρ H=.ok (.bl (xs.any f)) H1:=by
 have e:(xs.filterMap λx=>some (Dv.bl (f x)))=(xs.map f).map Dv.bl:=by simp
 unfold mL;rw[h,Rs.bind_ok,e];unfold qJ;rw[vX];simp[List.any_map]
section
variable{H:Hs}{n x:Int}{ps:List (Int×Int)}
theorem JM:F_qv [.int x] H=.ok (.bl true) H:=by simp[F_qv,zS,aS,bI,aO,dJ,m1,aB,aV,gA,oR,jT,oD,bG]
theorem AY {lo hi:Int}:F_qk [.int x,.int lo,.int hi] H=.ok (.bl (decide (lo<=x)&&decide (x<=hi))) H:=by
 by_cases h:lo<=x
 ·simp[F_qk,vA,aS,bI,aO,dJ,aD,aA,aB,aC,JM,oC,oQ,gX,h,bG]
 ·simp[F_qk,vA,aS,bI,aO,dJ,aD,aA,aB,aC,JM,oC,oQ,gX,h,bG]
def eJ (n x:Int):Bool:=decide (0<=x)&&decide (x<=n - 1)
theorem YW:F_qu [.int n,.int x] H=.ok (.bl (eJ n x)) H:=by simp[F_qu,zT,aS,bI,aO,aD,aA,aB,aC,mC,m2,lB,gX,AY,bG,eJ]
theorem YX {xs:List Int}(hl:xs.length<=1000):F_qj [.int n,.tup (xs.map Dv.int)] H=.ok (.bl (xs.all (eJ n))) H:=by have h:bT (cA eF (aB 1)) [none,some 0] (aF 0) cU (bQ (aD F_qu (aA (aB 1) (aA (aB 0) aC)))) [some (.int n),some (.tup (xs.map Dv.int))] H=.ok (xs.filterMap λx=>some (.bl (eJ n x))) H:=iC xs (λx=>some (.bl (eJ n x))) (λρ=>∃a,ρ=[a,some (.int n)]) rfl (by simp[cO]) ⟨_,rfl⟩ rfl (λk hk ρ ⟨a,e⟩=>by subst e;exact⟨.int xs[k],_,by simp[cO,hk],rfl,⟨_,rfl⟩,rfl,by simp[aD,aA,aB,aC,YW]⟩) (by omega);simp[F_qj,vB,aS,bI,aO,dJ,m1,aV,aB,gA,gN,pA h,bG]
def kA (n:Int) (p:Int×Int):Bool:=eJ n p.1&&eJ n p.2
theorem YY (p:Int×Int):F_qw [.int n,aH p] H=.ok (.bl (kA n p)) H:=by
 have h:F_qj [.int n,aH p] H=.ok (.bl (kA n p)) H:=by have:=YX (H:=H) (n:=n) (xs:=[p.1,p.2]) (by simp);simpa[aH,kA]using this
 have hlen:f1 fR [aH p] H=.ok (.int 2) H:=rfl
 cases q:kA n p with
 |false=>simp[F_qw,oX,aS,bI,aO,dJ,aD,aA,aB,aC,h,q,bG]
 |true=>simp[F_qw,oX,aS,bI,aO,dJ,aD,aA,aB,aC,h,q,bG,m2,hlen,mC,bS,bR,bK,bA]
theorem YZ (hl:ps.length<=1000):F_qq [.int n,.tup (ps.map aH)] H=.ok (.bl (ps.all (kA n))) H:=by have h:bT (cA eF (aB 1)) [none,some 0] (aF 0) cU (bQ (aD F_qw (aA (aB 1) (aA (aB 0) aC)))) [some (.int n),some (.tup (ps.map aH))] H=.ok (ps.filterMap λp=>some (.bl (kA n p))) H:=iC ps (λp=>some (.bl (kA n p))) (λρ=>∃a,ρ=[a,some (.int n)]) rfl (by simp[cO]) ⟨_,rfl⟩ rfl (λk hk ρ ⟨a,e⟩=>by subst e;exact⟨aH ps[k],_,by simp[cO,hk],rfl,⟨_,rfl⟩,rfl,by simp[aD,aA,aB,aC,YY]⟩) (by omega);simp[F_qq,zU,aS,bI,aO,pA h,bG]
theorem Y0 (hl:ps.length<=1000):F_qr [.tup (ps.map aH)] H=.ok (.bl (ps.any λp=>decide (p.1=p.2))) H:=by have h:bT (cA eF (aB 0)) [none,none] (cE 2 (aX (aF 0) (aX (aF 1) cL))) cU (bQ (m2 bS (aB 0) (aB 1))) [some (.tup (ps.map aH))] H=.ok (ps.filterMap λp=>some (.bl (decide (p.1=p.2)))) H:=iC ps (λp=>some (.bl (decide (p.1=p.2)))) (λρ=>∃a b,ρ=[a,b]) rfl (by simp[cO]) ⟨_,_,rfl⟩ rfl (λk hk ρ ⟨a,b,e⟩=>by subst e;refine⟨aH ps[k],[some (.int ps[k].1),some (.int ps[k].2)],by simp[cO,hk],rfl,⟨_,_,rfl⟩,rfl, ?_⟩;simp[m2,aB,bS,bR,bK,bA];rw[gz];simp) (by omega);simp[F_qr,IM,aS,bI,aO,YV h,bG]
theorem Y1 (p q:Int×Int):fH (aH p) (aH q) H=.ok (.bl (dC p q)) H:=by simp only[fH,aH,bB,jU,IC];rw[<-rG];rfl
def kB (ps:List (Int×Int)):Bool:=(ps.zip (ps.drop 1)).all λq=>dC q.1 q.2
theorem rising_of:∀{ps:List (Int×Int)},kB ps=true↔dM dC ps
 | []=>by simp[kB,dM]
 | [p]=>by simp[kB,dM]
 |p::q::r=>by
  have ih:=rising_of (ps:=q::r);have e:kB (p::q::r)=(dC p q&&kB (q::r)):=by simp[kB]
  rw[e,cy,ih];constructor
  ·rintro ⟨h1,h2⟩
   refine fe.mpr ⟨λz hz=>?_,h2⟩
   rcases bg.mp hz with rfl|hz
   ·exact h1
   ·exact stoP.tr _ _ _ h1 ((fe.mp h2).1 z hz)
  ·intro h;have:=fe.mp h;exact⟨this.1 q (by simp),this.2⟩
theorem Y2 (ds:List Dv):lY ds (some 1) none=ds.drop 1:=by
 unfold lY;rw[show HT.sIx ds.length 0 (some 1)=min 1 ds.length from HT.sIx_nat ds.length 0 1,HT.sIx_none]
 cases ds with
 |nil=>rfl
 |cons a r=>simp
theorem Y3 (hl:ps.length<=1000):F_qs [.tup (ps.map aH)] H=.ok (.bl (kB ps)) H:=by
 have hi:aQ lV (aA (aB 0) (aA (rM (aB 0) (qR (mC (.int 1))) qQ) aC)) [some (.tup (ps.map aH))] H=.ok (lU (ps.map aH) ((ps.drop 1).map aH)) H:=by simp[aQ,aA,aB,rM,qR,mC,F6,qQ,uW,aC,lV,Y2,qw]
 have hz:((ps.map aH).zip ((ps.drop 1).map aH)).map (λq=>Dv.tup [q.1,q.2])=(ps.zip (ps.drop 1)).map λq=>Dv.tup [aH q.1,aH q.2]:=by rw[List.zip_map,nj];rfl
 have h:bT (aQ lV (aA (aB 0) (aA (rM (aB 0) (qR (mC (.int 1))) qQ) aC))) [none,none] (cE 2 (aX (aF 0) (aX (aF 1) cL))) cU (bQ (m2 fH (aB 0) (aB 1))) [some (.tup (ps.map aH))] H=.ok ((ps.zip (ps.drop 1)).filterMap λq=>some (.bl (dC q.1 q.2))) H:=
  iC (ps.zip (ps.drop 1)) (λq=>some (.bl (dC q.1 q.2))) (λρ=>∃a b,ρ=[a,b]) hi (by simp[lU,cO]) ⟨_,_,rfl⟩ rfl (λk hk ρ ⟨a,b,e⟩=>by
   subst e;refine⟨.tup [aH (ps.zip (ps.drop 1))[k].1,aH (ps.zip (ps.drop 1))[k].2],[some (aH (ps.zip (ps.drop 1))[k].1),some (aH (ps.zip (ps.drop 1))[k].2)], ?_,rfl,⟨_,_,rfl⟩,rfl, ?_⟩
   ·show(((ps.map aH).zip ((ps.drop 1).map aH)).map (λq=>Dv.tup [q.1,q.2]))[k]?=_;rw[hz,dj,az hk];rfl
   ·simp only[m2,aB];exact Y1 _ _) (by rw[List.length_zip];omega)
 simp[F_qs,IL,aS,bI,aO,pA h,bG,kB]
def rT (ps:List (Int×Int)):Bool:=ps.all λp=>ps.all λq=>!decide (p.2=q.1)||decide ((p.1,q.2)∈ps)
theorem Y4 (hl:ps.length<=900):F_qg [.tup (ps.map aH)] H=.ok (.bl (rT ps)) H:=by
 let g:Int×Int->Int×Int->Option Dv:=λp q=>if p.2=q.1 then some (.bl (decide ((p.1,q.2)∈ps)))else none
 have h:bT (cA eF (aB 0)) [none,none,none,none,some 0] (cE 2 (aX (aF 0) (aX (aF 1) cL))) cU (kY (cA eF (aB 4)) (cE 2 (aX (aF 2) (aX (aF 3) cL))) (mB (m2 bS (aB 1) (aB 2))) (bQ (m2 (nG false) (aJ (aA (aB 0) (aA (aB 3) aC))) (aB 4)))) [some (.tup (ps.map aH))] H=.ok (ps.flatMap λp=>ps.filterMap (g p)) H:=
  YS ps (λ_=>ps) g (λρ=>∃a b c d,ρ=[a,b,c,d,some (.tup (ps.map aH))]) rfl (by simp[cO]) ⟨_,_,_,_,rfl⟩ rfl (λk hk ρ ⟨a,b,c,d,e⟩=>by
   subst e;refine⟨aH ps[k],[some (.int ps[k].1),some (.int ps[k].2),c,d,some (.tup (ps.map aH))],cO (ps.map aH),λρ=>∃c d,ρ=[some (.int ps[k].1),some (.int ps[k].2),c,d,some (.tup (ps.map aH))],by simp[cO,hk],rfl,⟨_,_,rfl⟩,λρ ⟨c,d,e⟩=>⟨_,_,_,_,e⟩,rfl,by simp[cO],rfl,λj hj ρ ⟨c,d,e⟩=>?_⟩;subst e;refine⟨aH ps[j],[some (.int ps[k].1),some (.int ps[k].2),some (.int ps[j].1),some (.int ps[j].2),some (.tup (ps.map aH))],by simp[cO,hj],rfl,⟨_,_,rfl⟩, ?_⟩;have te:mB (m2 bS (aB 1) (aB 2)) [some (.int ps[k].1),some (.int ps[k].2),some (.int ps[j].1),some (.int ps[j].2),some (.tup (ps.map aH))] H=.ok (decide (ps[k].2=ps[j].1)) H:=by simp[mB,m2,aB,bS,bR,bK,bA,fO];rw[gz];simp
   by_cases c1:ps[k].2=ps[j].1
   ·rw[decide_eq_true c1]at te;have hg:g ps[k] ps[j]=some (.bl (decide ((ps[k].1,ps[j].2)∈ps))):=if_pos c1;rw[hg];refine⟨te, ?_⟩;have hx:aJ (aA (aB 0) (aA (aB 3) aC)) [some (.int ps[k].1),some (.int ps[k].2),some (.int ps[j].1),some (.int ps[j].2),some (.tup (ps.map aH))] H=.ok (aH (ps[k].1,ps[j].2)) H:=rfl;unfold m2;rw[hx,Rs.bind_ok];show(Rs.ok (Dv.tup (ps.map aH)) H).bind _=_;rw[Rs.bind_ok,UO];rfl
   ·rw[decide_eq_false c1]at te;have hg:g ps[k] ps[j]=none:=if_neg c1;rw[hg];exact te) (by
   have:∀l:List (Int×Int),(l.flatMap λp=>ps.filterMap (g p)).length<=l.length*ps.length:=λl=>by
    induction l with
    |nil=>simp
    |cons p l ih=>rw[gw,bw,cp,yw];have:=ki (g p) ps;omega
   have h2:=this ps;have h3:ps.length*ps.length<=900*900:=ll hl hl;omega)
 have hb:(ps.flatMap λp=>ps.filterMap (g p))=(ps.flatMap λp=>ps.filterMap λq=>if p.2=q.1 then some (decide ((p.1,q.2)∈ps))else none).map Dv.bl:=by
  rw[List.map_flatMap]
  congr 1
  funext p
  rw[List.map_filterMap]
  congr 1
  funext q
  show(if p.2=q.1 then some (Dv.bl (decide ((p.1,q.2)∈ps)))else none)=_
  split <;> rfl
 have hall:mL jB (bT (cA eF (aB 0)) [none,none,none,none,some 0] (cE 2 (aX (aF 0) (aX (aF 1) cL))) cU (kY (cA eF (aB 4)) (cE 2 (aX (aF 2) (aX (aF 3) cL))) (mB (m2 bS (aB 1) (aB 2))) (bQ (m2 (nG false) (aJ (aA (aB 0) (aA (aB 3) aC))) (aB 4))))) [some (.tup (ps.map aH))] H=.ok (.bl (rT ps)) H:=by
  unfold mL;rw[h,Rs.bind_ok,hb];unfold jB;rw[vX];dsimp only
  congr 2
  rw[gz];unfold rT;simp only[fw,tm,jc,id];constructor
  ·intro h p hp q hq
   by_cases c:p.2=q.1
   ·have:=h (decide ((p.1,q.2)∈ps)) ⟨p,hp,q,hq,if_pos c⟩;simp[c,this]
   ·simp[c]
  ·rintro h b ⟨p,hp,q,hq,e⟩
   have:=h p hp q hq
   by_cases c:p.2=q.1
   ·rw[if_pos c]at e;cases e;simpa[c]using this
   ·rw[if_neg c]at e;cases e
 simp[F_qg,IP,aS,bI,aO,hall,bG]
def pC (n:Int) (ps:List (Int×Int)):Bool:=decide (1<=n)&&decide (n<=6)&&ps.all (kA n)&&kB ps&&!(ps.any λp=>decide (p.1=p.2))&&rT ps
theorem JN {n:Int}(hl:ps.length<=900):F_qt [.tup [.int n,.tup (ps.map aH)]] H=.ok (.bl (pC n ps)) H:=by
 have b:=AY (H:=H) (x:=n) (lo:=1) (hi:=6);have p1:=YZ (H:=H) (n:=n) (ps:=ps) (by omega);have p2:=Y3 (H:=H) (ps:=ps) (by omega);have p3:=Y0 (H:=H) (ps:=ps) (by omega);have p4:=Y4 (H:=H) (ps:=ps) hl;have hlen:f1 fR [.tup [.int n,.tup (ps.map aH)]] H=.ok (.int 2) H:=rfl;unfold pC;generalize (decide (1<=n)&&decide (n<=6))=c0 at b ⊢;generalize ps.all (kA n)=c1 at p1 ⊢;generalize kB ps=c2 at p2 ⊢;generalize (ps.any λp=>decide (p.1=p.2))=c3 at p3 ⊢;generalize rT ps=c4 at p4 ⊢
 cases c0 <;> cases c1 <;> cases c2 <;> cases c3 <;> cases c4 <;>
  simp[F_qt,nO,aS,bI,aL,bD,dY,cJ,bH,m1,aV,aB,gA,gN,eC,mB,m2,aD,aA,aC,hlen,mC,bY,bR,bK,bA,fO,bP,aK,cE,aX,aF,cL,b,p1,p2,p3,p4,aO,dJ,oD,bG]
end
structure OrdP (n:Nat) (ps:List (Int×Int)):Prop where
 n1:1<=n
 n6:n<=6
 rng:∀p∈ps,0<=p.1/\p.1<n/\0<=p.2/\p.2<n
 rise:dM dC ps
 irr:∀p∈ps,p.1≠p.2
 tr:∀p∈ps,∀q∈ps,p.2=q.1->(p.1,q.2)∈ps
section
variable{n:Nat}{ps:List (Int×Int)}{H:Hs}
def AZ (n:Nat):List (Int×Int):=(bo n).flatMap λa:Nat=>(bo n).map λb:Nat=>((a:Int),(b:Int))
theorem Y5 (n:Nat):(AZ n).length=n*n:=by
 unfold AZ;have:∀l:List Nat,(l.flatMap λa:Nat=>(bo n).map λb:Nat=>((a:Int),(b:Int))).length=l.length*n:=λl=>by
  induction l with
  |nil=>simp
  |cons a l ih=>rw[gw,bw,ih,cp,yw];simp;omega
 rw[this];simp
theorem Y6 {p:Int×Int}(h:0<=p.1/\p.1<n/\0<=p.2/\p.2<n):p∈AZ n:=by obtain⟨a,b⟩:=p;simp only at h;refine tm.mpr ⟨a.toNat,bx.mpr (by omega),dg.mpr ⟨b.toNat,bx.mpr (by omega), ?_⟩⟩;simp;omega
theorem rV (hr:dM dC ps) (hp:∀p∈ps,0<=p.1/\p.1<n/\0<=p.2/\p.2<n):ps.length<=n*n:=by rw[<-Y5 n];exact(rF stoP hr).length_le_of_subset λp h=>Y6 (hp p h)
theorem OrdP.len (o:OrdP n ps):ps.length<=36:=by have h1:=rV o.rise o.rng;have h2:n*n<=6*6:=ll o.n6 o.n6;omega
theorem OrdP.b (o:OrdP n ps):pC n ps=true:=by
 have h1:=o.n1;have h6:=o.n6;unfold pC;simp only[cy,decide_eq_true_eq,Bool.not_eq_true'];refine⟨⟨⟨⟨⟨by omega,by omega⟩, ?_⟩,rising_of.mpr o.rise⟩, ?_⟩, ?_⟩
 ·refine fw.mpr λp hp=>?_;have:=o.rng p hp;simp[kA,eJ];omega
 ·refine List.any_eq_false.mpr λp hp=>?_;simpa using o.irr p hp
 ·refine fw.mpr λp hp=>fw.mpr λq hq=>?_
  by_cases c:p.2=q.1
  ·simp[c,o.tr p hp q hq c]
  ·simp[c]
theorem JO (o:OrdP n ps):F_qt [bM n ps] H=.ok (.bl true) H:=by have:=JN (H:=H) (n:=(n:Int)) (ps:=ps) (by have:=o.len;omega);rw[o.b]at this;exact this
end
theorem Y7 (H:Hs) (n:Nat) (a:Int) (b:Bool) (m:Int) (h0:0<m) (h1:m<18446744073709551616) (e:getL H n=some [.int a,.bl b]):
  ∃r a',0<=r/\r<m/\F_qp [.ref n,.int m] H=.ok (.int r) (H.set n (.lst [.int a',.bl b])):=by
 cases b with
 |true=>refine⟨a % m,a / m,Int.emod_nonneg _ (by omega),Int.emod_lt_of_pos _ h0, ?_⟩;simp[F_qp,zV,aS,bI,aL,bD,bH,m2,aB,mC,aW,eY,eR,e,iX,dW,dN,eC,aK,gM,iW,mU,h0,aF,qL,qZ,qY,h1,tZ,aO,bG]
 |false=>
  have q1:∀ys,getL (H.set n (.lst ys)) n=some ys:=λys=>nI e;generalize hs:(a*48271+29) % 2147483647=s;have s0:0<=s:=by omega
  have s1:s<2147483647:=by omega
  generalize ht:(s*s+39373*s+7) % 2147483629=t;have t0:0<=t:=by omega
  have t1:t<2147483629:=by omega
  generalize hu:(t*t+16807*t) % 2147483587=u;refine⟨u / 8 % m,s,Int.emod_nonneg _ (by omega),Int.emod_lt_of_pos _ h0, ?_⟩;have w1:jN s=true:=by simp[jN];omega
  have w2:jN t=true:=by simp[jN];omega
  have w3:jN 48271=true:=by decide
  have w4:jN 39373=true:=by decide
  have w5:jN 16807=true:=by decide
  simp[F_qp,zV,aS,bI,aL,bD,bH,m2,aB,mC,aW,eY,eR,e,iX,dW,dN,eC,aK,gM,iW,mU,h0,aF,qL,qZ,qY,h1,tZ,aO,bG,bP,bL,kS,nE,tL,w1,w2,w3,w4,w5,q1,hs,ht,hu]
def St (n:Nat) (H:Hs):Prop:=∃a b,getL H n=some [.int a,.bl b]
theorem St.fr {n:Nat}{S:List Nat}{H H':Hs}(s:St n H) (f:Fr S H H') (h:n∉S):St n H':=let ⟨a,b,e⟩:=s;⟨a,b,f.getL e h⟩
theorem mJ {H:Hs}{n:Nat}(m:Int) (s:St n H) (h0:0<m:=by decide) (h1:m<18446744073709551616:=by decide):
  ∃r H',0<=r/\r<m/\F_qp [.ref n,.int m] H=.ok (.int r) H'/\Fr [n] H H'/\St n H':=by
 obtain⟨a,b,e⟩:=s;obtain⟨r,a',r0,r1,ht⟩:=Y7 H n a b m h0 h1 e;exact⟨r,_,r0,r1,ht,Fr.set,a',b,nI e⟩
theorem Y8 (scr:List Int) (k:Nat) (h:Hs):∃H',F_qi scr [.scr,.int k] h=.ok (.ref h.length) H'/\Fr [] h H'/\St h.length H':=by
 have cell:∃c,F_qd scr [.scr,.int k] h=.ok (.int c) h:=by
  by_cases hk:k<scr.length
  ·refine⟨scr[k], ?_⟩;have hk':(k:Int)<scr.length:=by omega
   simp[F_qd,vC,aS,bI,aL,bD,mB,m2,aB,mC,fH,aD,f1,gY,fY,aA,aC,fO,hk',hk,eR,iX,dW,dN,aO,bG]
  ·refine⟨0, ?_⟩;have hk':¬ (k:Int)<scr.length:=by omega
   simp[F_qd,vC,aS,bI,aL,bD,mB,m2,aB,mC,fH,aD,f1,gY,fY,aA,aC,fO,hk',hk,eR,iX,dW,dN,aO,bG,bP]
 obtain⟨c,hc⟩:=cell;have fin:∀a b,Fr [] h (h++[Ob.lst [.int a,.bl b]])/\St h.length (h++[Ob.lst [.int a,.bl b]]):=λa b=>⟨Fr.app,a,b,by rw[UI];rfl⟩
 by_cases hg:c>=1000000000000000000
 ·refine⟨_, ?_,fin (c - 1000000000000000000) true⟩;simp[F_qi,vD,aS,bI,aL,aK,aD,aA,aB,aC,hc,aF,bD,mB,m2,uG,gX,qS,iW,pY,mC,fO,hg,aO,aU,lB,lim,bG]
 ·refine⟨_, ?_,fin (c % 2147483647) false⟩;simp[F_qi,vD,aS,bI,aL,aK,aD,aA,aB,aC,hc,aF,bD,mB,m2,uG,gX,qS,iW,pY,mC,fO,hg,aO,aU,lB,lim,bG,bP,gM,mU]
theorem St.lt {st:Nat}{H:Hs}(s:St st H):st<H.length:=let ⟨_,_,e⟩:=s;nJ e
theorem Y9 {H:Hs}{q:Nat}{ks:List Int}(e:getL H q=some (ks.map Dv.int)):bY (.ref q) (.ref H.length) (H++[.lst []])=.ok (.bl (!ks.isEmpty)) (H++[.lst []]):=by
 have p1:bK bR (H++[.lst []]) (.ref q)=some (.lst (ks.map Dt.int)):=by show bK (28+1+1) (H++[.lst []]) (.ref q)=_;rw[bK];simp only[jV (l:=[.lst []]) e,GI]
 have p2:bK bR (H++[.lst []]) (.ref H.length)=some (.lst []):=by
  show bK (28+1+1) (H++[.lst []]) (.ref H.length)=_;rw[bK];have:getL (H++[.lst []]) H.length=some []:=by simp[getL]
  simp only[this];rfl
 unfold bY;rw[p1,p2]
 cases ks <;> simp[bA,fW]
def vY:M Bool:=mB (m2 bY (aB 2) (aU aC))
def vZ:MS:=eU (nA (aB 3) (qP (aB 2) (aD F_qp (aA (aB 0) (aA (aD (f1 fR) (aA (aB 2) aC)) aC)))))
theorem ZA:zW=aL (aK (aD (f1 jF) (aA (aB 1) aC)) (aF 2)) (aL (aK (aU aC) (aF 3)) (aL (gF vY vZ 40) (aO (aB 3)))):=rfl
section
variable{st a b:Nat}{d:Dv}
theorem JP (hab:a≠b) (has:a≠st) (hbs:b≠st):∀(f:Nat) (ls fs:List Int) (H:Hs),ls.length<f->ls.length+fs.length<=100->getL H a=some (ls.map Dv.int)->getL H b=some (fs.map Dv.int)->St st H->
  ∃(H':Hs) (ys:List Int),gF vY vZ f [some (.ref st),some d,some (.ref a),some (.ref b)] H=.nx [some (.ref st),some d,some (.ref a),some (.ref b)] H'/\getL H' b=some (ys.map Dv.int)/\ys.Perm (fs++ls)/\St st H'/\Fr [st,a,b] H H'
 |0,ls,fs,H,h,_,_,_,_=>by omega
 |f+1,ls,fs,H,h,hl,ea,eb,s=>by
  have tc:vY [some (.ref st),some d,some (.ref a),some (.ref b)] H=.ok (!ls.isEmpty) (H++[.lst []]):=by simp[vY,mB,m2,aB,aU,aC,lim,Y9 ea,fO]
  have ea1:=jV (l:=[Ob.lst []]) ea;have eb1:=jV (l:=[Ob.lst []]) eb;have g1:Fr [st,a,b] H (H++[Ob.lst []]):=Fr.app;have s1:=s.fr (Fr.app (S:=[]) (l:=[Ob.lst []])) (by simp);generalize H++[Ob.lst []]=H1 at tc ea1 eb1 g1 s1
  cases hls:ls with
  |nil=>subst hls;refine⟨H1,fs, ?_,eb1,by simp,s1,g1⟩;exact YT tc
  |cons x r=>
   have hne:ls.isEmpty=false:=by rw[hls];rfl
   have hpos:(0:Int)<ls.length:=by rw[hls];simp
   obtain⟨k,H2,k0,k1,ht,f2,s2⟩:=mJ (ls.length:Int) s1 hpos (by omega);have ea2:=f2.getL ea1 (by simpa using has);have eb2:=f2.getL eb1 (by simpa using hbs);have hk:k.toNat<ls.length:=by omega
   have ixk:dN (ls.map Dv.int).length k=some k.toNat:=by unfold dN;rw[if_pos k0,bh,if_pos k1]
   have getk:(ls.map Dv.int)[k.toNat]?=some (.int ls[k.toNat]):=by simp[hk]
   have hlen:f1 fR [.ref a] H1=.ok (.int ls.length) H1:=by show(if eY (.ref a)=true then gY [] (.ref a) H1 else .bad)=_;simp[eY,gY,fY,ea1]
   have hz:(ls.map Dv.int).length<=1000000:=by rw[bh];omega
   have pop:uD (.ref a) (.int k) H2=.ok (.int ls[k.toNat]) (H2.set a (.lst ((ls.eraseIdx k.toNat).map Dv.int))):=by
    simp only[uD,ea2,ixk,getk,hz,if_true];have em:(ls.map Dv.int).eraseIdx k.toNat=(ls.eraseIdx k.toNat).map Dv.int:=by rw[sk,sk,jg,y8,qw]
    rw[em]
   have eb3:getL (H2.set a (.lst ((ls.eraseIdx k.toNat).map Dv.int))) b=some (fs.map Dv.int):=by rw[rB hab];exact eb2
   have ea3:getL (H2.set a (.lst ((ls.eraseIdx k.toNat).map Dv.int))) a=some ((ls.eraseIdx k.toNat).map Dv.int):=nI ea2;have f3:Fr [st,a,b] H2 (H2.set a (.lst ((ls.eraseIdx k.toNat).map Dv.int))):=Fr.set.mono (by simp);have s3:St st (H2.set a (.lst ((ls.eraseIdx k.toNat).map Dv.int))):=s2.fr Fr.set (by simpa using cz has);generalize hH3:H2.set a (.lst ((ls.eraseIdx k.toNat).map Dv.int))=H3 at pop eb3 ea3 f3 s3;have hfl:(fs.map Dv.int).length<1000000:=by rw[bh];omega
   have body:vZ [some (.ref st),some d,some (.ref a),some (.ref b)] H1=.nx [some (.ref st),some d,some (.ref a),some (.ref b)] (H3.set b (.lst ((fs++[ls[k.toNat]]).map Dv.int))):=by
    have isA:iK (.ref a) H1=true:=by simp[iK,ea1]
    have isB:iK (.ref b) H1=true:=by simp[iK,eb1]
    have hpop:qP (aB 2) (aD F_qp (aA (aB 0) (aA (aD (f1 fR) (aA (aB 2) aC)) aC))) [some (.ref st),some d,some (.ref a),some (.ref b)] H1=.ok (.int ls[k.toNat]) H3:=by simp[qP,aB,isA,aD,aA,aC,hlen,ht,pop]
    have happ:oK (.ref b) (.int ls[k.toNat]) H3=.ok .non (H3.set b (.lst ((fs++[ls[k.toNat]]).map Dv.int))):=by simp only[oK,eb3,hfl,if_true,jg];rfl
    simp[vZ,eU,nA,aB,isB,hpop,happ]
   have hlen2:(ls.eraseIdx k.toNat).length=ls.length - 1:=vg hk;obtain⟨H',ys,w,e',pm,s',f'⟩:=JP hab has hbs f (ls.eraseIdx k.toNat) (fs++[ls[k.toNat]]) (H3.set b (.lst ((fs++[ls[k.toNat]]).map Dv.int))) (by omega) (by rw[bw];simp;omega) (by rw[rB (cz hab)];exact ea3) (nI eb3) (s3.fr Fr.set (by simpa using cz hbs));refine⟨H',ys, ?_,e', ?_,s', ?_⟩
   ·rw[hne]at tc;rw[JL tc body];exact w
   ·rw[<-hls];refine pm.trans ?_;rw[rp];refine vh fs ?_;have:=SR.erase_perm ls k.toNat hk;simpa using this
   ·exact(((g1.trans f2 (by simp)).trans f3 (by simp)).trans (T:=[b]) Fr.set (by simp)).trans f' (by simp)
theorem ZC {H:Hs}{j:Nat}{xs:List Int}(s:St st H) (e:getL H j=some (xs.map Dv.int)) (hl:xs.length<=20):∃(i:Nat) (ys:List Int) (H':Hs),F_qb [.ref st,.ref j] H=.ok (.ref i) H'/\getL H' i=some (ys.map Dv.int)/\ys.Perm xs/\H.length<=i/\St st H'/\Fr [st] H H':=by
 have lt:=s.lt;have w0:aK (aD (f1 jF) (aA (aB 1) aC)) (aF 2) [some (.ref st),some (.ref j),none,none] H=.nx [some (.ref st),some (.ref j),some (.ref H.length),none] (H++[.lst (xs.map Dv.int)]):=by simp[aK,aD,f1,jF,eY,oJ,fY,aA,aB,aC,e,aF]
 have w1:aK (aU aC) (aF 3) [some (.ref st),some (.ref j),some (.ref H.length),none] (H++[.lst (xs.map Dv.int)])=.nx [some (.ref st),some (.ref j),some (.ref H.length),some (.ref (H.length+1))] (H++[.lst (xs.map Dv.int)]++[.lst []]):=by simp[aK,aU,aC,lim,aF]
 have ea:getL (H++[.lst (xs.map Dv.int)]++[.lst []]) H.length=some (xs.map Dv.int):=jV (by simp[getL]);have eb:getL (H++[.lst (xs.map Dv.int)]++[.lst []]) (H.length+1)=some (([]:List Int).map Dv.int):=by simp[getL]
 have f0:Fr [st] H (H++[.lst (xs.map Dv.int)]++[.lst []]):=Fr.trans (T:=[]) Fr.app Fr.app (by simp);have s0:St st (H++[.lst (xs.map Dv.int)]++[.lst []]):=(s.fr (Fr.app (S:=[]) (l:=[.lst (xs.map Dv.int)])) (by simp)).fr (Fr.app (S:=[])) (by simp);obtain⟨H',ys,w2,e2,pm,s2,f2⟩:=JP (st:=st) (a:=H.length) (b:=H.length+1) (d:=.ref j) (by omega) (by omega) (by omega) 40 xs [] _ (by omega) (by simp;omega) ea eb s0;refine⟨H.length+1,ys,H', ?_,e2,by simpa using pm,by omega,s2,f0.trans f2 (by simp)⟩;show bG (zW [some (.ref st),some (.ref j),none,none] H)=_;rw[ZA,bO w0,bO w1,bO w2];rfl
end
def dE (ps:List (Int×Int)) (p:Int×Int):List (Int×Int):=(ps.filter λq=>decide (p.2=q.1)).map λq=>(p.1,q.2)
def cX (ps:List (Int×Int)):List (Int×Int):=cW dC (ps++ps.flatMap (dE ps))
def rW:Nat->List (Int×Int)->Option (List (Int×Int))
 |0,_=>none
 |f+1,ps=>if cX ps=ps then some ps else rW f (cX ps)
def lI (n:Nat) (ps:List (Int×Int)):Prop:=∀p∈ps,0<=p.1/\p.1<n/\0<=p.2/\p.2<n
def Tr (ps:List (Int×Int)):Prop:=∀p∈ps,∀q∈ps,p.2=q.1->(p.1,q.2)∈ps
theorem ZD {ps:List (Int×Int)}{p r:Int×Int}:r∈dE ps p↔∃q∈ps,p.2=q.1/\r=(p.1,q.2):=by
 simp only[dE,dg,my,decide_eq_true_eq];constructor
 ·rintro ⟨q,⟨h1,h2⟩,h3⟩;exact⟨q,h1,h2,h3.symm⟩
 ·rintro ⟨q,h1,h2,h3⟩;exact⟨q,⟨h1,h2⟩,h3.symm⟩
theorem step_mem {ps:List (Int×Int)}{r:Int×Int}:r∈cX ps↔r∈ps∨∃p∈ps,∃q∈ps,p.2=q.1/\r=(p.1,q.2):=by unfold cX;rw[lD stoP,dy,tm];simp only[ZD]
theorem A0 {n:Nat}{ps:List (Int×Int)}(h:lI n ps):lI n (cX ps):=λr hr=>by
 rcases step_mem.mp hr with hr|⟨p,hp,q,hq,_,rfl⟩
 ·exact h r hr
 ·exact⟨(h p hp).1,(h p hp).2.1,(h q hq).2.2.1,(h q hq).2.2.2⟩
theorem rX (ps:List (Int×Int)):dM dC (cX ps):=rE stoP _
theorem ZE {ps:List (Int×Int)}(hr:dM dC ps):cX ps=ps↔Tr ps:=by
 constructor
 ·intro h p hp q hq e;rw[<-h];exact step_mem.mpr (.inr ⟨p,hp,q,hq,e,rfl⟩)
 ·intro h;refine zI stoP (rX ps) hr λr=>?_;rw[step_mem];constructor
  ·rintro (hr|⟨p,hp,q,hq,e,rfl⟩)
   ·exact hr
   ·exact h p hp q hq e
  ·exact λh=>.inl h
theorem ZF {ps:List (Int×Int)}(hr:dM dC ps) (hne:cX ps≠ps):ps.length<(cX ps).length:=by
 have nd:=rF stoP hr;have sub:∀r∈ps,r∈cX ps:=λr h=>step_mem.mpr (.inl h);have h1:=nd.length_le_of_subset sub
 rcases ig ps.length (cX ps).length with h|h
 ·exact h
 ·exfalso
  apply hne
  have sub2:∀r∈cX ps,r∈ps:=λr hr'=>by
   by_cases hm:r∈ps
   ·exact hm
   ·exfalso
    have nd2:(r::ps).Nodup:=je.mpr ⟨hm,nd⟩;have:=nd2.length_le_of_subset (l₂:=cX ps) λx hx=>by
     rcases bg.mp hx with rfl|hx
     ·exact hr'
     ·exact sub x hx
    simp at this;omega
  exact zI stoP (rX ps) hr λr=>⟨sub2 r,sub r⟩
theorem JQ {n:Nat}(hn:n<=6):∀(f:Nat) (ps:List (Int×Int)),dM dC ps->lI n ps->36<f+ps.length->∃cs,rW f ps=some cs/\dM dC cs/\lI n cs/\Tr cs/\(∀p∈ps,p∈cs)/\∀R:Int->Int->Prop,(∀a b c,R a b->R b c->R a c)->(∀p∈ps,R p.1 p.2)->∀p∈cs,R p.1 p.2
 |0,ps,hr,hi,h=>by have h1:=rV hr hi;have h2:n*n<=6*6:=ll hn hn;omega
 |f+1,ps,hr,hi,h=>by
  unfold rW
  split
  ·rename_i e;exact⟨ps,rfl,hr,hi,(ZE hr).mp e,λp hp=>hp,λR _ h=>h⟩
  ·rename_i e;have:=ZF hr e;obtain⟨cs,h1,h2,h3,h4,h5,h6⟩:=JQ hn f (cX ps) (rX ps) (A0 hi) (by omega);refine⟨cs,h1,h2,h3,h4,λp hp=>h5 p (step_mem.mpr (.inl hp)),λR ht hR=>h6 R ht λr hr'=>?_⟩
   rcases step_mem.mp hr' with hr'|⟨p,hp,q,hq,e,rfl⟩
   ·exact hR r hr'
   ·refine ht _ p.2 _ (hR p hp) ?_;rw[e];exact hR q hq
theorem JR {α:Type}{f:α->Dv}{H:Hs}{i k:Nat}{xs:List α}(e:getL H i=some (xs.map f)) (hk:k<xs.length):(fP i xs.length).get k H=some (f xs[k]):=by simp[fP,e,hk]
theorem JS {α:Type}{f:α->Dv}{H:Hs}{i:Nat}{xs:List α}(e:getL H i=some (xs.map f)):(fP i xs.length).fin H=true:=by simp[fP,e]
theorem JT:∀ps:List (Int×Int),bB oV (ps.map aH)=some (ps.map hX)
 | []=>rfl
 |p::ps=>by rw[da,bB,JT ps];rfl
theorem ZG (ps:List (Int×Int)):uV (ps.map hX)=true:=by simp[uV,hX]
theorem ZH (ps:List (Int×Int)):(ps.map hX).map uU=ps.map aH:=by rw[nj];rfl
section
variable{H:Hs}{ps:List (Int×Int)}{d:Dv}
theorem JU (h:nM d H=some (ps.map hX)) (hl:(cW dC ps).length<64):jX d H=.ok (.ref H.length) (H++[.lst ((cW dC ps).map aH)]):=by unfold jX;rw[h];dsimp only;rw[GY rG,bh,if_pos (by rw[ZG];simpa using hl),ZH]
theorem ZI {i j:Nat}{ps qs:List (Int×Int)}(ei:getL H i=some (ps.map aH)) (ej:getL H j=some (qs.map aH)):bS (.ref i) (.ref j) H=.ok (.bl (decide (ps=qs))) H:=by
 have p:∀(i:Nat) (ps:List (Int×Int)),getL H i=some (ps.map aH)->bK bR H (.ref i)=some (.lst (ps.map iM)):=λi ps e=>by show bK (27+2+1) H (.ref i)=_;rw[bK];simp only[e,zE]
 have dq:∀ps qs:List (Int×Int),fW (ps.map iM) (qs.map iM)=decide (ps=qs):=λps=>by
  induction ps with
  |nil=>intro qs;cases qs <;> simp[fW]
  |cons p ps ih=>
   intro qs
   cases qs with
   |nil=>simp[fW]
   |cons q qs=>simp only[da,fW,GK,ih];rw[gz];simp
 unfold bS;rw[p i ps ei,p j qs ej];simp only[bA,dq]
def pD:M (List Dv):=bT (cA gD (aB 1)) [none,none,some 3,some 4] (cE 2 (aX (aF 0) (aX (aF 1) cL))) (mB (m2 bS (aB 3) (aB 0))) (bQ (aJ (aA (aB 2) (aA (aB 1) aC))))
def pE:MS:=aL (aK (aD (f1 jF) (aA (aB 1) aC)) (aF 2)) (aL (gE (cA gD (aB 1)) (cE 2 (aX (aF 3) (aX (aF 4) cL))) (eU (nB (aB 2) pD))) (aL (aK (aD (f1 jX) (aA (aB 2) aC)) (aF 2)) (aL (bD (mB (m2 bS (aB 2) (aB 1))) (aO (aB 1)) bP) (aK (aB 2) (aF 1)))))
theorem ZJ:gQ=aL (aK (aD (f1 jX) (aA (aB 0) aC)) (aF 1)) (gF (bH (mC (.bl true))) pE 40):=rfl
theorem ZK {x0 x2:Option Dv}{i:Nat}{p:Int×Int}(hl:ps.length<=1000) (e:getL H i=some (ps.map aH)):pD [x0,some (.ref i),x2,some (.int p.1),some (.int p.2)] H=.ok ((dE ps p).map aH) H:=by
 have hi:cA gD (aB 1) [x0,some (.ref i),x2,some (.int p.1),some (.int p.2)] H=.ok (fP i ps.length) H:=by simp[cA,aB,gD,e]
 have h:pD [x0,some (.ref i),x2,some (.int p.1),some (.int p.2)] H=.ok (ps.filterMap λq=>if p.2=q.1 then some (aH (p.1,q.2))else none) H:=
  iC ps (λq=>if p.2=q.1 then some (aH (p.1,q.2))else none) (λρ=>∃a b,ρ=[a,b,some (.int p.1),some (.int p.2)]) hi rfl ⟨_,_,rfl⟩ (by simp[fP,e]) (λk hk ρ ⟨a,b,er⟩=>by
   subst er;refine⟨aH ps[k],[some (.int ps[k].1),some (.int ps[k].2),some (.int p.1),some (.int p.2)],by simp[fP,e,hk],rfl,⟨_,_,rfl⟩, ?_⟩;have te:mB (m2 bS (aB 3) (aB 0)) [some (.int ps[k].1),some (.int ps[k].2),some (.int p.1),some (.int p.2)] H=.ok (decide (p.2=ps[k].1)) H:=by simp[mB,m2,aB,bS,bR,bK,bA,fO];rw[gz];simp
   by_cases c:p.2=ps[k].1
   ·rw[if_pos c];rw[decide_eq_true c]at te;exact⟨te,rfl⟩
   ·rw[if_neg c];rw[decide_eq_false c]at te;exact te) (by omega)
 rw[h]
 congr 1
 unfold dE;rw[nj];have:∀l:List (Int×Int),l.filterMap (λq=>if p.2=q.1 then some (aH (p.1,q.2))else none)=(l.filter λq=>decide (p.2=q.1)).map (aH∘λq=>(p.1,q.2)):=λl=>by
  induction l with
  |nil=>rfl
  |cons q l ih=>
   rw[bz,List.filter_cons,ih]
   by_cases c:p.2=q.1 <;> simp[c]
 exact this ps
theorem JV (ps:List (Int×Int)) (p:Int×Int):(dE ps p).length<=ps.length:=by unfold dE;rw[bh];exact List.length_filter_le _ _
theorem JW (ps:List (Int×Int)):∀l:List (Int×Int),(l.flatMap (dE ps)).length<=l.length*ps.length
 | []=>by simp
 |p::l=>by have h1:=JV ps p;have h2:=JW ps l;rw[gw,bw,cp,yw];omega
theorem ZL {x0 x3 x4:Option Dv}{i j:Nat}(hij:i≠j) (hl:ps.length<=40) (ei:getL H i=some (ps.map aH)) (ej:getL H j=some (ps.map aH)):
  ∃y3 y4,gE (cA gD (aB 1)) (cE 2 (aX (aF 3) (aX (aF 4) cL))) (eU (nB (aB 2) pD)) [x0,some (.ref i),some (.ref j),x3,x4] H=.nx [x0,some (.ref i),some (.ref j),y3,y4] (H.set j (.lst ((ps++ps.flatMap (dE ps)).map aH))):=by
 have hi:cA gD (aB 1) [x0,some (.ref i),some (.ref j),x3,x4] H=.ok (fP i ps.length) H:=by simp[cA,aB,gD,ei]
 have self:H.set j (.lst (ps.map aH))=H:=by
  apply sd
  intro k
  by_cases hk:j=k
  ·subst hk;rw[di (nJ ej),cT ej]
  ·rw[ed hk]
 obtain⟨ρ',H',h1,y3,y4,h2,h3⟩:=uJ (b:=eU (nB (aB 2) pD)) (sg:=cE 2 (aX (aF 3) (aX (aF 4) cL))) hi (λk ρ H'=>∃(y3 y4:Option Dv),ρ=[x0,some (.ref i),some (.ref j),y3,y4]/\H'=H.set j (.lst ((ps++(ps.take k).flatMap (dE ps)).map aH)))
  (λk ρ H' hk ⟨y3,y4,e1,e2⟩=>by
   subst e1;subst e2;have hk':k<ps.length:=hk;have ei':getL (H.set j (.lst ((ps++(ps.take k).flatMap (dE ps)).map aH))) i=some (ps.map aH):=by rw[rB (cz hij)];exact ei
   have ej':getL (H.set j (.lst ((ps++(ps.take k).flatMap (dE ps)).map aH))) j=some ((ps++(ps.take k).flatMap (dE ps)).map aH):=nI ej;have hlen:(ps++(ps.take k).flatMap (dE ps)).length<=40+40*40:=by have h1:=JW ps (ps.take k);have h2:(ps.take k).length*ps.length<=40*40:=ll (by rw[iz];omega) hl;rw[bw];omega
   have hf:=JV ps ps[k];refine⟨aH ps[k],[x0,some (.ref i),some (.ref j),some (.int ps[k].1),some (.int ps[k].2)],[x0,some (.ref i),some (.ref j),some (.int ps[k].1),some (.int ps[k].2)],_,JR ei' hk',rfl, ?_,_,_,rfl,rfl⟩;have hc:=ZK (x0:=x0) (x2:=some (.ref j)) (p:=ps[k]) (by omega) ei';generalize hG:H.set j (.lst ((ps++(ps.take k).flatMap (dE ps)).map aH))=G at ei' ej' hc;have isJ:iK (.ref j) G=true:=by simp[iK,ej']
   have hz:((ps++(ps.take k).flatMap (dE ps)).map aH).length+((dE ps ps[k]).map aH).length<=1000000:=by rw[bh,bh];omega
   have hx:tY (.ref j) ((dE ps ps[k]).map aH) G=.ok .non (G.set j (.lst ((ps++(ps.take (k+1)).flatMap (dE ps)).map aH))):=by unfold tY;simp only[ej',lim,hz,if_true];rw[List.take_succ_eq_append_getElem hk',List.flatMap_append,<-jg];simp[rp]
   have:nB (aB 2) pD [x0,some (.ref i),some (.ref j),some (.int ps[k].1),some (.int ps[k].2)] G=.ok .non (G.set j (.lst ((ps++(ps.take (k+1)).flatMap (dE ps)).map aH))):=by unfold nB;show(Rs.ok (Dv.ref j) G).bind _=_;rw[Rs.bind_ok,if_pos isJ,hc,Rs.bind_ok,hx]
   unfold eU;rw[this,<-hG,List.set_set];rfl)
  (λρ H' ⟨_,_,_,e2⟩=>by
   subst e2;have ei':getL (H.set j (.lst ((ps++(ps.take (fP i ps.length).n).flatMap (dE ps)).map aH))) i=some (ps.map aH):=by rw[rB (cz hij)];exact ei
   exact JS ei') ⟨x3,x4,rfl,by simp[self]⟩
 refine⟨y3,y4, ?_⟩;rw[h1,h2,h3];simp[fP]
end
section
variable{H:Hs}{ps:List (Int×Int)}
theorem JX {i:Nat}(e:getL H i=some (ps.map aH)):nM (.ref i) H=some (ps.map hX):=by simp only[nM,e,JT]
theorem A1 {x0 x2 x3 x4:Option Dv}{i:Nat}(hl:ps.length<=40) (hs:(cX ps).length<64) (e:getL H i=some (ps.map aH)):
  ∃H',Fr [] H H'/\getL H' i=some (ps.map aH)/\if cX ps=ps then pE [x0,some (.ref i),x2,x3,x4] H=.rt (.ref i) H' else ∃(j:Nat) (y2 y3 y4:Option Dv),pE [x0,some (.ref i),x2,x3,x4] H=.nx [x0,some (.ref j),y2,y3,y4] H'/\getL H' j=some ((cX ps).map aH):=by
 have li:=nJ e;have w0:aK (aD (f1 jF) (aA (aB 1) aC)) (aF 2) [x0,some (.ref i),x2,x3,x4] H=.nx [x0,some (.ref i),some (.ref H.length),x3,x4] (H++[.lst (ps.map aH)]):=by simp[aK,aD,f1,jF,eY,oJ,fY,aA,aB,aC,e,aF]
 have ei:=jV (l:=[Ob.lst (ps.map aH)]) e;have ej:getL (H++[Ob.lst (ps.map aH)]) H.length=some (ps.map aH):=by simp[getL]
 have f0:Fr [] H (H++[Ob.lst (ps.map aH)]):=Fr.app;generalize H++[Ob.lst (ps.map aH)]=H0 at w0 ei ej f0;obtain⟨y3,y4,w1⟩:=ZL (x0:=x0) (x3:=x3) (x4:=x4) (i:=i) (j:=H.length) (by omega) hl ei ej;have ei1:getL (H0.set H.length (.lst ((ps++ps.flatMap (dE ps)).map aH))) i=some (ps.map aH):=by rw[rB (by omega)];exact ei
 have ej1:getL (H0.set H.length (.lst ((ps++ps.flatMap (dE ps)).map aH))) H.length=some ((ps++ps.flatMap (dE ps)).map aH):=nI ej;have f1':Fr [] H (H0.set H.length (.lst ((ps++ps.flatMap (dE ps)).map aH))):=f0.trans (T:=[H.length]) Fr.set (by simp);generalize H0.set H.length (.lst ((ps++ps.flatMap (dE ps)).map aH))=H1 at w1 ei1 ej1 f1';have w2:aK (aD (f1 jX) (aA (aB 2) aC)) (aF 2) [x0,some (.ref i),some (.ref H.length),y3,y4] H1=.nx [x0,some (.ref i),some (.ref H1.length),y3,y4] (H1++[.lst ((cX ps).map aH)]):=by have hq:=JU (JX ej1) hs;simp[aK,aD,f1,aA,aB,aC,hq,aF,cX]
 have ei2:=jV (l:=[Ob.lst ((cX ps).map aH)]) ei1;have ej2:getL (H1++[Ob.lst ((cX ps).map aH)]) H1.length=some ((cX ps).map aH):=by simp[getL]
 have f2:Fr [] H (H1++[Ob.lst ((cX ps).map aH)]):=f1'.trans (T:=[]) Fr.app (by simp);generalize hH2:H1++[Ob.lst ((cX ps).map aH)]=H2 at w2 ei2 ej2 f2;have t:mB (m2 bS (aB 2) (aB 1)) [x0,some (.ref i),some (.ref H1.length),y3,y4] H2=.ok (decide (cX ps=ps)) H2:=by simp[mB,m2,aB,ZI ej2 ei2,fO]
 refine⟨H2,f2,ei2, ?_⟩
 by_cases c:cX ps=ps
 ·rw[if_pos c];unfold pE;rw[bO w0,bO w1,bO w2];unfold aL;rw[zC (t.trans (by rw[decide_eq_true c]))];rfl
 ·rw[if_neg c];refine⟨H1.length,some (.ref H1.length),y3,y4, ?_,ej2⟩;unfold pE;rw[bO w0,bO w1,bO w2,bO (ρ1:=[x0,some (.ref i),some (.ref H1.length),y3,y4]) (h1:=H2) (by rw[nK (t.trans (by rw[decide_eq_false c]))];rfl)];rfl
theorem JY {n:Nat}(hn:n<=6) {cs:List (Int×Int)}:∀(f:Nat) (ps:List (Int×Int)) (H:Hs) (i:Nat) (x0 x2 x3 x4:Option Dv),dM dC ps->lI n ps->rW f ps=some cs->getL H i=some (ps.map aH)->
  ∃(j:Nat) (H':Hs),gF (bH (mC (.bl true))) pE f [x0,some (.ref i),x2,x3,x4] H=.rt (.ref j) H'/\getL H' j=some (cs.map aH)/\Fr [] H H'
 |0,ps,H,i,x0,x2,x3,x4,hr,hi,h,e=>by cases h
 |f+1,ps,H,i,x0,x2,x3,x4,hr,hi,h,e=>by
  have sq:n*n<=6*6:=ll hn hn;have l1:=rV hr hi;have l2:=rV (rX ps) (A0 hi);obtain⟨H1,f1,e1,c1⟩:=A1 (x0:=x0) (x2:=x2) (x3:=x3) (x4:=x4) (by omega) (by omega) e;have tt:bH (mC (.bl true)) [x0,some (.ref i),x2,x3,x4] H=.ok true H:=rfl;unfold rW at h
  split at h
  ·rename_i c;cases h;rw[if_pos c]at c1;exact⟨i,H1,YU tt c1,e1,f1⟩
  ·rename_i c;rw[if_neg c]at c1;obtain⟨j,y2,y3,y4,c2,ej⟩:=c1;obtain⟨k,H2,w,ek,f2⟩:=JY hn f (cX ps) H1 j x0 y2 y3 y4 (rX ps) (A0 hi) h ej;exact⟨k,H2,by rw[JL tt c2];exact w,ek,f1.trans f2 (by simp)⟩
def JZ (n:Nat) (ps cs:List (Int×Int)):Prop:=dM dC cs/\lI n cs/\Tr cs/\(∀p∈ps,p∈cs)/\∀R:Int->Int->Prop,(∀a b c,R a b->R b c->R a c)->(∀p∈ps,R p.1 p.2)->∀p∈cs,R p.1 p.2
theorem ZM {n:Nat}{d:Dv}(hn:n<=6) (hi:lI n ps) (h:nM d H=some (ps.map hX)):∃(cs:List (Int×Int)) (j:Nat) (H':Hs),JZ n ps cs/\F_qf [d] H=.ok (.ref j) H'/\getL H' j=some (cs.map aH)/\Fr [] H H':=by
 have hs:lI n (cW dC ps):=λp hp=>hi p ((lD stoP p ps).mp hp);have hr:=rE stoP ps;have sq:n*n<=6*6:=ll hn hn;have l1:=rV hr hs;obtain⟨cs,c1,c2,c3,c4,c5,c6⟩:=JQ hn 40 _ hr hs (by omega);have w0:aK (aD (f1 jX) (aA (aB 0) aC)) (aF 1) [some d,none,none,none,none] H=.nx [some d,some (.ref H.length),none,none,none] (H++[.lst ((cW dC ps).map aH)]):=by have hq:=JU h (by omega);simp[aK,aD,f1,aA,aB,aC,hq,aF]
 obtain⟨j,H',w1,ej,f1'⟩:=JY hn 40 (cW dC ps) (H++[.lst ((cW dC ps).map aH)]) H.length (some d) none none none hr hs c1 (by simp[getL]);refine⟨cs,j,H',⟨c2,c3,c4,λp hp=>c5 p ((lD stoP p ps).mpr hp),λR ht hR=>c6 R ht λp hp=>hR p ((lD stoP p ps).mp hp)⟩, ?_,ej,(Fr.app (S:=[]) (l:=[.lst ((cW dC ps).map aH)])).trans f1' (by simp)⟩;show bG (gQ [some d,none,none,none,none] H)=_;rw[ZJ,bO w0,w1];rfl
end
theorem nS {H:Hs}{i k:Nat}{xs:List Int}(e:getL H i=some (xs.map Dv.int)) (hk:k<xs.length):aW (.ref i) (.int (k:Int)) H=.ok (.int xs[k]) H:=by
 have h1:dN (xs.map Dv.int).length (k:Int)=some k:=by unfold dN;rw[bh,if_pos (by omega),if_pos (by omega)];simp
 have h2:dW (xs.map Dv.int) (k:Int)=some (.int xs[k]):=by unfold dW;rw[h1];simp[hk]
 simp only[aW,eY,eR,e,iX,h2,if_true]
theorem wB (x y:Int) (H:Hs):bS (.int x) (.int y) H=.ok (.bl (x==y)) H:=by simp[bS,bR,bK,bA]
theorem A2:∀{ys:List Int},ys.Nodup->∀i (h:i<ys.length),rA ys[i] ys=some i
 | [],_,i,h=>by simp at h
 |y::ys,nd,0,h=>by simp[rA]
 |y::ys,nd,i+1,h=>by
  have h1:=je.mp nd;have hi:i<ys.length:=by simpa using h
  have ne:y≠ys[i]:=λz=>h1.1 (by rw[z];exact fy hi);simp[rA,ne,A2 h1.2 i hi]
def wC (n:Nat) (ps:List (Int×Int)):Prop:=lI n ps/\∃f:Int->Int,∀p∈ps,f p.1<f p.2
theorem ZN {n:Nat}{ps cs:List (Int×Int)}(n1:1<=n) (n6:n<=6) (g:wC n ps) (c:JZ n ps cs):OrdP n cs:=by obtain⟨h1,h2,h3,h4,h5⟩:=c;obtain⟨_,f,hf⟩:=g;refine⟨n1,n6,h2,h1,λp hp e=>?_,h3⟩;have:=h5 (λa b=>f a<f b) (λa b c x y=>by omega) hf p hp;rw[e]at this;omega
section
variable{st ir ip im n:Nat}{ys ms:List Int}{w:Int}{d1:Dv}
def A3:MS:=aK (aU (aA (m2 bS (aD F_qp (aA (aB 0) (aA (mC (.int 6)) aC))) (mC (.int 0))) (aA (m2 bS (aD F_qp (aA (aB 0) (aA (mC (.int 2)) aC))) (mC (.int 0))) (aA (m2 uF (aD F_qp (aA (aB 0) (aA (mC (.int 4)) aC))) (mC (.int 0))) aC)))) (aF 9)
def A4:MS:=aK (m2 bL (aB 9) (aU (aA (m2 fH (m2 aW (aB 6) (aB 7)) (m2 aW (aB 6) (aB 8))) (aA (m2 bS (m2 aW (aB 6) (aB 7)) (m2 aW (aB 6) (aB 8))) aC)))) (aF 9)
def oB:MS:=aL A3 (aL A4 (bD (bH (m2 aW (aB 9) (aB 4))) (eU (nA (aB 5) (aJ (aA (m2 aW (aB 3) (aB 7)) (aA (m2 aW (aB 3) (aB 8)) aC))))) bP))
structure Std (st ir im:Nat) (ys ms:List Int) (H:Hs):Prop where
 s:St st H
 r:getL H ir=some (ys.map Dv.int)
 m:getL H im=some (ms.map Dv.int)
theorem Std.fr {H H':Hs}{S:List Nat}(h:Std st ir im ys ms H) (f:Fr S H H') (s':St st H') (h1:ir∉S) (h2:im∉S):Std st ir im ys ms H':=⟨s',f.getL h.r h1,f.getL h.m h2⟩
theorem kC {H:Hs}{x9:Option Dv}{ps:List (Int×Int)}{i j:Nat}(D:Std st ir im ys ms H) (ep:getL H ip=some (ps.map aH)) (hw:0<=w/\w<5) (hi:i<n) (hj:j<n) (hy:ys.length=n) (hm:ms.length=n) (hl:ps.length<=1000)
  (h1:ir≠st) (h2:im≠st) (h3:ip≠st) (h4:ir≠ip) (h5:im≠ip):
  ∃(x9':Option Dv) (H':Hs) (ps':List (Int×Int)),oB [some (.ref st),some d1,some (.int n),some (.ref ir),some (.int w),some (.ref ip),some (.ref im),some (.int i),some (.int j),x9] H=.nx [some (.ref st),some d1,some (.int n),some (.ref ir),some (.int w),some (.ref ip),some (.ref im),some (.int i),some (.int j),x9'] H'/\getL H' ip=some (ps'.map aH)/\(ps'=ps∨ps'=ps++[(ys.getD i 0,ys.getD j 0)])/\Std st ir im ys ms H'/\Fr [st,ip] H H':=by
 obtain⟨r0,H0,_,_,t0,f0,s0⟩:=mJ 6 D.s;obtain⟨r1,H1,_,_,t1,f1,s1⟩:=mJ 2 s0;obtain⟨r2,H2,_,_,t2,f2,s2⟩:=mJ 4 s1;have f02:Fr [st] H H2:=(f0.trans f1 (by simp)).trans f2 (by simp);have D2:=D.fr f02 s2 (by simpa using h1) (by simpa using h2);have ep2:=f02.getL ep (by simpa using h3);have w1:A3 [some (.ref st),some d1,some (.int n),some (.ref ir),some (.int w),some (.ref ip),some (.ref im),some (.int i),some (.int j),x9] H=.nx [some (.ref st),some d1,some (.int n),some (.ref ir),some (.int w),some (.ref ip),some (.ref im),some (.int i),some (.int j),some (.ref H2.length)] (H2++[.lst [.bl (r0==0),.bl (r1==0),.bl (decide (r2>0))]]):=by simp[A3,aK,aU,aA,m2,aD,aB,mC,aC,t0,t1,t2,wB,uF,gX,lim,aF]
 have fA:Fr [] H2 (H2++[.lst [.bl (r0==0),.bl (r1==0),.bl (decide (r2>0))]]):=Fr.app;have eA:getL (H2++[.lst [.bl (r0==0),.bl (r1==0),.bl (decide (r2>0))]]) H2.length=some [.bl (r0==0),.bl (r1==0),.bl (decide (r2>0))]:=by simp[getL]
 have DA:=D2.fr fA (s2.fr fA (by simp)) (by simp) (by simp);have epA:=fA.getL ep2 (by simp);have fHA:Fr [st] H (H2++[.lst [.bl (r0==0),.bl (r1==0),.bl (decide (r2>0))]]):=f02.trans fA (by simp);generalize H2++[Ob.lst [.bl (r0==0),.bl (r1==0),.bl (decide (r2>0))]]=HA at w1 fA eA DA epA fHA;have hmi:=nS DA.m (k:=i) (by omega);have hmj:=nS DA.m (k:=j) (by omega);have eA':=jV (l:=[Ob.lst [.bl (decide (ms[i]<ms[j])),.bl (ms[i]==ms[j])]]) eA;have eB:getL (HA++[Ob.lst [.bl (decide (ms[i]<ms[j])),.bl (ms[i]==ms[j])]]) HA.length=some [.bl (decide (ms[i]<ms[j])),.bl (ms[i]==ms[j])]:=by simp[getL]
 have w2:A4 [some (.ref st),some d1,some (.int n),some (.ref ir),some (.int w),some (.ref ip),some (.ref im),some (.int i),some (.int j),some (.ref H2.length)] HA=.nx [some (.ref st),some d1,some (.int n),some (.ref ir),some (.int w),some (.ref ip),some (.ref im),some (.int i),some (.int j),some (.ref (HA.length+1))] (HA++[.lst [.bl (decide (ms[i]<ms[j])),.bl (ms[i]==ms[j])]]++[.lst [.bl (r0==0),.bl (r1==0),.bl (decide (r2>0)),.bl (decide (ms[i]<ms[j])),.bl (ms[i]==ms[j])]]):=by simp[A4,aK,m2,aU,aA,aB,hmi,hmj,fH,wB,aC,lim,bL,kS,eA',eB,aF]
 have fB:Fr [] HA (HA++[.lst [.bl (decide (ms[i]<ms[j])),.bl (ms[i]==ms[j])]]++[.lst [.bl (r0==0),.bl (r1==0),.bl (decide (r2>0)),.bl (decide (ms[i]<ms[j])),.bl (ms[i]==ms[j])]]):=Fr.trans (T:=[]) Fr.app Fr.app (by simp);have eN:getL (HA++[.lst [.bl (decide (ms[i]<ms[j])),.bl (ms[i]==ms[j])]]++[.lst [.bl (r0==0),.bl (r1==0),.bl (decide (r2>0)),.bl (decide (ms[i]<ms[j])),.bl (ms[i]==ms[j])]]) (HA.length+1)=some [.bl (r0==0),.bl (r1==0),.bl (decide (r2>0)),.bl (decide (ms[i]<ms[j])),.bl (ms[i]==ms[j])]:=by simp[getL]
 have DB:=DA.fr fB (DA.s.fr fB (by simp)) (by simp) (by simp);have epB:=fB.getL epA (by simp);have fHB:=fHA.trans fB (by simp);generalize HA++[Ob.lst [.bl (decide (ms[i]<ms[j])),.bl (ms[i]==ms[j])]]++[Ob.lst [.bl (r0==0),.bl (r1==0),.bl (decide (r2>0)),.bl (decide (ms[i]<ms[j])),.bl (ms[i]==ms[j])]]=HB at w2 fB eN DB epB fHB;have near:∃b,aW (.ref (HA.length+1)) (.int w) HB=.ok (.bl b) HB:=by
  have hw':w=0∨w=1∨w=2∨w=3∨w=4:=by omega
  rcases hw' with rfl|rfl|rfl|rfl|rfl
  ·exact⟨_,by simp only[aW,eY,eR,eN];rfl⟩
  ·exact⟨_,by simp only[aW,eY,eR,eN];rfl⟩
  ·exact⟨_,by simp only[aW,eY,eR,eN];rfl⟩
  ·exact⟨_,by simp only[aW,eY,eR,eN];rfl⟩
  ·exact⟨_,by simp only[aW,eY,eR,eN];rfl⟩
 obtain⟨b,hb⟩:=near;have t:bH (m2 aW (aB 9) (aB 4)) [some (.ref st),some d1,some (.int n),some (.ref ir),some (.int w),some (.ref ip),some (.ref im),some (.int i),some (.int j),some (.ref (HA.length+1))] HB=.ok b HB:=by simp[bH,m2,aB,hb,eC]
 cases b with
 |false=>refine⟨some (.ref (HA.length+1)),HB,ps, ?_,epB,.inl rfl,DB,fHB.mono (by simp)⟩;unfold oB;rw[bO w1,bO w2,nK t];rfl
 |true=>
  have hyi:=nS DB.r (k:=i) (by omega);have hyj:=nS DB.r (k:=j) (by omega);have gi:ys[i]=ys.getD i 0:=by simp[show i<ys.length by omega]
  have gj:ys[j]=ys.getD j 0:=by simp[show j<ys.length by omega]
  rw[gi]at hyi;rw[gj]at hyj;generalize ys.getD i 0=va at hyi ⊢;generalize ys.getD j 0=vb at hyj ⊢;have hz:(ps.map aH).length<1000000:=by rw[bh];omega
  have fC:Fr [ip] HB (HB.set ip (.lst ((ps++[(va,vb)]).map aH))):=Fr.set;refine⟨some (.ref (HA.length+1)),HB.set ip (.lst ((ps++[(va,vb)]).map aH)),ps++[(va,vb)], ?_,nI epB,.inr rfl,DB.fr fC (DB.s.fr fC (by simpa using cz h3)) (by simpa using h4) (by simpa using h5),(fHB.mono (T:=[st,ip]) (by simp)).trans fC (by simp)⟩;unfold oB;rw[bO w1,bO w2,zC t];have isP':iK (.ref ip) HB=true:=by simp[iK,epB]
  have happ:oK (.ref ip) (.tup [.int (va),.int (vb)]) HB=.ok .non (HB.set ip (.lst ((ps++[(va,vb)]).map aH))):=by simp only[oK,epB,hz,if_true,jg];rfl
  simp[eU,nA,aB,isP',aJ,aA,m2,hyi,hyj,aC,lim,happ]
end
theorem A5 {m:Int}(h0:0<=m) (h:m<=100):kX m=true:=by
 have h1:(-4611686018427387904:Int)<=m:=by omega
 have h2:m<4611686018427387904:=by omega
 unfold kX;rw[decide_eq_true h1,decide_eq_true h2];rfl
theorem A6 {H:Hs}{j:Int}(h0:0<=j) (h1:j<=100):eI [.int j] H=.ok (eE 0 j) H:=by simp only[eI,A5 h0 h1,if_true]
theorem ZO {H:Hs}{i j:Int}(h0:0<=i) (h1:i<=100) (h2:0<=j) (h3:j<=100):mY [.int i,.int j] H=.ok (eE i j) H:=by simp only[mY,A5 h0 h1,A5 h2 h3,and_self,if_true]
def pF (ys:List Int) (n:Nat) (ps:List (Int×Int)):Prop:=∀p∈ps,∃i j,i<j/\j<n/\p=(ys.getD i 0,ys.getD j 0)
section
variable{st ir ip im n:Nat}{ys ms:List Int}{w:Int}{d1:Dv}
abbrev bN (st ir ip im n:Nat) (w:Int) (d1:Dv) (x7 x8 x9:Option Dv):Ev:=[some (.ref st),some d1,some (.int n),some (.ref ir),some (.int w),some (.ref ip),some (.ref im),x7,x8,x9]
def iD:MS:=gE (aQ mY (aA (m2 bL (aB 7) (mC (.int 1))) (aA (aB 2) aC))) (aF 8) oB
theorem kD {H:Hs}{x8 x9:Option Dv}{ps:List (Int×Int)}{i:Nat}(D:Std st ir im ys ms H) (ep:getL H ip=some (ps.map aH)) (hw:0<=w/\w<5) (hi:i<n) (hn:n<=6) (hy:ys.length=n) (hm:ms.length=n) (hl:ps.length<=500) (hb:pF ys n ps)
  (h1:ir≠st) (h2:im≠st) (h3:ip≠st) (h4:ir≠ip) (h5:im≠ip):
  ∃(x8' x9':Option Dv) (H':Hs) (ps':List (Int×Int)),iD (bN st ir ip im n w d1 (some (.int i)) x8 x9) H=.nx (bN st ir ip im n w d1 (some (.int i)) x8' x9') H'/\getL H' ip=some (ps'.map aH)/\pF ys n ps'/\ps'.length<=ps.length+6/\Std st ir im ys ms H'/\Fr [st,ip] H H':=by
 have hi0:aQ mY (aA (m2 bL (aB 7) (mC (.int 1))) (aA (aB 2) aC)) (bN st ir ip im n w d1 (some (.int i)) x8 x9) H=.ok (eE ((i:Int)+1) n) H:=by have q:aA (m2 bL (aB 7) (mC (.int 1))) (aA (aB 2) aC) (bN st ir ip im n w d1 (some (.int i)) x8 x9) H=.ok [.int ((i:Int)+1),.int n] H:=rfl;unfold aQ;rw[q,Rs.bind_ok];exact ZO (by omega) (by omega) (by omega) (by omega)
 have hN:(eE ((i:Int)+1) (n:Int)).n=n - (i+1):=by show((n:Int) - ((i:Int)+1)).toNat=_;omega
 obtain⟨ρ',H',r1,x8',x9',ps',e1,e2,e3,e4,e5,e6⟩:=uJ (b:=oB) (sg:=aF 8) hi0 (λk ρ H'=>∃(x8' x9':Option Dv) (ps':List (Int×Int)),ρ=bN st ir ip im n w d1 (some (.int i)) x8' x9'/\getL H' ip=some (ps'.map aH)/\pF ys n ps'/\ps'.length<=ps.length+k/\Std st ir im ys ms H'/\Fr [st,ip] H H')
  (λk ρ H' hk ⟨x8',x9',ps',e1,e2,e3,e4,e5,e6⟩=>by
   subst e1;rw[hN]at hk;have hj:i+1+k<n:=by omega
   obtain⟨x9n,H2,ps2,b1,b2,b3,b4,b5⟩:=kC (x9:=x9') (w:=w) (d1:=d1) (ip:=ip) (n:=n) (i:=i) (j:=i+1+k) e5 e2 hw hi hj hy hm (by omega) h1 h2 h3 h4 h5;have ej:(((i+1+k:Nat)):Int)=(i:Int)+1+(k:Int):=by omega
   rw[ej]at b1;refine⟨.int ((i:Int)+1+(k:Int)),bN st ir ip im n w d1 (some (.int i)) (some (.int ((i:Int)+1+(k:Int)))) x9',_,H2,rfl,rfl,b1,_,_,ps2,rfl,b2, ?_, ?_,b4,e6.trans b5 λj hj=>.inl hj⟩
   ·rcases b3 with rfl|rfl
    ·exact e3
    ·intro p hp
     rcases dy.mp hp with hp|hp
     ·exact e3 p hp
     ·rw[gq.mp hp];exact⟨i,i+1+k,by omega,hj,rfl⟩
   ·rcases b3 with rfl|rfl
    ·omega
    ·rw[bw];simp;omega) (λ_ _ _=>rfl) ⟨x8,x9,ps,rfl,ep,hb,by omega,D,Fr.refl⟩
 rw[hN]at e4;exact⟨x8',x9',H',ps',by unfold iD;rw[r1,e1],e2,e3,by omega,e5,e6⟩
def iP:MS:=gE (aQ eI (aA (aB 2) aC)) (aF 7) iD
theorem kE {H:Hs}{x7 x8 x9:Option Dv}(D:Std st ir im ys ms H) (ep:getL H ip=some (([]:List (Int×Int)).map aH)) (hw:0<=w/\w<5) (hn:n<=6) (hy:ys.length=n) (hm:ms.length=n)
  (h1:ir≠st) (h2:im≠st) (h3:ip≠st) (h4:ir≠ip) (h5:im≠ip):
  ∃(x7' x8' x9':Option Dv) (H':Hs) (ps':List (Int×Int)),iP (bN st ir ip im n w d1 x7 x8 x9) H=.nx (bN st ir ip im n w d1 x7' x8' x9') H'/\getL H' ip=some (ps'.map aH)/\pF ys n ps'/\Std st ir im ys ms H'/\Fr [st,ip] H H':=by
 have hi0:aQ eI (aA (aB 2) aC) (bN st ir ip im n w d1 x7 x8 x9) H=.ok (eE 0 n) H:=by have q:aA (aB 2) aC (bN st ir ip im n w d1 x7 x8 x9) H=.ok [.int n] H:=rfl;unfold aQ;rw[q,Rs.bind_ok];exact A6 (by omega) (by omega)
 have hN:(eE 0 (n:Int)).n=n:=by simp[eE]
 obtain⟨ρ',H',r1,x7',x8',x9',ps',e1,e2,e3,e4,e5,e6⟩:=uJ (b:=iD) (sg:=aF 7) hi0 (λk ρ H'=>∃(x7' x8' x9':Option Dv) (ps':List (Int×Int)),ρ=bN st ir ip im n w d1 x7' x8' x9'/\getL H' ip=some (ps'.map aH)/\pF ys n ps'/\ps'.length<=6*k/\Std st ir im ys ms H'/\Fr [st,ip] H H')
  (λk ρ H' hk ⟨x7',x8',x9',ps',e1,e2,e3,e4,e5,e6⟩=>by
   subst e1;rw[hN]at hk;obtain⟨x8n,x9n,H2,ps2,b1,b2,b3,b4,b5,b6⟩:=kD (x8:=x8') (x9:=x9') (w:=w) (d1:=d1) (ip:=ip) (n:=n) (i:=k) e5 e2 hw hk hn hy hm (by omega) e3 h1 h2 h3 h4 h5;have ek:(0:Int)+(k:Int)=(k:Int):=by omega
   refine⟨.int (0+(k:Int)),bN st ir ip im n w d1 (some (.int k)) x8' x9',_,H2,rfl,by rw[ek];rfl,b1,_,_,_,ps2,rfl,b2,b3,by omega,b5,e6.trans b6 λj hj=>.inl hj⟩) (λ_ _ _=>rfl) ⟨x7,x8,x9,[],rfl,ep,λp hp=>by simp at hp,by simp,D,Fr.refl⟩
 exact⟨x7',x8',x9',H',ps',by unfold iP;rw[r1,e1],e2,e3,e5,e6⟩
theorem ZP (pm:ys.Perm (gH n)) {ps:List (Int×Int)}(h:pF ys n ps):wC n ps:=by
 have hl:ys.length=n:=by rw[pm.length_eq];simp[gH]
 have nd:ys.Nodup:=by refine pm.nodup_iff.mpr ?_;unfold gH;simp only[fh];refine List.Pairwise.map _ ?_ (pb (n:=n));intro a b h e;exact h (by omega)
 have mem:∀i,i<n->0<=ys.getD i 0/\ys.getD i 0<n:=λi hi=>by have hm:ys.getD i 0∈gH n:=pm.mem_iff.mp (by simp[show i<ys.length by omega]);simp only[gH,dg,bx,fh]at hm;obtain⟨k,hk,e⟩:=hm;omega
 refine⟨λp hp=>?_,λa=>((rA a ys).getD 0:Nat),λp hp=>?_⟩
 ·obtain⟨i,j,hij,hj,rfl⟩:=h p hp;exact⟨(mem i (by omega)).1,(mem i (by omega)).2,(mem j hj).1,(mem j hj).2⟩
 ·obtain⟨i,j,hij,hj,rfl⟩:=h p hp;have hi':i<ys.length:=by omega
  have hj':j<ys.length:=by omega
  have e1:ys.getD i 0=ys[i]:=by simp[hi']
  have e2:ys.getD j 0=ys[j]:=by simp[hj']
  simp only[e1,e2,A2 nd i hi',A2 nd j hj',Option.getD_some];omega
def A7 (ms:List Int) (n:Nat) (ps:List (Int×Int)):Prop:=∀p∈ps,∃i j:Nat,i<n/\j<n/\ms.getD i 0<ms.getD j 0/\p=((i:Int),(j:Int))
theorem ZQ {ps:List (Int×Int)}(h:A7 ms n ps):wC n ps:=by
 refine⟨λp hp=>?_,λa=>ms.getD a.toNat 0,λp hp=>?_⟩
 ·obtain⟨i,j,hi,hj,_,rfl⟩:=h p hp;exact⟨by simp,by simpa using hi,by simp,by simpa using hj⟩
 ·obtain⟨i,j,hi,hj,hlt,rfl⟩:=h p hp;simpa using hlt
def wD:M (List Dv):=bT (aQ eI (aA (aB 2) aC)) [none,some 7,some 6] (aF 0) (mB (m2 fH (m2 aW (aB 2) (aB 1)) (m2 aW (aB 2) (aB 0)))) (bQ (aJ (aA (aB 1) (aA (aB 0) aC))))
def rY:MS:=aK (m2 bL (aB 5) (dQ wD)) (aF 5)
def fI (ms:List Int) (n i:Nat):List (Int×Int):=(bo n).filterMap λj=>if ms.getD i 0<ms.getD j 0 then some ((i:Int),(j:Int))else none
theorem ZR {H:Hs}{x8 x9:Option Dv}{i:Nat}(em:getL H im=some (ms.map Dv.int)) (hi:i<n) (hn:n<=6) (hm:ms.length=n):
  wD (bN st ir ip im n w d1 (some (.int i)) x8 x9) H=.ok ((fI ms n i).map aH) H:=by
 have hi0:aQ eI (aA (aB 2) aC) (bN st ir ip im n w d1 (some (.int i)) x8 x9) H=.ok (eE 0 n) H:=by have q:aA (aB 2) aC (bN st ir ip im n w d1 (some (.int i)) x8 x9) H=.ok [.int n] H:=rfl;unfold aQ;rw[q,Rs.bind_ok];exact A6 (by omega) (by omega)
 have h:wD (bN st ir ip im n w d1 (some (.int i)) x8 x9) H=.ok ((bo n).filterMap λj=>if ms.getD i 0<ms.getD j 0 then some (aH ((i:Int),(j:Int)))else none) H:=
  iC (bo n) (λj=>if ms.getD i 0<ms.getD j 0 then some (aH ((i:Int),(j:Int)))else none) (λρ=>∃a,ρ=[a,some (.int i),some (.ref im)]) hi0 (by simp[eE]) ⟨_,rfl⟩ rfl (λk hk ρ ⟨a,er⟩=>by
   subst er;have hk':k<n:=by simpa using hk
   have gk:(bo n)[k]=k:=by simp
   rw[gk];have ek:(0:Int)+(k:Int)=(k:Int):=by omega
   refine⟨.int (0+(k:Int)),[some (.int k),some (.int i),some (.ref im)],rfl,by rw[ek];rfl,⟨_,rfl⟩, ?_⟩;have x1:=nS em (k:=i) (by omega);have x2:=nS em (k:=k) (by omega);have g1:ms[i]=ms.getD i 0:=by simp[show i<ms.length by omega]
   have g2:ms[k]=ms.getD k 0:=by simp[show k<ms.length by omega]
   rw[g1]at x1;rw[g2]at x2;generalize ms.getD i 0=va at x1 ⊢;generalize ms.getD k 0=vb at x2 ⊢;have te:mB (m2 fH (m2 aW (aB 2) (aB 1)) (m2 aW (aB 2) (aB 0))) [some (.int k),some (.int i),some (.ref im)] H=.ok (decide (va<vb)) H:=by simp[mB,m2,aB,x1,x2,fH,fO]
   by_cases c:va<vb
   ·rw[if_pos c];rw[decide_eq_true c]at te;exact⟨te,rfl⟩
   ·rw[if_neg c];rw[decide_eq_false c]at te;exact te) (by simp;omega)
 have e:((bo n).filterMap λj=>if ms.getD i 0<ms.getD j 0 then some (aH ((i:Int),(j:Int)))else none)=(fI ms n i).map aH:=by
  unfold fI;rw[List.map_filterMap];refine II _ λj _=>?_
  split <;> rfl
 rw[h,e]
theorem ZS {H:Hs}{ip0:Nat}{x7 x8 x9:Option Dv}(D:Std st ir im ys ms H) (ep:getL H ip0=some (([]:List (Int×Int)).map aH)) (hn:n<=6) (hm:ms.length=n):
  ∃(ip':Nat) (x7':Option Dv) (H':Hs) (ps':List (Int×Int)),gE (aQ eI (aA (aB 2) aC)) (aF 7) rY (bN st ir ip0 im n w d1 x7 x8 x9) H=.nx (bN st ir ip' im n w d1 x7' x8 x9) H'/\getL H' ip'=some (ps'.map aH)/\A7 ms n ps'/\Fr [] H H':=by
 have hi0:aQ eI (aA (aB 2) aC) (bN st ir ip0 im n w d1 x7 x8 x9) H=.ok (eE 0 n) H:=by have q:aA (aB 2) aC (bN st ir ip0 im n w d1 x7 x8 x9) H=.ok [.int n] H:=rfl;unfold aQ;rw[q,Rs.bind_ok];exact A6 (by omega) (by omega)
 have hN:(eE 0 (n:Int)).n=n:=by simp[eE]
 obtain⟨ρ',H',r1,ip',x7',ps',e1,e2,e3,e4,e5⟩:=uJ (b:=rY) (sg:=aF 7) hi0 (λk ρ H'=>∃(ip':Nat) (x7':Option Dv) (ps':List (Int×Int)),ρ=bN st ir ip' im n w d1 x7' x8 x9/\getL H' ip'=some (ps'.map aH)/\A7 ms n ps'/\ps'.length<=6*k/\Fr [] H H')
  (λk ρ H' hk ⟨ip',x7',ps',e1,e2,e3,e4,e5⟩=>by
   subst e1;rw[hN]at hk;have em:=e5.getL D.m (by simp);have hc:=ZR (st:=st) (ir:=ir) (ip:=ip') (w:=w) (d1:=d1) (x8:=x8) (x9:=x9) em hk hn hm;have hrl:(fI ms n k).length<=6:=by have:=ki (λj=>if ms.getD k 0<ms.getD j 0 then some ((k:Int),(j:Int))else none) (bo n);unfold fI;rw[jw]at this;omega
   have ek:(0:Int)+(k:Int)=(k:Int):=by omega
   have ep1:=jV (l:=[Ob.lst ((fI ms n k).map aH)]) e2;have eq1:getL (H'++[Ob.lst ((fI ms n k).map aH)]) H'.length=some ((fI ms n k).map aH):=by simp[getL]
   have hz:(ps'.map aH).length+((fI ms n k).map aH).length<=1000000:=by rw[bh,bh];omega
   have hb:rY (bN st ir ip' im n w d1 (some (.int k)) x8 x9) H'=.nx (bN st ir (H'.length+1) im n w d1 (some (.int k)) x8 x9) (H'++[Ob.lst ((fI ms n k).map aH)]++[Ob.lst ((ps'++fI ms n k).map aH)]):=by
    have ha:bL (.ref ip') (.ref H'.length) (H'++[Ob.lst ((fI ms n k).map aH)])=.ok (.ref (H'.length+1)) (H'++[Ob.lst ((fI ms n k).map aH)]++[Ob.lst ((ps'++fI ms n k).map aH)]):=by show kS (.ref ip') (.ref H'.length) (H'++[Ob.lst ((fI ms n k).map aH)])=_;simp only[kS,ep1,eq1,lim,hz,if_true];simp
    have hal:dQ wD (bN st ir ip' im n w d1 (some (.int k)) x8 x9) H'=.ok (.ref H'.length) (H'++[Ob.lst ((fI ms n k).map aH)]):=by unfold dQ;rw[hc];rfl
    unfold rY aK m2;show((Rs.ok (Dv.ref ip') H').bind _).thenS _=_;rw[Rs.bind_ok,hal,Rs.bind_ok,ha];rfl
   refine⟨.int (0+(k:Int)),bN st ir ip' im n w d1 (some (.int k)) x8 x9,_,_,rfl,by rw[ek];rfl,hb,H'.length+1,_,ps'++fI ms n k,rfl,by simp[getL], ?_,by rw[bw];omega,e5.trans (Fr.trans (T:=[]) (Fr.app (S:=[])) Fr.app (by simp)) (by simp)⟩;intro p hp
   rcases dy.mp hp with hp|hp
   ·exact e3 p hp
   ·unfold fI at hp;obtain⟨j,hj,e⟩:=jc.mp hp
    split at e
    ·rename_i c;cases e;exact⟨k,j,hk,bx.mp hj,c,rfl⟩
    ·cases e) (λ_ _ _=>rfl) ⟨ip0,x7,[],rfl,ep,λp hp=>by simp at hp,by simp,Fr.refl⟩
 exact⟨ip',x7',H',ps',by rw[r1,e1],e2,e3,e5⟩
end
def o1:MS:=aK (m2 lB (aB 1) (m2 aW (aU (aA (mC (.int 0)) (aA (mC (.int 0)) (aA (mC (.int 1)) (aA (mC (.int 2)) (aA (mC (.int 0)) (aA (mC (.int 3)) (aA (mC (.int 1)) (aA (mC (.int 4)) aC))))))))) (aD F_qp (aA (aB 0) (aA (mC (.int 8)) aC))))) (aF 2)
def o2:MS:=aK (aD kT (aA (mC (.int 1)) (aA (aB 2) aC))) (aF 2)
def o3:MS:=aK (aD F_qb (aA (aB 0) (aA (aD (f1 oW) (aA (aB 2) aC)) aC))) (aF 3)
def o4:MS:=aK (aD F_qp (aA (aB 0) (aA (mC (.int 5)) aC))) (aF 4)
def o5:MS:=aK (aU aC) (aF 5)
def iQ:M (List Dv):=bT (cA gD (aB 3)) [none,some 0] (aF 0) cU (bQ (aD F_qp (aA (aB 1) (aA (mC (.int 3)) aC))))
def o6:MS:=aK (dQ iQ) (aF 6)
def o8:MS:=bD (mB (m2 bS (aB 4) (mC (.int 3)))) (aL (aK (aU aC) (aF 5)) (gE (aQ eI (aA (aB 2) aC)) (aF 7) rY)) bP
def o9:MS:=aO (aJ (aA (aB 2) (aA (aD (f1 kU) (aA (aD F_qf (aA (aB 5) aC)) aC)) aC)))
theorem kF:gR=aL o1 (aL o2 (aL o3 (aL o4 (aL o5 (aL o6 (aL iP (aL o8 o9))))))):=rfl
section
variable{st:Nat}
theorem kG {H:Hs}{m:Int}{x2 x3 x4 x5 x6 x7 x8 x9:Option Dv}(s:St st H):∃(v:Int) (H':Hs),0<=v/\v<=4/\o1 [some (.ref st),some (.int m),x2,x3,x4,x5,x6,x7,x8,x9] H=.nx [some (.ref st),some (.int m),some (.int (m - v)),x3,x4,x5,x6,x7,x8,x9] H'/\St st H'/\Fr [st] H H':=by
 have fA:Fr [] H (H++[Ob.lst [.int 0,.int 0,.int 1,.int 2,.int 0,.int 3,.int 1,.int 4]]):=Fr.app;have eA:getL (H++[Ob.lst [.int 0,.int 0,.int 1,.int 2,.int 0,.int 3,.int 1,.int 4]]) H.length=some (([0,0,1,2,0,3,1,4]:List Int).map Dv.int):=by simp[getL]
 have sA:=s.fr fA (by simp);have lt:=s.lt;have hd:aU (aA (mC (.int 0)) (aA (mC (.int 0)) (aA (mC (.int 1)) (aA (mC (.int 2)) (aA (mC (.int 0)) (aA (mC (.int 3)) (aA (mC (.int 1)) (aA (mC (.int 4)) aC)))))))) [some (.ref st),some (.int m),x2,x3,x4,x5,x6,x7,x8,x9] H=.ok (.ref H.length) (H++[Ob.lst [.int 0,.int 0,.int 1,.int 2,.int 0,.int 3,.int 1,.int 4]]):=rfl;generalize H++[Ob.lst [.int 0,.int 0,.int 1,.int 2,.int 0,.int 3,.int 1,.int 4]]=HA at fA eA sA hd;obtain⟨r,H1,r0,r1,t1,f1,s1⟩:=mJ 8 sA;have e1:=f1.getL eA (by simp;omega);obtain⟨k,rfl⟩:∃k:Nat,r=k:=⟨r.toNat,by omega⟩
 have hk:k<8:=by omega
 have hx:=nS e1 (k:=k) (by simpa using hk);have hv:0<=([0,0,1,2,0,3,1,4]:List Int)[k]/\([0,0,1,2,0,3,1,4]:List Int)[k]<=4:=by
  match k,hk with
  |0,_=>simp
  |1,_=>simp
  |2,_=>simp
  |3,_=>simp
  |4,_=>simp
  |5,_=>simp
  |6,_=>simp
  |7,_=>simp
 generalize ([0,0,1,2,0,3,1,4]:List Int)[k]=v at hx hv;refine⟨v,H1,hv.1,hv.2, ?_,s1,fA.mono (T:=[st]) (by simp) |>.trans f1 (by simp)⟩;have ht:aD F_qp (aA (aB 0) (aA (mC (.int 8)) aC)) [some (.ref st),some (.int m),x2,x3,x4,x5,x6,x7,x8,x9] HA=.ok (.int k) H1:=by simp[aD,aA,aB,mC,aC,t1]
 unfold o1 aK m2;show((Rs.ok (Dv.int m) H).bind _).thenS _=_;rw[Rs.bind_ok,hd,Rs.bind_ok,ht,Rs.bind_ok,hx,Rs.bind_ok];rfl
theorem kH {H:Hs}{ir:Nat}{ys:List Int}{x1 x2 x4 x5 x6 x7 x8 x9:Option Dv}(s:St st H) (er:getL H ir=some (ys.map Dv.int)) (hrs:ir≠st) (hl:ys.length<=100):∃(ms:List Int) (H':Hs),ms.length=ys.length/\o6 [some (.ref st),x1,x2,some (.ref ir),x4,x5,x6,x7,x8,x9] H=.nx [some (.ref st),x1,x2,some (.ref ir),x4,x5,some (.ref H'.length),x7,x8,x9] (H'++[.lst (ms.map Dv.int)])/\St st H'/\Fr [st] H H':=by
 have hi:cA gD (aB 3) [some (.ref st),x1,x2,some (.ref ir),x4,x5,x6,x7,x8,x9] H=.ok (fP ir ys.length) H:=by simp[cA,aB,gD,er]
 obtain⟨ρ',H',acc',h1,a,ms,h2,h3,h4,h5,h6⟩:=zD (src:=fP ir ys.length) (sg:=aF 0) (t:=cU) (m:=bQ (aD F_qp (aA (aB 1) (aA (mC (.int 3)) aC))))
  (λk ρ H' acc=>∃(a:Option Dv) (ms:List Int),ρ=[a,some (.ref st)]/\acc=ms.map Dv.int/\ms.length=k/\St st H'/\Fr [st] H H')
  (λk ρ H' acc hk ⟨a,ms,e1,e2,e3,e4,e5⟩=>by
   subst e1;subst e2;have hk':k<ys.length:=hk;obtain⟨r,H1,r0,r1,t1,f1,s1⟩:=mJ 3 e4;have er':=e5.getL er (by simpa using hrs);refine⟨.int ys[k],[some (.int ys[k]),some (.ref st)],JR er' hk',rfl,.inr ⟨H',[some (.int ys[k]),some (.ref st)],(ms++[r]).map Dv.int,H1,rfl, ?_,_,ms++[r],rfl,rfl,by simp[e3],s1,e5.trans f1 (by simp)⟩⟩;have hz:ms.length<1000000:=by omega
   simp[bQ,aD,aA,aB,mC,aC,t1,hz]) (λρ H' acc ⟨_,_,_,_,_,_,e5⟩=>JS (e5.getL er (by simpa using hrs))) ys.length 0 [none,some (.ref st)] H [] (by simp[fP]) ⟨none,[],rfl,rfl,rfl,s,Fr.refl⟩
 refine⟨ms,H',h4, ?_,h5,h6⟩;have hc:iQ [some (.ref st),x1,x2,some (.ref ir),x4,x5,x6,x7,x8,x9] H=.ok (ms.map Dv.int) H':=by unfold iQ bT;rw[hi,Rs.bind_ok];have hcap:jP [none,some 0] [some (.ref st),x1,x2,some (.ref ir),x4,x5,x6,x7,x8,x9]=[none,some (.ref st)]:=rfl;rw[hcap,show(fP ir ys.length).n=ys.length from rfl,h1];dsimp only;rw[h3]
 unfold o6 aK dQ;rw[hc];rfl
theorem kJ {H:Hs}(s:St st H):∃(n:Nat) (cs:List (Int×Int)) (H':Hs),F_qh [.ref st,.int 6] H=.ok (bM n cs) H'/\OrdP n cs/\St st H'/\Fr [st] H H':=by
 have lt:=s.lt;obtain⟨v,H1,v0,v1,w1,s1,f1'⟩:=kG (m:=6) (x2:=none) (x3:=none) (x4:=none) (x5:=none) (x6:=none) (x7:=none) (x8:=none) (x9:=none) s;obtain⟨n,hn⟩:∃n:Nat,(6:Int) - v=n:=⟨(6 - v).toNat,by omega⟩
 have n1:1<=n:=by omega
 have n6:n<=6:=by omega
 rw[hn]at w1;have w2:o2 [some (.ref st),some (.int 6),some (.int n),none,none,none,none,none,none,none] H1=.nx [some (.ref st),some (.int 6),some (.int n),none,none,none,none,none,none,none] H1:=by
  have hm:kT [.int 1,.int (n:Int)] H1=.ok (.int n) H1:=by
   show Rs.ok (Dv.int (if(n:Int)>1 then(n:Int)else 1)) H1=_
   split
   ·rfl
   ·rw[show(1:Int)=n by omega]
  simp[o2,aK,aD,aA,mC,aB,aC,hm,aF]
 have hL:oW (.int n) H1=.ok (.ref H1.length) (H1++[.lst ((gH n).map Dv.int)]):=by
  have c:(decide (0<=(n:Int))&&decide ((n:Int)<=1000))=true:=by simp;omega
  simp only[oW,c,if_true]
 have fL:Fr [] H1 (H1++[Ob.lst ((gH n).map Dv.int)]):=Fr.app;obtain⟨ir,ys,H2,t2,er,pm,hir,s2,f2⟩:=ZC (s1.fr fL (by simp)) (j:=H1.length) (xs:=gH n) (by simp[getL]) (by simp[gH];omega);have l1:=s1.lt;have hir':H1.length+1<=ir:=by simpa using hir
 have w3:o3 [some (.ref st),some (.int 6),some (.int n),none,none,none,none,none,none,none] H1=.nx [some (.ref st),some (.int 6),some (.int n),some (.ref ir),none,none,none,none,none,none] H2:=by simp[o3,aK,aD,aA,aB,aC,f1,hL,t2,aF]
 have hy:ys.length=n:=by rw[pm.length_eq];simp[gH]
 obtain⟨w,H3,w0,w5,t3,f3,s3⟩:=mJ 5 s2;have er3:=f3.getL er (by simp;omega);have w4:o4 [some (.ref st),some (.int 6),some (.int n),some (.ref ir),none,none,none,none,none,none] H2=.nx [some (.ref st),some (.int 6),some (.int n),some (.ref ir),some (.int w),none,none,none,none,none] H3:=by simp[o4,aK,aD,aA,aB,mC,aC,t3,aF]
 have w5':o5 [some (.ref st),some (.int 6),some (.int n),some (.ref ir),some (.int w),none,none,none,none,none] H3=.nx [some (.ref st),some (.int 6),some (.int n),some (.ref ir),some (.int w),some (.ref H3.length),none,none,none,none] (H3++[.lst []]):=rfl;have fM:Fr [] H3 (H3++[Ob.lst []]):=Fr.app;have eP:getL (H3++[Ob.lst []]) H3.length=some (([]:List (Int×Int)).map aH):=by simp[getL]
 have l2:=nJ er;have l3:=nJ er3;have l4:=s3.lt;obtain⟨ms,H4,hm,w6,s4,f4⟩:=kH (x1:=some (.int 6)) (x2:=some (.int n)) (x4:=some (.int w)) (x5:=some (.ref H3.length)) (x6:=none) (x7:=none) (x8:=none) (x9:=none) (s3.fr fM (by simp)) (fM.getL er3 (by simp)) (by omega) (by omega);have eP4:=f4.getL eP (by simp;omega);have er4:=f4.getL (fM.getL er3 (by simp)) (by simp;omega);have hle:H3.length+1<=H4.length:=by have:=f4.le;simpa using this
 have fN:Fr [] H4 (H4++[Ob.lst (ms.map Dv.int)]):=Fr.app;have D:Std st ir H4.length ys ms (H4++[Ob.lst (ms.map Dv.int)]):=⟨s4.fr fN (by simp),fN.getL er4 (by simp),by simp[getL]⟩
 obtain⟨x7,x8,x9,H5,ps,w7,eP5,hb,D5,f5⟩:=kE (d1:=.int 6) (w:=w) (ip:=H3.length) (n:=n) (x7:=none) (x8:=none) (x9:=none) D (fN.getL eP4 (by simp)) ⟨w0,w5⟩ n6 hy (by omega) (by omega) (by omega) (by omega) (by omega) (by omega);have fall:Fr [st] H H5:=by
  have g1:Fr [st] H H2:=(f1'.trans fL (by simp)).trans f2 (by simp);have g2:Fr [st] H (H3++[Ob.lst []]):=(g1.trans f3 (by simp)).trans fM (by simp);have g3:Fr [st] H (H4++[Ob.lst (ms.map Dv.int)]):=(g2.trans f4 (by simp)).trans fN (by simp);refine g3.trans f5 λj hj=>?_
  rcases bg.mp hj with rfl|hj
  ·exact .inl (by simp)
  ·rw[gq.mp hj];have:=f1'.le;have:=f2.le;have:=f3.le;right;omega
 have fin:∀(q:Nat) (y7:Option Dv) (H6:Hs) (qs:List (Int×Int)),getL H6 q=some (qs.map aH)->wC n qs->Fr [] H5 H6->o8 (bN st ir H3.length H4.length n w (.int 6) x7 x8 x9) H5=.nx (bN st ir q H4.length n w (.int 6) y7 x8 x9) H6->
   ∃(cs:List (Int×Int)) (H':Hs),F_qh [.ref st,.int 6] H=.ok (bM n cs) H'/\OrdP n cs/\St st H'/\Fr [st] H H':=λq y7 H6 qs eq6 g6 f6 w8=>by
  obtain⟨cs,j,H7,hc,tc,ec,f7⟩:=ZM n6 g6.1 (JX eq6);refine⟨cs,H7, ?_,ZN n1 n6 g6 hc,(D5.s.fr f6 (by simp)).fr f7 (by simp),(fall.trans f6 (by simp)).trans f7 (by simp)⟩;have w9:o9 (bN st ir q H4.length n w (.int 6) y7 x8 x9) H6=.rt (bM n cs) H7:=by
   have h1:aD F_qf (aA (aB 5) aC) (bN st ir q H4.length n w (.int 6) y7 x8 x9) H6=.ok (.ref j) H7:=by simp[aD,aA,aB,aC,tc]
   have h2:aD (f1 kU) (aA (aD F_qf (aA (aB 5) aC)) aC) (bN st ir q H4.length n w (.int 6) y7 x8 x9) H6=.ok (.tup (cs.map aH)) H7:=by
    have h0:aA (aD F_qf (aA (aB 5) aC)) aC (bN st ir q H4.length n w (.int 6) y7 x8 x9) H6=.ok [.ref j] H7:=by show(aD F_qf (aA (aB 5) aC) (bN st ir q H4.length n w (.int 6) y7 x8 x9) H6).bind _=_;rw[h1];rfl
    show(aA (aD F_qf (aA (aB 5) aC)) aC (bN st ir q H4.length n w (.int 6) y7 x8 x9) H6).bind _=_;rw[h0];simp[f1,kU,ec]
   unfold o9 aO aJ;rw[show aA (aB 2) (aA (aD (f1 kU) (aA (aD F_qf (aA (aB 5) aC)) aC)) aC) (bN st ir q H4.length n w (.int 6) y7 x8 x9) H6=.ok [.int n,.tup (cs.map aH)] H7 by unfold aA;show((Rs.ok (Dv.int n) H6).bind _)=_;rw[Rs.bind_ok];show((aD (f1 kU) (aA (aD F_qf (aA (aB 5) aC)) aC) (bN st ir q H4.length n w (.int 6) y7 x8 x9) H6).bind _).bind _=_;rw[h2];rfl];rfl
  show bG (gR [some (.ref st),some (.int 6),none,none,none,none,none,none,none,none] H)=_;rw[kF,bO w1,bO w2,bO w3,bO w4,bO w5',bO w6,bO w7,bO w8,w9];rfl
 have t8:mB (m2 bS (aB 4) (mC (.int 3))) (bN st ir H3.length H4.length n w (.int 6) x7 x8 x9) H5=.ok (w==3) H5:=by simp[mB,m2,aB,mC,wB,fO]
 by_cases h3:w=3
 ·have fQ:Fr [] H5 (H5++[Ob.lst []]):=Fr.app;obtain⟨q,y7,H6,qs,k1,k2,k3,k4⟩:=ZS (st:=st) (ir:=ir) (im:=H4.length) (n:=n) (w:=w) (d1:=.int 6) (ip0:=H5.length) (x7:=x7) (x8:=x8) (x9:=x9) (D5.fr fQ (D5.s.fr fQ (by simp)) (by simp) (by simp)) (by simp[getL]) n6 (by omega);obtain⟨cs,H',r⟩:=fin q y7 H6 qs k2 (ZQ k3) (fQ.trans k4 (by simp)) (by unfold o8;have wA:aK (aU aC) (aF 5) (bN st ir H3.length H4.length n w (.int 6) x7 x8 x9) H5=.nx (bN st ir H5.length H4.length n w (.int 6) x7 x8 x9) (H5++[Ob.lst []]):=rfl;rw[zC (t8.trans (by rw[h3];rfl)),bO wA,k1]);exact⟨n,cs,H',r⟩
 ·obtain⟨cs,H',r⟩:=fin H3.length x7 H5 ps eP5 (ZP pm hb) Fr.refl (by
   unfold o8;have:(w==3)=false:=by simpa using h3
   rw[nK (t8.trans (by rw[this]))];rfl)
  exact⟨n,cs,H',r⟩
end
end L2.Mr.Com
namespace L2
open PySem PySem.Spec PyProof.Rows
section
variable{X:Cx}{D:ah}
end
section
variable{X:Cx}
end
end L2
namespace L2.Mr
open PySem PySem.Spec PyProof.Rows
section
variable{M:xh}{A:cf}{E:af->ag->Prop}{s:ag}{base:ck}{env:Env}{outer:List Env}{L e T:ah}{C a0:af}{Q:Unit->ag->Prop}
end
section
variable{P:bf}{w:cg}{M:xh}{A:cf}{E:af->ag->Prop}{s:ag}{H H0:Hp}{base:ck}{env:Env}{outer:List Env}{L e:ah}{C:af}{Q:Unit->ag->Prop}
end
section
variable{P:bf}{w:cg}{K:ao}{mg:Str->Option af}{base:ck}{N:List Str}{qual:Str}{scope:gn}{f:ah}{cdv:af}{A:cf}{outer:List Env}{s0:ag}{H0:Hp}{E0:XK}{G:Cfg}{E:XK}{k:Nat}
end
section
variable{G:Cfg}
end
section
variable{X:Cx}{G:Cfg}{E:XK}{elt tg iter:bj}{ifs:List bj}{sc:gn}{ps pos:Pos}{mi:M Src}{st:cK}{test:M Bool}{me:M Dv}{N:List Str}{cap:List (Option Nat)}
end
section
variable{P:bf}{w:cg}{K:ao}{mg:Str->Option af}{base:ck}{N:List Str}{qual:Str}{f:ah}{G:Cfg}{k:Nat}
end
end L2.Mr
namespace L2.Mr.Cod
open PySem PySem.Spec PyProof.Rows L2 L2.Mr L2.Mr.Com
def rP:MS:=(bD (cJ (bH (aD F_qt (aA (aB 0) aC)))) (jR 0 (aA (mC (.str "this is no order")) aC)) bP)
def F_ql:List Dv->Hs->Rs Dv:=aS 1 1 (rP)
open L2.Mr.Com hiding gQ F_qf gR F_qh gS F_qa
section
variable{st n:Nat}
end
section
variable{n i:Nat}{H:Hs}{S:List (Int×Int)}{m a b:Int}{x0 x1 x3 x4 x5:Option Dv}
end
open L2.Mr.Com hiding gQ F_qf gR F_qh gS F_qa oB kC kD kE iD iP o1 o2 o3 o4 o5 o6 iQ o8 o9 kF kG kH kJ bN
section
variable{st ip im n:Nat}{ys ms:List Int}{w:Int}{d1:Dv}
end
section
variable{st:Nat}
end
end L2.Mr.Cod
namespace L2.Mr.K01
open PySem PySem.Spec PyProof.Rows L2 L2.Mr L2.Mr.Com
end L2.Mr.K01
namespace L2.Mr.Com
open PySem PySem.Spec PyProof.Rows L2 L2.Mr
def T0 (H:Hs):Dv->Prop
 | .ref i=>∃xs,getL H i=some xs
 | .exc _=>False
 | .scr=>False
 |_=>True
def TK:Nat->Hs->Dv->Prop
 |0,H,d=>T0 H d
 |k+1,H,d=>T0 H d/\∀ds,d=.tup ds->ds.length<=500/\∀x∈ds,TK k H x
theorem TK.t0:∀{k:Nat}{H:Hs}{d:Dv},TK k H d->T0 H d
 |0,_,_,h=>h
 |_+1,_,_,h=>h.1
theorem TK.tup {k:Nat}{H:Hs}{ds:List Dv}(hl:ds.length<=500) (h:∀x∈ds,TK k H x):TK (k+1) H (.tup ds):=⟨trivial,λ_ e=>by cases e;exact⟨hl,h⟩⟩
theorem TK.of {k:Nat}{H:Hs}{d:Dv}(h0:T0 H d) (h:∀ds,d≠.tup ds):TK k H d:=by
 cases k with
 |zero=>exact h0
 |succ k=>exact⟨h0,λds e=>absurd e (h ds)⟩
theorem T0.fr {st:Nat}{H H':Hs}{d:Dv}(h:T0 H d) (f:Fr [st] H H') (s:St st H'):T0 H' d:=by
 cases d with
 |ref i=>
  obtain⟨xs,e⟩:=h
  by_cases c:i=st
  ·subst c;obtain⟨a,b,e⟩:=s;exact⟨_,e⟩
  ·exact⟨xs,f.getL e (by simpa using c)⟩
 |_=>exact h
theorem TK.fr {st:Nat}{H H':Hs}(f:Fr [st] H H') (s:St st H'):∀{k:Nat}{d:Dv},TK k H d->TK k H' d
 |0,_,h=>T0.fr h f s
 |k+1,_,h=>⟨h.1.fr f s,λds e=>⟨(h.2 ds e).1,λx hx=>TK.fr f s ((h.2 ds e).2 x hx)⟩⟩
def nU:Dv->Bool
 | .tup _=>true
 |_=>false
def isInt:Dv->Bool
 | .int _=>true
 |_=>false
section
variable{H:Hs}{d:Dv}{n:Int}
theorem A8 (h:T0 H d):aV gN d H=.ok (.bl (nU d)) H:=by
 cases d with
 |ref i=>obtain⟨xs,e⟩:=h;simp[aV,gA,e,gN,nU]
 |exc c=>exact h.elim
 |scr=>exact h.elim
 |_=>rfl
theorem ZT (h:T0 H d):aV oR d H=.ok (.bl (match d with | .int _=>true | .bl _=>true|_=>false)) H:=by
 cases d with
 |ref i=>obtain⟨xs,e⟩:=h;simp[aV,gA,e,oR]
 |exc c=>exact h.elim
 |scr=>exact h.elim
 |_=>rfl
theorem ZU (h:T0 H d):aV jT d H=.ok (.bl (match d with | .bl _=>true|_=>false)) H:=by
 cases d with
 |ref i=>obtain⟨xs,e⟩:=h;simp[aV,gA,e,jT]
 |exc c=>exact h.elim
 |scr=>exact h.elim
 |_=>rfl
theorem ZV (h:T0 H d):F_qv [d] H=.ok (.bl (isInt d)) H:=by
 have e1:=ZT h;have e2:=ZU h
 cases d <;> simp[F_qv,zS,aS,bI,aO,dJ,m1,aB,e1,e2,oD,bG,isInt]
def rZ (lo hi:Int):Dv->Bool
 | .int x=>decide (lo<=x)&&decide (x<=hi)
 |_=>false
theorem J0 {lo hi:Int}(h:T0 H d):F_qk [d,.int lo,.int hi] H=.ok (.bl (rZ lo hi d)) H:=by
 have w:=ZV h
 cases d with
 |int x=>exact AY
 |_=>simp[F_qk,vA,aS,bI,aO,dJ,aD,aA,aB,aC,w,isInt,bG,rZ]
def tB (n:Int) (d:Dv):Bool:=rZ 0 (n - 1) d
theorem ZW (h:T0 H d):F_qu [.int n,d] H=.ok (.bl (tB n d)) H:=by simp[F_qu,zT,aS,bI,aO,aD,aA,aB,aC,mC,m2,lB,gX,J0 h,bG,tB]
def pG (n:Int):Dv->Bool
 | .tup ys=>ys.all (tB n)
 |_=>false
theorem ZX (h:TK 1 H d):F_qj [.int n,d] H=.ok (.bl (pG n d)) H:=by
 have e:=A8 h.1
 cases d with
 |tup xs=>obtain⟨hl,hx⟩:=h.2 xs rfl;have h:bT (cA eF (aB 1)) [none,some 0] (aF 0) cU (bQ (aD F_qu (aA (aB 1) (aA (aB 0) aC)))) [some (.int n),some (.tup xs)] H=.ok (xs.filterMap λx=>some (.bl (tB n x))) H:=iC xs (λx=>some (.bl (tB n x))) (λρ=>∃a,ρ=[a,some (.int n)]) rfl (by simp[cO]) ⟨_,rfl⟩ rfl (λk hk ρ ⟨a,e⟩=>by subst e;exact⟨xs[k],_,by simp[cO,hk],rfl,⟨_,rfl⟩,rfl,by simp[aD,aA,aB,aC,ZW (hx xs[k] (fy hk))]⟩) (by omega);simp[F_qj,vB,aS,bI,aO,dJ,m1,aV,aB,gA,gN,pA h,bG,pG]
 |_=>simp[F_qj,vB,aS,bI,aO,dJ,m1,aB,e,nU,bG,pG]
def pB (n:Int):Dv->Bool
 | .tup ys=>ys.all (tB n)&&decide (ys.length=2)
 |_=>false
theorem ZY (ys:List Dv):f1 fR [.tup ys] H=.ok (.int ys.length) H:=rfl
theorem ZZ (h:TK 1 H d):F_qw [.int n,d] H=.ok (.bl (pB n d)) H:=by
 have h1:=ZX (n:=n) h
 cases d with
 |tup ys=>
  cases q:ys.all (tB n)with
  |false=>simp[F_qw,oX,aS,bI,aO,dJ,aD,aA,aB,aC,h1,pG,pB,q,bG]
  |true=>
   have e:((ys.length:Int)==2)=decide (ys.length=2):=by rw[gz];simp;omega
   simp[F_qw,oX,aS,bI,aO,dJ,aD,aA,aB,aC,h1,pG,pB,q,bG,m2,ZY,mC,wB,e]
 |_=>simp[F_qw,oX,aS,bI,aO,dJ,aD,aA,aB,aC,h1,pG,pB,bG]
theorem Z0 {xs:List Dv}(h:TK 2 H (.tup xs)):F_qq [.int n,.tup xs] H=.ok (.bl (xs.all (pB n))) H:=by obtain⟨hl,hx⟩:=h.2 xs rfl;have h:bT (cA eF (aB 1)) [none,some 0] (aF 0) cU (bQ (aD F_qw (aA (aB 1) (aA (aB 0) aC)))) [some (.int n),some (.tup xs)] H=.ok (xs.filterMap λp=>some (.bl (pB n p))) H:=iC xs (λp=>some (.bl (pB n p))) (λρ=>∃a,ρ=[a,some (.int n)]) rfl (by simp[cO]) ⟨_,rfl⟩ rfl (λk hk ρ ⟨a,e⟩=>by subst e;exact⟨xs[k],_,by simp[cO,hk],rfl,⟨_,rfl⟩,rfl,by simp[aD,aA,aB,aC,ZZ (hx xs[k] (fy hk))]⟩) (by omega);simp[F_qq,zU,aS,bI,aO,pA h,bG]
def nV:Dv->Option (Int×Int)
 | .tup [.int a,.int b]=>some (a,b)
 |_=>none
theorem Z1 {x:Dv}(h:pB n x=true):∃p,x=aH p/\nV x=some p:=by
 match x,h with
 | .tup [.int a,.int b],_=>exact⟨(a,b),rfl,rfl⟩
 | .tup [a,b],h=>
  simp[pB]at h;obtain⟨h1,h2⟩:=h
  cases a <;> first|(cases h1;done)|skip
  cases b <;> first|(cases h2;done)|skip
  exact⟨_,rfl,rfl⟩
 | .tup [],h=>simp[pB]at h
 | .tup [_],h=>simp[pB]at h
 | .tup (_::_::_::_),h=>simp[pB]at h
theorem J1:∀{xs:List Dv},(∀x∈xs,∃p,x=aH p/\nV x=some p)->xs=(xs.filterMap nV).map aH
 | [],_=>rfl
 |x::xs,h=>by obtain⟨p,e,q⟩:=h x (by simp);rw[List.filterMap_cons_some q,da,<-J1 λy hy=>h y (by simp[hy]),<-e]
def fJ:Dv->Bool
 | .tup [.int n,.tup xs]=>xs.all (pB n)&&pC n (xs.filterMap nV)
 |_=>false
theorem gB {ds:List Dv}(h:ds.length≠2):∃L:Int,f1 fR [.tup ds] H=.ok (.int L) H/\bY (.int L) (.int 2) H=.ok (.bl true) H:=by
 refine⟨ds.length,rfl, ?_⟩;have:((ds.length:Int)==2)=false:=by simp;omega
 simp[bY,bR,bK,bA,this]
theorem A9 {ds:List Dv}(h:ds.length≠2):F_qt [.tup ds] H=.ok (.bl false) H:=by obtain⟨L,hlen,hne⟩:=gB (H:=H) h;have e:aV gN (.tup ds) H=.ok (.bl true) H:=rfl;simp[F_qt,nO,aS,bI,aL,bD,dY,cJ,bH,m1,aB,mB,m2,aD,aA,aC,mC,aO,e,eC,hlen,hne,fO,bG]
theorem BA {ds:List Dv}(h:ds.length≠2):fJ (.tup ds)=false:=by
 unfold fJ
 split
 ·rename_i e;cases e;simp at h
 ·rfl
theorem Z2 (h:TK 3 H d):F_qt [d] H=.ok (.bl (fJ d)) H:=by
 have e:=A8 h.1
 cases d with
 |tup ds=>
  obtain⟨hl,hx⟩:=h.2 ds rfl
  match ds,hl,hx,e,h with
  | [a,b],hl,hx,e,h=>
   have ha:=hx a (by simp);have hb:=hx b (by simp);have b1:=J0 (lo:=1) (hi:=6) ha.t0;have b2:=A8 hb.t0;have hlen:f1 fR [.tup [a,b]] H=.ok (.int 2) H:=rfl
   cases q1:rZ 1 6 a with
   |false=>
    rw[q1]at b1;have:fJ (.tup [a,b])=false:=by
     cases a with
     |int n=>
      cases b with
      |tup xs=>
       have:¬ (1<=n/\n<=6):=by simpa[rZ]using q1
       simp only[fJ,Bool.and_eq_false_iff];right;unfold pC
       by_cases c:1<=n
       ·have:¬ n<=6:=λc'=>this ⟨c,c'⟩;simp[this]
       ·simp[c]
      |_=>rfl
     |_=>rfl
    rw[this];simp[F_qt,nO,aS,bI,aL,bD,dY,cJ,bH,m1,aB,e,nU,eC,mB,m2,aD,aA,aC,hlen,mC,bY,bR,bK,bA,fO,bP,aK,cE,aX,aF,cL,b1,aO,bG]
   |true=>
    rw[q1]at b1
    cases a with
    |int n=>
     cases b with
     |tup xs=>
      have p1:=Z0 (n:=n) hb
      cases q2:xs.all (pB n)with
      |false=>rw[q2]at p1;simp[fJ,q2,F_qt,nO,aS,bI,aL,bD,dY,cJ,bH,m1,aB,e,b2,nU,eC,mB,m2,aD,aA,aC,hlen,mC,bY,bR,bK,bA,fO,bP,aK,cE,aX,aF,cL,b1,p1,aO,bG]
      |true=>
       have ex:=J1 λx hx=>Z1 (fw.mp q2 x hx);have hle:(xs.filterMap nV).length<=900:=by have:=ki nV xs;have:=(hb.2 xs rfl).1;omega
       have:=JN (H:=H) (n:=n) (ps:=xs.filterMap nV) hle;rw[<-ex]at this;rw[this];simp[fJ,q2]
     |_=>simp[fJ,F_qt,nO,aS,bI,aL,bD,dY,cJ,bH,m1,aB,e,b2,nU,eC,mB,m2,aD,aA,aC,hlen,mC,bY,bR,bK,bA,fO,bP,aK,cE,aX,aF,cL,b1,aO,bG]
    |_=>cases q1
  | [],hl,hx,e,h=>exact(A9 (by simp)).trans (by rw[BA (by simp)])
  | [a],hl,hx,e,h=>exact(A9 (by simp)).trans (by rw[BA (by simp)])
  |a::b::c::r,hl,hx,e,h=>exact(A9 (by simp)).trans (by rw[BA (by simp)])
 |_=>simp[F_qt,nO,aS,bI,aL,bD,dY,cJ,bH,m1,aB,e,nU,eC,mC,aO,bG,fJ]
end
section
variable{H:Hs}{d:Dv}{n:Int}
end
section
variable{H:Hs}{d:Dv}
end
theorem T0.fr0 {H H':Hs}{d:Dv}(h:T0 H d) (f:Fr [] H H'):T0 H' d:=by
 cases d with
 |ref i=>obtain⟨xs,e⟩:=h;exact⟨xs,f.getL e (by simp)⟩
 |_=>exact h
theorem TK.fr0 {H H':Hs}(f:Fr [] H H'):∀{k:Nat}{d:Dv},TK k H d->TK k H' d
 |0,_,h=>T0.fr0 h f
 |k+1,_,h=>⟨h.1.fr0 f,λds e=>⟨(h.2 ds e).1,λx hx=>TK.fr0 f ((h.2 ds e).2 x hx)⟩⟩
def J2 (P:Ev->Hs->Prop):Prop:=∀ρ H H',P ρ H->Fr [] H H'->P ρ H'
def Wr (P:Ev->Hs->Prop) (k:Nat) (m:M Dv):Prop:=∀ρ H,P ρ H->∃d H',m ρ H=.ok d H'/\Fr [] H H'/\TK k H' d
def kK (P:Ev->Hs->Prop) (k n:Nat) (ms:M (List Dv)):Prop:=∀ρ H,P ρ H->∃ds H',ms ρ H=.ok ds H'/\Fr [] H H'/\ds.length=n/\∀x∈ds,TK k H' x
section
variable{P:Ev->Hs->Prop}{k n m':Nat}{m:M Dv}{ms:M (List Dv)}
theorem BB:kK P k 0 aC:=λρ H _=>⟨[],H,rfl,Fr.refl,rfl,λx hx=>by cases hx⟩
theorem BC (hP:J2 P) (h:Wr P k m) (hs:kK P k n ms):kK P k (n+1) (aA m ms):=λρ H p=>by
 obtain⟨d,H1,e1,f1,t1⟩:=h ρ H p;obtain⟨ds,H2,e2,f2,l2,t2⟩:=hs ρ H1 (hP ρ H H1 p f1);refine⟨d::ds,H2, ?_,f1.trans f2 (by simp),by simp[l2],λx hx=>?_⟩
 ·unfold aA;rw[e1,Rs.bind_ok,e2,Rs.bind_ok]
 ·rcases bg.mp hx with rfl|hx
  ·exact t1.fr0 f2
  ·exact t2 x hx
theorem sC (h:∀ρ H,P ρ H->∃d,m ρ H=.ok d H/\TK k H d):Wr P k m:=λρ H p=>let ⟨d,e,t⟩:=h ρ H p;⟨d,H,e,Fr.refl,t⟩
theorem BD {i:Int}:Wr P k (mC (.int i)):=sC λρ H _=>⟨_,rfl,TK.of trivial λ_ e=>by cases e⟩
theorem BE {i:Bool}:Wr P k (mC (.bl i)):=sC λρ H _=>⟨_,rfl,TK.of trivial λ_ e=>by cases e⟩
theorem BF:Wr P k (mC .non):=sC λρ H _=>⟨_,rfl,TK.of trivial λ_ e=>by cases e⟩
theorem BG {s}:Wr P k (mC (.str s)):=sC λρ H _=>⟨_,rfl,TK.of trivial λ_ e=>by cases e⟩
theorem BH:Wr P k (mC .edc):=sC λρ H _=>⟨_,rfl,TK.of trivial λ_ e=>by cases e⟩
theorem wF (h:kK P k n ms) (hn:n<=500):Wr P (k+1) (aJ ms):=λρ H p=>by obtain⟨ds,H1,e1,f1,l1,t1⟩:=h ρ H p;refine⟨.tup ds,H1, ?_,f1,TK.tup (by omega) t1⟩;unfold aJ lim;rw[e1,Rs.bind_ok,if_pos (by omega)]
theorem BI (h:kK P 0 n ms) (hn:n<=500):Wr P 0 (aJ ms):=λρ H p=>let ⟨d,H',e,f,t⟩:=wF h hn ρ H p;⟨d,H',e,f,t.1⟩
theorem BJ (h:kK P 0 n ms) (hn:n<=500):Wr P k (aU ms):=λρ H p=>by obtain⟨ds,H1,e1,f1,l1,t1⟩:=h ρ H p;refine⟨.ref H1.length,H1++[.lst ds], ?_,f1.trans (T:=[]) Fr.app (by simp),TK.of ⟨ds,by simp[getL]⟩ λ_ e=>by cases e⟩;unfold aU lim;rw[e1,Rs.bind_ok,if_pos (by omega)]
end
def sD:M (List Dv):=(aA (mC .non) (aA (mC (.int 0)) (aA (aJ aC) (aA (aJ (aA (mC (.int 0)) (aA (aJ aC) aC))) (aA (aJ (aA (mC (.int 7)) (aA (aJ aC) aC))) (aA (aJ (aA (mC (.bl true)) (aA (aJ aC) aC))) (aA (aJ (aA (mC (.int 2)) (aA (aU aC) aC))) (aA (aU (aA (mC (.int 2)) (aA (aJ aC) aC))) (aA (aJ (aA (mC (.int 2)) (aA (aJ (aA (aJ (aA (mC (.int 0)) (aA (mC (.int 1)) aC))) (aA (aJ (aA (mC (.int 0)) (aA (mC (.int 1)) aC))) aC))) aC))) (aA (aJ (aA (mC (.int 2)) (aA (aJ (aA (aJ (aA (mC (.int 1)) (aA (mC (.int 0)) aC))) (aA (aJ (aA (mC (.int 0)) (aA (mC (.int 1)) aC))) aC))) aC))) aC))))))))))
def sE:M (List Dv):=(aA (aJ (aA (mC (.int 3)) (aA (aJ (aA (aJ (aA (mC (.int 0)) (aA (mC (.int 1)) aC))) (aA (aJ (aA (mC (.int 1)) (aA (mC (.int 2)) aC))) aC))) aC))) (aA (aJ (aA (mC (.int 2)) (aA (aJ (aA (aJ (aA (mC (.int 0)) (aA (mC (.int 0)) aC))) aC)) aC))) (aA (aJ (aA (mC (.int 2)) (aA (aJ (aA (aJ (aA (mC (.int 0)) (aA (mC (.int 2)) aC))) aC)) aC))) (aA (aJ (aA (mC (.int 2)) (aA (aJ (aA (aJ (aA (mC (.int 0)) (aA (mC (.bl true)) aC))) aC)) aC))) (aA (aJ (aA (mC (.int 2)) (aA (aJ (aA (aJ (aA (mC (.int 0)) (aA (mC (.int 1)) (aA (mC (.int 1)) aC)))) aC)) aC))) (aA (mC .edc) aC))))))
def sF:M (List Dv):=(aA (mC (.str "2:")) (aA (aJ (aA (mC (.int 2)) (aA (aJ (aA (mC (.int 0)) (aA (mC (.int 1)) aC))) aC))) (aA (aJ (aA (mC (.int 3)) (aA (aJ (aA (aJ (aA (mC (.int 0)) (aA (mC (.int 2)) aC))) (aA (aJ (aA (mC (.int 0)) (aA (mC (.int 1)) aC))) aC))) aC))) (aA (aJ (aA (mC (.int 2)) (aA (mC .non) aC))) (aA (aJ (aA (mC (.int 2)) (aA (aJ aC) (aA (aJ aC) aC)))) (aA (aJ (aA (mC (.int 2)) aC)) (aA (aJ (aA (mC (.int 2)) (aA (aJ (aA (aU (aA (mC (.int 0)) (aA (mC (.int 1)) aC))) aC)) aC))) (aA (aJ (aA (mC (.int 2)) (aA (aJ (aA (mC .non) aC)) aC))) aC))))))))
theorem Z3:gS=aL (aK (aU sD) (aF 1)) (aL (aK (m2 bL (aB 1) (aU sE)) (aF 1)) (aL (aK (m2 bL (aB 1) (aU sF)) (aF 1)) (aO (m2 aW (aB 1) (aD F_qp (aA (aB 0) (aA (mC (.int 24)) aC))))))):=rfl
theorem BK {ρ:Ev}{H H1 H2:Hs}{st i j:Nat}{ml:M Dv}(hv:aB st ρ H=.ok (.ref i) H) (e1:ml ρ H=.ok (.ref j) H1) (e2:bL (.ref i) (.ref j) H1=.ok (.ref H1.length) H2):m2 bL (aB st) ml ρ H=.ok (.ref H1.length) H2:=by unfold m2;rw[hv,Rs.bind_ok,e1,Rs.bind_ok,e2]
end L2.Mr.Com
namespace L2.Mr.Cod
open PySem PySem.Spec PyProof.Rows L2 L2.Mr
open L2.Mr.Com hiding gQ F_qf gR F_qh gS F_qa oB kC kD kE iD iP o1 o2 o3 o4 o5 o6 iQ o8 o9 kF kG kH kJ bN
section
variable{H:Hs}
theorem BL {n:Nat}{x:Int}:F_qo (n+1) [.int x,.int x] H=.ok (.bl true) H:=by simp[F_qo,rO,aS,bI,aL,bD,bH,m1,aV,aB,gA,oS,eC,bP,aO,dJ,m2,bS,bR,bK,bA,jT,bG]
theorem wG {n:Nat}{xs:List Dv}(hl:xs.length<=1000) (h:∀x∈xs,F_qo n [x,x] H=.ok (.bl true) H):F_qo (n+1) [.tup xs,.tup xs] H=.ok (.bl true) H:=by
 have hc:bT (aQ lV (aA (aB 0) (aA (aB 1) aC))) [none,none] (cE 2 (aX (aF 0) (aX (aF 1) cL))) cU (bQ (aD (F_qo n) (aA (aB 0) (aA (aB 1) aC)))) [some (.tup xs),some (.tup xs)] H=.ok (xs.filterMap λx=>some (.bl ((λ_=>true) x))) H:=iC xs (λx=>some (.bl ((λ_=>true) x))) (λρ=>∃a b,ρ=[a,b]) rfl (by simp[lU,cO]) ⟨_,_,rfl⟩ rfl (λk hk ρ ⟨a,b,e⟩=>by subst e;refine⟨.tup [xs[k],xs[k]],[some xs[k],some xs[k]],by simp[lU,cO,hk],rfl,⟨_,_,rfl⟩,rfl, ?_⟩;simp[aD,aA,aB,aC,h xs[k] (fy hk)]) (by omega);have hz:=pA hc;have ht:xs.all (λ_=>true)=true:=by simp
 rw[ht]at hz;have e1:aV oS (.tup xs) H=.ok (.bl true) H:=rfl;have e2:aV gN (.tup xs) H=.ok (.bl true) H:=rfl;have e3:aV qU (.tup xs) H=.ok (.bl false) H:=rfl;have e4:f1 fR [.tup xs] H=.ok (.int xs.length) H:=rfl;have n1:bY (.bl true) (.bl true) H=.ok (.bl false) H:=rfl;have n2:bY (.bl false) (.bl false) H=.ok (.bl false) H:=rfl;have n3:∀i:Int,bY (.int i) (.int i) H=.ok (.bl false) H:=λi=>by simp[bY,bR,bK,bA]
 simp[F_qo,rO,aS,bI,aL,bD,bH,m1,aB,e1,e2,e3,eC,dY,mB,m2,n1,n2,fO,bP,aD,aA,aC,e4,n3,aO,hz,bG]
theorem J3 {n:Nat}{xs:List Int}(hl:xs.length<=1000):F_qo (n+2) [.tup (xs.map Dv.int),.tup (xs.map Dv.int)] H=.ok (.bl true) H:=wG (by simpa using hl) λy hy=>by obtain⟨p,_,rfl⟩:=dg.mp hy;exact BL
theorem lJ {i j:Nat}{xs ys:List Dv}(e1:getL H i=some xs) (e2:getL H j=some ys) (hl:xs.length+ys.length<=500):bL (.ref i) (.ref j) H=.ok (.ref H.length) (H++[.lst (xs++ys)]):=by simp[bL,kS,e1,e2,lim];omega
theorem mK {i j:Nat}{ds:List Dv}(e:getL H i=some ds) (hj:j<ds.length):aW (.ref i) (.int j) H=.ok ds[j] H:=by
 have h1:dN ds.length (j:Int)=some j:=by unfold dN;rw[if_pos (by omega),if_pos (by omega)];simp
 have h2:dW ds (j:Int)=some ds[j]:=by unfold dW;rw[h1];simp[hj]
 simp only[aW,eY,eR,e,iX,h2,if_true]
theorem fU {x:List Dv}:getL (H++[.lst x]) H.length=some x:=by simp[getL]
end
section
variable{n m:Nat}{H H':Hs}{i j:Nat}
end
end L2.Mr.Cod
namespace L2.Mr
open PySem PySem.Spec PyProof.Rows L2
end L2.Mr
namespace L2.Mr.Cod
open PySem PySem.Spec PyProof.Rows L2 L2.Mr
open L2.Mr.Com hiding gQ F_qf gR F_qh gS F_qa oB kC kD kE iD iP o1 o2 o3 o4 o5 o6 iQ o8 o9 kF kG kH kJ bN
section
variable{n:Nat}{ps:List (Int×Int)}{i:Nat}
end
section
variable{n:Nat}{ps:List (Int×Int)}{r:Int}{fs:List Int}
end
section
variable{n:Nat}{ps:List (Int×Int)}{r:Int}{fs:List Int}
end
section
variable{n:Nat}{ps:List (Int×Int)}{r:Int}{H:Hs}
end
section
variable{n:Nat}{ps:List (Int×Int)}{r:Int}{H:Hs}{i j:Nat}{fs:List Int}{nd:List (Int×Int×Int)}
end
section
variable{n:Nat}{ps:List (Int×Int)}{r:Int}{H:Hs}{i j:Nat}{fs:List Int}{nd:List (Int×Int×Int)}{d:Dv}
theorem need_ok (o:OrdP n ps):F_ql [bM n ps] H=.ok .non H:=by simp[F_ql,rP,aS,bI,bD,cJ,bH,aD,aA,aB,aC,JO o,eC,bP,bG]
theorem need_bad (h:TK 3 H d) (hb:fJ d=false):F_ql [d] H=.ex 0 H:=by have e:=Z2 h;rw[hb]at e;simp[F_ql,rP,aS,bI,bD,cJ,bH,aD,aA,aB,aC,e,eC,jR,mC,bG]
end
end L2.Mr.Cod
namespace L2.Mr.Com
open PySem PySem.Spec PyProof.Rows L2 L2.Mr
section
variable{P:Ev->Hs->Prop}{l l':Nat}{m m':M Dv}
end
section
variable{st n:Nat}{cs:List (Int×Int)}{at_ a b:Int}
variable(o:OrdP n cs)
include o
end
end L2.Mr.Com
namespace L2.Mr.Gen
open PySem PySem.Spec PyProof.Rows L2 L2.Mr L2.Mr.Com
theorem BM {t u:M Bool}{ρ:Ev}{h h1:Hs}(e:t ρ h=.ok false h1):dY t u ρ h=u ρ h1:=by unfold dY;rw[e];rfl
section
variable{H:Hs}{xs:List Int}
theorem BN {m:M Dv}{ρ ρ1:Ev}{i:Nat}{H H':Hs}{v:Dv}(e:m ρ H=.ok v H') (hs:aF i v ρ=some ρ1):aK m (aF i) ρ H=.nx ρ1 H':=by simp[aK,e,hs]
theorem kL {f:Dv->Dv->Hs->Rs Dv}{ma mb:M Dv}{ρ:Ev}{H H1 H2 H3:Hs}{x y z:Dv}(ha:ma ρ H=.ok x H1) (hb:mb ρ H1=.ok y H2) (hf:f x y H2=.ok z H3):m2 f ma mb ρ H=.ok z H3:=by unfold m2;rw[ha,Rs.bind_ok,hb,Rs.bind_ok,hf]
end
end L2.Mr.Gen
namespace L2.Mr.K90
open PySem PySem.Spec PyProof.Rows L2 L2.Mr L2.Mr.Com L2.Mr.Gen
open L2.Mr.Cod (fU lJ mK)
def S (l:List Nat):Str:=⟨l.toArray⟩
theorem J4 (l m:List Nat):S l++S m=S (l++m):=by show(⟨l.toArray++m.toArray⟩:Str)=⟨(l++m).toArray⟩;simp
theorem lK (l:List Nat):(S l).length=l.length:=by show l.toArray.size=_;simp
theorem J5:mn=S []:=rfl
theorem Z4 {k:Int}(h0:0<=k) (h1:k<10):ie (toString k)=S [48+k.toNat]:=by
 have h:∀k:Fin 10,ie (toString ((k.val:Nat):Int))=S [48+k.val]:=by decide +kernel
 have:=h ⟨k.toNat,by omega⟩;have e:((k.toNat:Nat):Int)=k:=by omega
 rw[<-e];exact this
theorem Z5 {k:Nat}(h:k<10):xf "0123456789" (S [48+k])=k:=by
 have h':∀k:Fin 10,xf "0123456789" (S [48+k.val])=k.val:=by decide +kernel
 exact h' ⟨k,h⟩
theorem J6 (g:List Nat):∀(xs:List (List Nat)) (acc:List Nat),List.foldl (λ(acc:Array Nat) (p:Str)=>acc++(S g).cps++p.cps) acc.toArray (xs.map S)=(acc++xs.flatMap λp=>g++p).toArray
 | [],acc=>by simp
 |x::xs,acc=>by
  have ih:=J6 g xs (acc++g++x);rw[da,List.foldl_cons];have e:acc.toArray++(S g).cps++(S x).cps=(acc++g++x).toArray:=by simp[S]
  rw[e,ih];simp
theorem J7 (g x:List Nat) (xs:List (List Nat)):sj (S g) ((x::xs).map S)=S (x++xs.flatMap λp=>g++p):=by have:=J6 g xs x;show(⟨_⟩:Str)=⟨_⟩;exact congrArg Str.mk this
def bW (q:Int×Int):List Nat:=[48+q.1.toNat,60,48+q.2.toNat]
def tx (n:Nat) (ps:List (Int×Int)):List Nat:=[48+n,58]++ps.flatMap λq=>32::bW q
theorem J8 (ps:List (Int×Int)):(ps.flatMap λq=>32::bW q).length=4*ps.length:=by
 induction ps with
 |nil=>rfl
 |cons q ps ih=>rw[gw,bw,ih];simp[bW];omega
theorem wH (n:Nat) (ps:List (Int×Int)):(tx n ps).length=4*ps.length+2:=by unfold tx;rw[bw,J8];simp;omega
theorem J9 (j:Nat) (hj:j<4):∀(ps:List (Int×Int)) (k:Nat) (hk:k<ps.length),(ps.flatMap λq=>32::bW q)[4*k+j]?=(32::bW ps[k])[j]?
 | [],k,hk=>nomatch hk
 |q::ps,0,hk=>by rw[gw,dh (by simp[bW];omega)];simp
 |q::ps,k+1,hk=>by
  have ih:=J9 j hj ps k (by simpa using hk);rw[gw,dk (by simp[bW];omega)];have e:4*(k+1)+j - (32::bW q).length=4*k+j:=by simp[bW];omega
  rw[e,ih];simp
theorem KC {n:Nat}{ps:List (Int×Int)}{k j:Nat}(hj:j<4) (hk:k<ps.length):(tx n ps)[2+4*k+j]?=(32::bW ps[k])[j]?:=by
 unfold tx;rw[dk (by simp;omega),<-J9 j hj ps k hk]
 congr 1
 simp;omega
open L2.Mr.Cod (fU lJ mK)
theorem KD:(":" : Str)=S [58]:=by decide +kernel
theorem KG:(" " : Str)=S [32]:=by decide +kernel
theorem KH:("<" : Str)=S [60]:=by decide +kernel
theorem Z6:("" : Str)=S []:=by decide +kernel
section
variable{n:Nat}{ps:List (Int×Int)}{H:Hs}{ρ:Ev}
theorem KI {k:Int}(h0:0<=k) (h1:k<10):dD (.int k) H=.ok (.str (S [48+k.toNat])) H:=by
 have h:∀k:Fin 10,(k.val).log2<1920:=by decide +kernel
 have hl:k.natAbs.log2<1920:=by have:=h ⟨k.natAbs,by omega⟩;exact this
 show(if k.natAbs.log2<1920 then _ else _)=_;rw[if_pos hl,Z4 h0 h1]
theorem pH {m:M Dv}{ms:List (M Dv)}{l z:List Nat}(e:m ρ H=.ok (.str (S z)) H) (hl:l.length+z.length<=1000):hZ (m::ms) (S l) ρ H=hZ ms (S (l++z)) ρ H:=by
 have h2:(S l).length+(S z).length<=1000000:=by rw[lK,lK];omega
 show(m ρ H).bind _=_;rw[e,Rs.bind_ok];show(if(S l).length+(S z).length<=1000000 then _ else _)=_;rw[if_pos h2,J4]
theorem KJ {l:List Nat}(hl:l.length<=1000):hZ [] (S l) ρ H=.ok (.str (S l)) H:=by
 have h2:(S l).length<=1000000:=by rw[lK];omega
 show lim (S l).length _=_;unfold lim;rw[if_pos h2]
theorem BO {m:M Dv}{k:Int}(e:m ρ H=.ok (.int k) H) (h0:0<=k) (h1:k<10):m1 dD m ρ H=.ok (.str (S [48+k.toNat])) H:=by unfold m1;rw[e,Rs.bind_ok,KI h0 h1]
theorem wI {l m:List Nat}(hl:l.length+m.length<=1000):fT (.str (S l)) (.str (S m)) H=.ok (.str (S (l++m))) H:=by
 have h2:(S l).length+(S m).length<=1000000:=by rw[lK,lK];omega
 show lim ((S l).length+(S m).length) _=_;unfold lim;rw[if_pos h2,J4]
theorem Z7 (xs:List (List Nat)):bB mH (xs.map λl=>Dv.str (S l))=some (xs.map S):=by
 induction xs with
 |nil=>rfl
 |cons x xs ih=>simp only[da,bB,mH,ih]
theorem KL {g:List Nat}{i:Nat}{xs:List (List Nat)}(e:getL H i=some (xs.map λl=>Dv.str (S l))) (hs:(xs.map ka).sum+xs.length*g.length<=16777216):lG (.str (S g)) (.ref i) H=.ok (.str (sj (S g) (xs.map S))) H:=by
 have h2:((xs.map S).map λx=>x.length).sum+(xs.map S).length*(S g).length<=16777216:=by
  have:(xs.map S).map (λx=>x.length)=xs.map ka:=by rw[nj];exact zj λx _=>lK x
  rw[this,bh,lK];exact hs
 simp only[lG,e,Z7,h2,if_true]
theorem Z8 (xs:List (List Nat)):sj (S []) (xs.map S)=S xs.flatten:=by
 cases xs with
 |nil=>rfl
 |cons x xs=>rw[J7];simp[List.flatMap,List.flatten_cons]
theorem BP {f:Dv->Dv->Hs->Rs Dv}{mo me:M Dv}{z:Str}{y v:Dv}{H1 H2 H3:Hs}(e1:mo ρ H=.ok (.str z) H1) (e2:me ρ H1=.ok y H2) (e3:f (.str z) y H2=.ok v H3):eK f mo me ρ H=.ok v H3:=by unfold eK;rw[e1,Rs.bind_ok];show(me ρ H1).bind _=_;rw[e2,Rs.bind_ok,e3]
theorem KN (c:Nat):∀(xs:List (List Nat)),(∀x∈xs,x.length<=c)->(xs.map ka).sum<=xs.length*c
 | [],_=>by simp
 |x::xs,h=>by have:=KN c xs λy hy=>h y (aw _ hy);have hx:=h x (ba ..);rw[da,List.sum_cons,cp,Nat.add_mul];omega
def BQ:M Dv:=hZ [(m1 dD (aB 1)),(mC (.str ":"))] mn
def sG:M (List Dv):=bT (cA eF (aB 2)) [none,none] (cE 2 (aX (aF 0) (aX (aF 1) cL))) cU (bQ (hZ [(mC (.str " ")),(m1 dD (aB 0)),(mC (.str "<")),(m1 dD (aB 1))] mn))
theorem Z9:vG=aL (eU (aD F_ql (aA (aB 0) aC))) (aL (aK (aB 0) (cE 2 (aX (aF 1) (aX (aF 2) cL)))) (aO (m2 fT BQ (eK lG (mC (.str "")) (dQ sG))))):=rfl
theorem a9 (h1:aB 1 ρ=λH=>.ok (.int n) H) (hn:n<=6):BQ ρ H=.ok (.str (S [48+n,58])) H:=by
 have e1:=BO (ρ:=ρ) (H:=H) (m:=aB 1) (k:=(n:Int)) (by rw[h1]) (by omega) (by omega);have e2:mC (.str ":") ρ H=.ok (.str (S [58])) H:=by rw[KD];rfl
 unfold BQ;rw[J5,pH e1 (by simp),pH e2 (by simp),KJ (by simp)];simp
theorem b9 {q:Int×Int}(r:0<=q.1/\q.1<n/\0<=q.2/\q.2<n) (hn:n<=6):hZ [(mC (.str " ")),(m1 dD (aB 0)),(mC (.str "<")),(m1 dD (aB 1))] mn [some (.int q.1),some (.int q.2)] H=.ok (.str (S (32::bW q))) H:=by
 have e0:mC (.str " ") [some (.int q.1),some (.int q.2)] H=.ok (.str (S [32])) H:=by rw[KG];rfl
 have e1:=BO (ρ:=[some (.int q.1),some (.int q.2)]) (H:=H) (m:=aB 0) (k:=q.1) rfl (by omega) (by omega);have e2:mC (.str "<") [some (.int q.1),some (.int q.2)] H=.ok (.str (S [60])) H:=by rw[KH];rfl
 have e3:=BO (ρ:=[some (.int q.1),some (.int q.2)]) (H:=H) (m:=aB 1) (k:=q.2) rfl (by omega) (by omega);rw[J5,pH e0 (by simp),pH e1 (by simp),pH e2 (by simp),pH e3 (by simp),KJ (by simp)];simp[bW]
theorem c7 (o:OrdP n ps) {x0 x1:Option Dv}:sG [x0,x1,some (.tup (ps.map aH))] H=.ok ((ps.map λq=>32::bW q).map λl=>Dv.str (S l)) H:=by have w:sG [x0,x1,some (.tup (ps.map aH))] H=.ok (ps.filterMap λq=>some (Dv.str (S (32::bW q)))) H:=iC ps _ (λρ=>∃a b,ρ=[a,b]) (src:=cO (ps.map aH)) rfl (by simp[cO]) ⟨_,_,rfl⟩ rfl (λk hk ρ ⟨a,b,e⟩=>by subst e;exact⟨aH ps[k],[some (.int ps[k].1),some (.int ps[k].2)],by simp[cO,hk],rfl,⟨_,_,rfl⟩,rfl,b9 (o.rng _ (fy hk)) o.n6⟩) (by have:=o.len;omega);rw[w];simp[pw]
end
def rq (a b c:Nat):List Dv:=[.bl (a==c),.bl (a+1==c),.bl (a+2==c)].take b
def rs1:M (List Dv):=(aA (m1 (aV (cZ none tbl0)) (aB 1)) (aA (m1 (aV (cZ none tbl1)) (aB 1)) (aA (m1 (aV (cZ none tbl2)) (aB 1)) aC)))
def rs2:M (List Dv):=(aA (m1 (aV (cZ none tbl3)) (aB 1)) (aA (m1 (aV (cZ none tbl4)) (aB 1)) (aA (m1 (aV (cZ none tbl5)) (aB 1)) aC)))
def rs3:M (List Dv):=(aA (m1 (aV (cZ none tbl6)) (aB 1)) (aA (m1 (aV (cZ none tbl7)) (aB 1)) (aA (m1 (aV (cZ none tbl8)) (aB 1)) aC)))
def mM:M (List Dv):=(aA (m1 (aV (cZ none tbl9)) (aB 1)) (aA (m1 (aV (cZ none tbl10)) (aB 1)) aC))
def wJ:M (List Dv):=bT (aQ eI (aA (mC (.int 11)) aC)) [none,some 3] (aF 0) (bH (m2 aW (aB 1) (aB 0))) (bQ (aB 0))
def KO:MS:=bD (cJ (bH (m1 (aV (cZ none tblV)) (aB 1)))) (aO (mC .non)) bP
theorem c8:jZ=aL (aK (aU rs1) (aF 3)) (aL (aK (m2 bL (aB 3) (aU rs2)) (aF 3)) (aL (aK (m2 bL (aB 3) (aU rs3)) (aF 3)) (aL (aK (m2 bL (aB 3) (aU mM)) (aF 3)) (aL KO (aO (dQ wJ)))))):=rfl
section
variable{c:Nat}(hc:c=0∨c=8) {H:Hs}{x0 x2 x3:Option Dv}
include hc
theorem c9:aU rs1 [x0,some (.exc c),x2,x3] H=.ok (.ref H.length) (H++[.lst (rq 0 3 c)]):=by rcases hc with rfl|rfl <;> rfl
theorem d3:aU rs2 [x0,some (.exc c),x2,x3] H=.ok (.ref H.length) (H++[.lst (rq 3 3 c)]):=by rcases hc with rfl|rfl <;> rfl
theorem d4:aU rs3 [x0,some (.exc c),x2,x3] H=.ok (.ref H.length) (H++[.lst (rq 6 3 c)]):=by rcases hc with rfl|rfl <;> rfl
theorem d6:aU mM [x0,some (.exc c),x2,x3] H=.ok (.ref H.length) (H++[.lst (rq 9 2 c)]):=by rcases hc with rfl|rfl <;> rfl
theorem d7:KO [x0,some (.exc c),x2,x3] H=.nx [x0,some (.exc c),x2,x3] H:=by rcases hc with rfl|rfl <;> rfl
theorem d8 {i:Nat}(e:getL H i=some ((bo 11).map λk=>Dv.bl (k==c))):wJ [x0,some (.exc c),x2,some (.ref i)] H=.ok [.int c] H:=by
 have h:wJ [x0,some (.exc c),x2,some (.ref i)] H=.ok ((bo 11).filterMap λk=>if k==c then some (.int k)else none) H:=
  iC (bo 11) (λk=>if k==c then some (.int (k:Nat))else none) (λρ=>∃a,ρ=[a,some (.ref i)]) (src:=eE 0 11) rfl rfl ⟨_,rfl⟩ rfl (λk hk ρ ⟨a,e'⟩=>by
   subst e';have hk':k<11:=by simpa using hk
   refine⟨.int (0+k),[some (.int (0+k)),some (.ref i)],rfl,rfl,⟨_,rfl⟩, ?_⟩;have ht:=mK (H:=H) (j:=k) e (by simpa using hk');rw[List.getElem_map,List.getElem_range]at ht;have h0:(0+(k:Int))=(k:Int):=by omega
   rw[h0,List.getElem_range]
   cases q:k==c with
   |true=>simp[bH,m2,aB,ht,q,eC]
   |false=>simp[bH,m2,aB,ht,q,eC]) (by simp)
 rw[h]
 rcases hc with rfl|rfl <;> rfl
theorem d9:∃i H',qO 4 11 jZ (.ex c H)=.ok (.ref i) H'/\getL H' i=some [.int c]/\Fr [] H H':=by
 obtain⟨H1,hH1⟩:∃H1,H1=H++[Ob.lst (rq 0 3 c)]:=⟨_,rfl⟩
 have g1:getL H1 H.length=some (rq 0 3 c):=by rw[hH1];exact fU
 have f1:Fr [] H H1:=by rw[hH1];exact Fr.app
 have w1:∀x0 x2 x3,aK (aU rs1) (aF 3) [x0,some (.exc c),x2,x3] H=.nx [x0,some (.exc c),x2,some (.ref H.length)] H1:=λx0 x2 x3=>by unfold aK;rw[c9 hc,hH1];rfl
 have step:∀(G0:Hs) (i:Nat) (xs ys:List Dv) (m:M (List Dv)),getL G0 i=some xs->(∀x0 x2 x3 (G:Hs),aU m [x0,some (.exc c),x2,x3] G=.ok (.ref G.length) (G++[.lst ys]))->xs.length+ys.length<=500->
   ∃G' j,(∀x0 x2,aK (m2 bL (aB 3) (aU m)) (aF 3) [x0,some (.exc c),x2,some (.ref i)] G0=.nx [x0,some (.exc c),x2,some (.ref j)] G')/\getL G' j=some (xs++ys)/\Fr [] G0 G':=by
  intro G0 i xs ys m e hm hl;refine⟨_,_,λx0 x2=>?_,fU (H:=G0++[.lst ys]) (x:=xs++ys),Fr.trans (T:=[]) Fr.app Fr.app (by simp)⟩;have a:=lJ (H:=G0++[.lst ys]) (jV e) (fU (H:=G0) (x:=ys)) hl;unfold aK;rw[BK rfl (hm _ _ _ _) a];rfl
 obtain⟨H2,i2,w2,g2,f2⟩:=step H1 H.length (rq 0 3 c) (rq 3 3 c) rs2 g1 (λ_ _ _ _=>d3 hc) (by simp[rq]);obtain⟨H3,i3,w3,g3,f3⟩:=step H2 i2 _ (rq 6 3 c) rs3 g2 (λ_ _ _ _=>d4 hc) (by simp[rq]);obtain⟨H4,i4,w4,g4,f4⟩:=step H3 i3 _ (rq 9 2 c) mM g3 (λ_ _ _ _=>d6 hc) (by simp[rq]);have g5':getL H4 i4=some ((bo 11).map λk=>Dv.bl (k==c)):=by rw[g4];rfl
 refine⟨H4.length,H4++[.lst [.int c]], ?_,fU,((f1.trans f2 (by simp)).trans f3 (by simp)).trans (T:=[]) (f4.trans (T:=[]) Fr.app (by simp)) (by simp)⟩;have hlt:c<11:=by omega
 show(if c<11 then qN (jZ (lW 4 (.exc c)) H)else .bad)=_;rw[if_pos hlt,c8];show qN (aL _ _ [none,some (.exc c),none,none] H)=_;rw[bO (w1 _ _ _),bO (w2 _ _),bO (w3 _ _),bO (w4 _ _),bO (d7 hc)];have hr:dQ wJ [none,some (.exc c),none,some (.ref i4)] H4=.ok (.ref H4.length) (H4++[.lst [.int c]]):=by unfold dQ;rw[d8 hc g5'];rfl
 unfold aO;rw[hr];rfl
theorem h8 {caps:List Nat}{vs:List Dv}{me:M Dv}{ρ:Ev}{H0:Hs}(hρ:nC caps ρ=some vs) (hm:me (vs.map some) H0=.ex c H) (f0:Fr [] H0 H):
  ∃H',mB (m2 bY (lX caps 4 11 jZ me) (aU (aA (mC (.int c)) aC))) ρ H0=.ok false H'/\Fr [] H0 H':=by
 obtain⟨i,H1,e1,g1,f1⟩:=d9 hc (H:=H);refine⟨H1++[.lst [.int c]], ?_,f0.trans (f1.trans (T:=[]) Fr.app (by simp)) (by simp)⟩;have a:lX caps 4 11 jZ me ρ H0=.ok (.ref i) H1:=by unfold lX;rw[hρ];show qO 4 11 jZ (me (vs.map some) H0)=_;rw[hm,e1]
 have b:aU (aA (mC (.int c)) aC) ρ H1=.ok (.ref H1.length) (H1++[.lst [.int c]]):=rfl;have d:bY (.ref i) (.ref H1.length) (H1++[.lst [.int c]])=.ok (.bl false) (H1++[.lst [.int c]]):=by have q1:=jV (l:=[.lst [.int c]]) g1;have q2:=fU (H:=H1) (x:=[.int c]);simp[bY,bR,bK,q1,q2,bB,bA,fW]
 unfold mB m2;rw[a,Rs.bind_ok,b,Rs.bind_ok,d];rfl
end
theorem h9 {ρ:Ev}{H H':Hs}{ds:List Dv}(e:sD ρ H=.ok ds H'):∀x∈ds,fJ x=false:=by
 have e2:Rs.ok _ _=Rs.ok ds H':=e;injection e2 with e3 e4;subst e3
 repeat' (first|exact qp _|refine qi.mpr ⟨rfl, ?_⟩)
theorem i0 {ρ:Ev}{H H':Hs}{ds:List Dv}(e:sE ρ H=.ok ds H'):∀x∈ds,fJ x=false:=by
 have e2:Rs.ok _ _=Rs.ok ds H':=e;injection e2 with e3 e4;subst e3
 repeat' (first|exact qp _|refine qi.mpr ⟨rfl, ?_⟩)
theorem i5 {ρ:Ev}{H H':Hs}{ds:List Dv}(e:sF ρ H=.ok ds H'):∀x∈ds,fJ x=false:=by
 have e2:Rs.ok _ _=Rs.ok ds H':=e;injection e2 with e3 e4;subst e3
 repeat' (first|exact qp _|refine qi.mpr ⟨rfl, ?_⟩)
def MnB (n:Nat) (H:Hs) (i:Nat):Prop:=∃ds,getL H i=some ds/\ds.length=n/\(∀x∈ds,TK 3 H x)/\∀x∈ds,fJ x=false
section
variable{n m:Nat}{H H':Hs}{i j:Nat}
theorem MnB.fr0 (h:MnB n H i) (f:Fr [] H H'):MnB n H' i:=by obtain⟨ds,e,l,t,b⟩:=h;exact⟨ds,f.getL e (by simp),l,λx hx=>(t x hx).fr0 f,b⟩
theorem MnB.fr {st:Nat}(h:MnB n H i) (f:Fr [st] H H') (s:Com.St st H') (hi:i≠st):MnB n H' i:=by obtain⟨ds,e,l,t,b⟩:=h;exact⟨ds,f.getL e (by simpa using hi),l,λx hx=>(t x hx).fr f s,b⟩
theorem BR {ms:M (List Dv)}{ρ:Ev}(h:kK (λ_ _=>True) 3 n ms) (hb:∀{ρ:Ev}{H H':Hs}{ds:List Dv},ms ρ H=.ok ds H'->∀x∈ds,fJ x=false) (hn:n<=500):∃i H',aU ms ρ H=.ok (.ref i) H'/\MnB n H' i/\Fr [] H H'/\H.length<=i:=by obtain⟨ds,H1,e1,f1,l1,t1⟩:=h ρ H trivial;refine⟨H1.length,H1++[.lst ds], ?_,⟨ds,fU,l1,λx hx=>(t1 x hx).fr0 Fr.app,hb e1⟩,f1.trans (T:=[]) Fr.app (by simp),f1.le⟩;unfold aU lim;rw[e1,Rs.bind_ok,if_pos (by omega)]
theorem KQ (a:MnB n H i) (b:MnB m H j) (hn:n+m<=500):∃H',bL (.ref i) (.ref j) H=.ok (.ref H.length) H'/\MnB (n+m) H' H.length/\Fr [] H H':=by
 obtain⟨ds,e1,l1,t1,b1⟩:=a;obtain⟨es,e2,l2,t2,b2⟩:=b;refine⟨_,lJ e1 e2 (by omega),⟨ds++es,fU,by simp[l1,l2],λx hx=>?_,λx hx=>?_⟩,Fr.app⟩
 ·rcases dy.mp hx with hx|hx
  ·exact(t1 x hx).fr0 Fr.app
  ·exact(t2 x hx).fr0 Fr.app
 ·rcases dy.mp hx with hx|hx
  ·exact b1 x hx
  ·exact b2 x hx
end
theorem i6 {st:Nat}{H:Hs}(s:Com.St st H):∃d H',F_qa [.ref st] H=.ok d H'/\TK 3 H' d/\fJ d=false/\Com.St st H'/\Fr [st] H H':=by
 have hP:J2 λ_ _=>True:=λ_ _ _ _ _=>trivial;have lt:=s.lt;have k1:kK (λ_ _=>True) 3 10 sD:=(by
   unfold sD
   repeat' (first|exact BB|apply BC hP|exact BD|exact BE|exact BF|exact BG|exact BH|apply wF|apply BI|apply BJ)
   all_goals decide)
 have k2:kK (λ_ _=>True) 3 6 sE:=(by
   unfold sE
   repeat' (first|exact BB|apply BC hP|exact BD|exact BE|exact BF|exact BG|exact BH|apply wF|apply BI|apply BJ)
   all_goals decide)
 have k3:kK (λ_ _=>True) 3 8 sF:=(by
   unfold sF
   repeat' (first|exact BB|apply BC hP|exact BD|exact BE|exact BF|exact BG|exact BH|apply wF|apply BI|apply BJ)
   all_goals decide)
 obtain⟨i1,H1,e1,m1,f1,l1⟩:=BR (ρ:=[some (.ref st),none]) (H:=H) k1 h9 (by decide);obtain⟨j2,H2,e2,m2',f2,l2⟩:=BR (ρ:=[some (.ref st),some (.ref i1)]) (H:=H1) k2 i0 (by decide);obtain⟨H3,e3,m3,f3⟩:=KQ (m1.fr0 f2) m2' (by decide);obtain⟨j4,H4,e4,m4,f4,l4⟩:=BR (ρ:=[some (.ref st),some (.ref H2.length)]) (H:=H3) k3 i5 (by decide);obtain⟨H5,e5,m5,f5⟩:=KQ (m3.fr0 f4) m4 (by decide);have g:Fr [] H H5:=(((f1.trans f2 (by simp)).trans f3 (by simp)).trans f4 (by simp)).trans f5 (by simp);obtain⟨r,H6,r0,r1,t6,f6,s6⟩:=mJ 24 (s.fr g (by simp));have hle:H.length<=H4.length:=((f1.trans (f2.trans (f3.trans f4 (by simp)) (by simp)) (by simp)):Fr [] H H4).le;obtain⟨ds,e7,l7,t7,b7⟩:=m5.fr f6 s6 (by omega);obtain⟨j,rfl⟩:∃j:Nat,r=j:=⟨r.toNat,by omega⟩
 have hj:j<ds.length:=by omega
 have e8:=mK e7 hj;refine⟨ds[j],H6, ?_,t7 _ (fy hj),b7 _ (fy hj),s6,(g.mono (T:=[st]) (by simp)).trans f6 (by simp)⟩;show bG (gS [some (.ref st),none] H)=_;have w1:aK (aU sD) (aF 1) [some (.ref st),none] H=.nx [some (.ref st),some (.ref i1)] H1:=by unfold aK;rw[e1];rfl
 have w2:aK (L2.Mr.m2 bL (aB 1) (aU sE)) (aF 1) [some (.ref st),some (.ref i1)] H1=.nx [some (.ref st),some (.ref H2.length)] H3:=by unfold aK;rw[BK rfl e2 e3];rfl
 have w3:aK (L2.Mr.m2 bL (aB 1) (aU sF)) (aF 1) [some (.ref st),some (.ref H2.length)] H3=.nx [some (.ref st),some (.ref H4.length)] H5:=by unfold aK;rw[BK rfl e4 e5];rfl
 rw[Z3,bO w1,bO w2,bO w3];simp[aO,L2.Mr.m2,aB,aD,aA,mC,aC,t6,e8,bG]
open L2.Mr.Cod (fU lJ mK)
theorem need_ok {n:Nat}{ps:List (Int×Int)}{H:Hs}(o:OrdP n ps):F_ql [bM n ps] H=.ok .non H:=Cod.need_ok o
theorem need_bad {d:Dv}{H:Hs}(h:TK 3 H d) (hb:fJ d=false):F_ql [d] H=.ex 0 H:=Cod.need_bad h hb
section
variable{n:Nat}{ps:List (Int×Int)}{H:Hs}{ρ:Ev}
theorem i7 {F:List Dv->Hs->Rs Dv}{a v:Dv}(ha:aB 0 ρ=λH=>.ok a H) (e:F [a] H=.ok v H):eU (aD F (aA (aB 0) aC)) ρ H=.nx ρ H:=by simp[eU,aD,aA,ha,aC,e]
theorem KR (o:OrdP n ps) (f:Int×Int->List Nat) (hf:∀q,(f q).length<=4):((ps.map f).map ka).sum<=144:=by
 have h:=KN 4 (ps.map f) λx hx=>by obtain⟨q,_,rfl⟩:=dg.mp hx;exact hf q
 have:=o.len;rw[bh]at h;omega
theorem i8 (o:OrdP n ps) {x0 x1:Option Dv}:∃H',eK lG (mC (.str "")) (dQ sG) [x0,x1,some (.tup (ps.map aH))] H=.ok (.str (S (ps.flatMap λq=>32::bW q))) H'/\Fr [] H H':=by
 have e:=c7 (H:=H) (x0:=x0) (x1:=x1) o;have ea:dQ sG [x0,x1,some (.tup (ps.map aH))] H=.ok (.ref H.length) (H++[.lst ((ps.map λq=>32::bW q).map λl=>Dv.str (S l))]):=by unfold dQ;rw[e];rfl
 have g:getL (H++[Ob.lst ((ps.map λq=>32::bW q).map λl=>Dv.str (S l))]) H.length=some ((ps.map λq=>32::bW q).map λl=>Dv.str (S l)):=fU;have f:Fr [] H (H++[Ob.lst ((ps.map λq=>32::bW q).map λl=>Dv.str (S l))]):=Fr.app;generalize H++[Ob.lst ((ps.map λq=>32::bW q).map λl=>Dv.str (S l))]=H1 at ea g f;have e0:mC (.str "") [x0,x1,some (.tup (ps.map aH))] H=.ok (.str (S [])) H:=by rw[Z6];rfl
 have hs:=KR o (λq=>32::bW q) (λq=>by simp[bW]);have ej:=KL (g:=[]) g (by rw[jo,Nat.mul_zero];omega);rw[Z8]at ej;refine⟨H1, ?_,f⟩;have:=BP e0 ea ej;rw[this];rfl
theorem KS (o:OrdP n ps):∃H',F_qm [bM n ps] H=.ok (.str (S (tx n ps))) H'/\Fr [] H H':=by
 have w1:eU (aD F_ql (aA (aB 0) aC)) [some (bM n ps),none,none] H=.nx [some (bM n ps),none,none] H:=i7 rfl (need_ok o);have w2:aK (aB 0) (cE 2 (aX (aF 1) (aX (aF 2) cL))) [some (bM n ps),none,none] H=.nx [some (bM n ps),some (.int n),some (.tup (ps.map aH))] H:=rfl;have e1:=a9 (H:=H) (n:=n) (ρ:=[some (bM n ps),some (.int n),some (.tup (ps.map aH))]) rfl o.n6;obtain⟨H',e2,f⟩:=i8 (H:=H) (x0:=some (bM n ps)) (x1:=some (.int n)) o;have hl:(ps.flatMap λq=>32::bW q).length<=144:=by rw[J8];have:=o.len;omega
 have e3:=kL e1 e2 (wI (H:=H') (by simp only[cp,jo];omega));refine⟨H', ?_,f⟩;show bG (vG [some (bM n ps),none,none] H)=_;rw[Z9,bO w1,bO w2];unfold aO;rw[e3];rfl
theorem i9 {d:Dv}(h:TK 3 H d) (hb:fJ d=false):F_qm [d] H=.ex 0 H:=by simp[F_qm,vG,aS,bI,aL,eU,aD,aA,aB,aC,need_bad h hb,bG]
def wK:M (List Dv):=bT (cA eF (m2 aW (aB 3) (mC (.int 1)))) [none,none] (cE 2 (aX (aF 0) (aX (aF 1) cL))) cU (bQ (m2 fT (m2 fT (aD (f1 dD) (aA (aB 0) aC)) (mC (.str "<"))) (aD (f1 dD) (aA (aB 1) aC))))
def BS:M Dv:=eK lG (mC (.str " ")) (m2 bL (aU (aA (m2 fT (aD (f1 dD) (aA (m2 aW (aB 3) (mC (.int 0))) aC)) (mC (.str ":"))) aC)) (dQ wK))
theorem BU {m:M Dv}{k:Int}(e:m ρ H=.ok (.int k) H) (h0:0<=k) (h1:k<10):aD (f1 dD) (aA m aC) ρ H=.ok (.str (S [48+k.toNat])) H:=by have:=KI (H:=H) h0 h1;simp[aD,aA,e,aC,f1,this]
theorem j3 {q:Int×Int}(r:0<=q.1/\q.1<n/\0<=q.2/\q.2<n) (hn:n<=6):m2 fT (m2 fT (aD (f1 dD) (aA (aB 0) aC)) (mC (.str "<"))) (aD (f1 dD) (aA (aB 1) aC)) [some (.int q.1),some (.int q.2)] H=.ok (.str (S (bW q))) H:=by
 have e1:=BU (ρ:=[some (.int q.1),some (.int q.2)]) (H:=H) (m:=aB 0) (k:=q.1) rfl (by omega) (by omega);have e2:mC (.str "<") [some (.int q.1),some (.int q.2)] H=.ok (.str (S [60])) H:=by rw[KH];rfl
 have e3:=BU (ρ:=[some (.int q.1),some (.int q.2)]) (H:=H) (m:=aB 1) (k:=q.2) rfl (by omega) (by omega);exact kL (kL e1 e2 (wI (by simp))) e3 (wI (by simp))
theorem j5 (o:OrdP n ps) (h3:aB 3 ρ=λH=>.ok (bM n ps) H):wK ρ H=.ok ((ps.map bW).map λl=>Dv.str (S l)) H:=by
 have hs:cA eF (m2 aW (aB 3) (mC (.int 1))) ρ H=.ok (cO (ps.map aH)) H:=by
  have:m2 aW (aB 3) (mC (.int 1)) ρ H=.ok (.tup (ps.map aH)) H:=by unfold m2;rw[h3];rfl
  unfold cA;rw[this];rfl
 have w:wK ρ H=.ok (ps.filterMap λq=>some (Dv.str (S (bW q)))) H:=iC ps _ (λρ=>∃a b,ρ=[a,b]) (src:=cO (ps.map aH)) hs (by simp[cO]) ⟨_,_,rfl⟩ rfl (λk hk ρ ⟨a,b,e⟩=>by subst e;exact⟨aH ps[k],[some (.int ps[k].1),some (.int ps[k].2)],by simp[cO,hk],rfl,⟨_,_,rfl⟩,rfl,j3 (o.rng _ (fy hk)) o.n6⟩) (by have:=o.len;omega);rw[w];simp[pw]
theorem j6 (o:OrdP n ps) (h3:aB 3 ρ=λH=>.ok (bM n ps) H):∃H',BS ρ H=.ok (.str (S (tx n ps))) H'/\Fr [] H H':=by
 have n6:=o.n6;have e0:mC (.str " ") ρ H=.ok (.str (S [32])) H:=by rw[KG];rfl
 have e1:m2 fT (aD (f1 dD) (aA (m2 aW (aB 3) (mC (.int 0))) aC)) (mC (.str ":")) ρ H=.ok (.str (S [48+n,58])) H:=by
  have a:m2 aW (aB 3) (mC (.int 0)) ρ H=.ok (.int n) H:=by unfold m2;rw[h3];rfl
  have b:=BU a (by omega) (by omega);have c:mC (.str ":") ρ H=.ok (.str (S [58])) H:=by rw[KD];rfl
  have:=kL b c (wI (by simp));rw[this];simp
 have e2:aU (aA (m2 fT (aD (f1 dD) (aA (m2 aW (aB 3) (mC (.int 0))) aC)) (mC (.str ":"))) aC) ρ H=.ok (.ref H.length) (H++[.lst ([[48+n,58]].map λl=>Dv.str (S l))]):=by generalize m2 fT (aD (f1 dD) (aA (m2 aW (aB 3) (mC (.int 0))) aC)) (mC (.str ":"))=M at e1;simp[aU,aA,e1,aC,lim]
 have g2:getL (H++[Ob.lst ([[48+n,58]].map λl=>Dv.str (S l))]) H.length=some ([[48+n,58]].map λl=>Dv.str (S l)):=fU;have f2:Fr [] H (H++[Ob.lst ([[48+n,58]].map λl=>Dv.str (S l))]):=Fr.app;generalize H++[Ob.lst ([[48+n,58]].map λl=>Dv.str (S l))]=H2 at e2 g2 f2;have e3:=j5 (H:=H2) o h3;have ea:dQ wK ρ H2=.ok (.ref H2.length) (H2++[.lst ((ps.map bW).map λl=>Dv.str (S l))]):=by unfold dQ;rw[e3];rfl
 have g3:getL (H2++[Ob.lst ((ps.map bW).map λl=>Dv.str (S l))]) H2.length=some ((ps.map bW).map λl=>Dv.str (S l)):=fU;have f3:Fr [] H2 (H2++[Ob.lst ((ps.map bW).map λl=>Dv.str (S l))]):=Fr.app;generalize H2++[Ob.lst ((ps.map bW).map λl=>Dv.str (S l))]=H3 at ea g3 f3;have a:=lJ (H:=H3) (f3.getL g2 (by simp)) g3 (by simp;have:=o.len;omega);rw[<-jg]at a;have e4:=kL e2 ea a;have g4:getL (H3++[Ob.lst (([[48+n,58]]++ps.map bW).map λl=>Dv.str (S l))]) H3.length=some (([[48+n,58]]++ps.map bW).map λl=>Dv.str (S l)):=fU;have hs:=KR o bW (λq=>by simp[bW]);have ej:=KL (g:=[32]) g4 (by have:=o.len;rw[jg,List.sum_append,bw,bh];simp;simp at hs;omega);have hj:sj (S [32]) (([[48+n,58]]++ps.map bW).map S)=S (tx n ps):=by rw[List.singleton_append,J7];unfold tx;rw[List.flatMap_map];rfl
 rw[hj]at ej;exact⟨_,BP e0 e4 ej,(f2.trans f3 (by simp)).trans (T:=[]) Fr.app (by simp)⟩
end
open L2.Mr.Cod (fU lJ mK)
section
variable{n:Nat}{ps:List (Int×Int)}{H:Hs}{ρ:Ev}{l:List Nat}
theorem j7 {i c:Nat}(h:l[i]?=some c) (hl:l.length<=1000):gC (.str (S l)) (.int (i:Int)) H=.ok (.str (S [c])) H:=by
 obtain⟨hi,he⟩:=ax.mp h;have e0:(S l).cps.toList=l:=by simp[S]
 have h1:dN l.length (i:Int)=some i:=by unfold dN;rw[if_pos (by omega),if_pos (by omega)];simp
 have h2:dW (S l).cps.toList (i:Int)=some c:=by rw[e0];unfold dW;rw[h1];exact h
 have h3:(S l).length<=1000000:=by rw[lK];omega
 simp only[gC,h2,lim,h3,if_true];rfl
theorem KU (h0:aB 0 ρ=λH=>.ok (.str (S l)) H) (hl:l.length<=1000):aD (f1 jY) (aA (aB 0) aC) ρ H=.ok (.int l.length) H:=by
 have h3:l.length<=1000000:=by omega
 have e:jY (.str (S l)) H=.ok (.int l.length) H:=by simp only[jY,lim,lK,h3,if_true]
 simp[aD,aA,h0,aC,f1,e]
theorem BV {mi:M Dv}{mt:Nat}{i k:Nat}(h1:aB mt ρ=λH=>.ok (.str (S l)) H) (e:mi ρ H=.ok (.int (i:Int)) H) (hl:l.length<=1000) (ha:l[i]?=some (48+k)) (hk:k<10):eK iO (mC (.str "0123456789")) (m2 gC (aB mt) mi) ρ H=.ok (.int k) H:=by
 have e2:m2 gC (aB mt) mi ρ H=.ok (.str (S [48+k])) H:=kL (by rw[h1]) e (j7 ha hl);have e3:iO (.str "0123456789") (.str (S [48+k])) H=.ok (.int k) H:=by show Rs.ok (Dv.int (xf _ _)) H=_;rw[Z5 hk]
 exact BP rfl e2 e3
def BW:M (List Dv):=bT (aQ oP (aA (mC (.int 2)) (aA (aD (f1 jY) (aA (aB 0) aC)) (aA (mC (.int 4)) aC)))) [none,some 0] (aF 0) cU (bQ (aJ (aA (eK iO (mC (.str "0123456789")) (m2 gC (aB 1) (m2 bL (aB 0) (mC (.int 1))))) (aA (eK iO (mC (.str "0123456789")) (m2 gC (aB 1) (m2 bL (aB 0) (mC (.int 3))))) aC))))
theorem j8:AD=aO (mL tX BW):=rfl
theorem j9 {m:M Dv}{L:Int}(e:m ρ H=.ok (.int L) H) (h0:0<=L) (h1:L<=1000):aQ oP (aA (mC (.int 2)) (aA m (aA (mC (.int 4)) aC))) ρ H=.ok (yW 2 L 4) H:=by
 have hi:jC L=true:=by unfold jC;simp;omega
 have h2:jC 2=true:=by decide
 have h4:jC 4=true:=by decide
 simp[aQ,aA,mC,e,aC,oP,hi,h2,h4]
theorem k6 (o:OrdP n ps):BW [some (.str (S (tx n ps)))] H=.ok (ps.map aH) H:=by
 have n6:=o.n6;have hlen:=o.len;have hl:(tx n ps).length<=1000:=by rw[wH];omega
 have e0:=KU (H:=H) (ρ:=[some (.str (S (tx n ps)))]) rfl hl;have hs:=j9 e0 (by omega) (by omega);have hn:(yW 2 ((tx n ps).length:Int) 4).n=ps.length:=by
  show lZ _ _ _=_;unfold lZ;rw[wH]
  split <;> omega
 have w:BW [some (.str (S (tx n ps)))] H=.ok (ps.filterMap λq=>some (aH q)) H:=
  iC ps _ (λρ=>∃a,ρ=[a,some (.str (S (tx n ps)))]) hs hn ⟨_,rfl⟩ rfl (λk hk ρ ⟨a,e⟩=>by
   subst e;have r:=o.rng _ (fy hk);refine⟨.int (2+k*4),[some (.int (2+(k:Int)*4)),some (.str (S (tx n ps)))],rfl,rfl,⟨_,rfl⟩,rfl, ?_⟩;have a1:m2 bL (aB 0) (mC (.int 1)) [some (.int (2+(k:Int)*4)),some (.str (S (tx n ps)))] H=.ok (.int ((2+4*k+1:Nat):Int)) H:=by
    have:((2+4*k+1:Nat):Int)=2+(k:Int)*4+1:=by omega
    rw[this];rfl
   have a3:m2 bL (aB 0) (mC (.int 3)) [some (.int (2+(k:Int)*4)),some (.str (S (tx n ps)))] H=.ok (.int ((2+4*k+3:Nat):Int)) H:=by
    have:((2+4*k+3:Nat):Int)=2+(k:Int)*4+3:=by omega
    rw[this];rfl
   have b1:=BV (mt:=1) (k:=ps[k].1.toNat) rfl a1 hl (by rw[KC (by omega) hk];rfl) (by omega);have b3:=BV (mt:=1) (k:=ps[k].2.toNat) rfl a3 hl (by rw[KC (by omega) hk];rfl) (by omega);have c1:((ps[k].1.toNat:Nat):Int)=ps[k].1:=by omega
   have c2:((ps[k].2.toNat:Nat):Int)=ps[k].2:=by omega
   rw[c1]at b1;rw[c2]at b3;generalize eK iO (mC (.str "0123456789")) (m2 gC (aB 1) (m2 bL (aB 0) (mC (.int 1))))=M1 at b1;generalize eK iO (mC (.str "0123456789")) (m2 gC (aB 1) (m2 bL (aB 0) (mC (.int 3))))=M3 at b3;simp[aJ,aA,b1,b3,aC,lim,aH]) (by omega)
 rw[w];simp[pw]
theorem k7 (o:OrdP n ps):F_qc [.str (S (tx n ps))] H=.ok (.tup (ps.map aH)) H:=by
 have e:=k6 (H:=H) o;have hl:(ps.map aH).length<=1000000:=by rw[bh];have:=o.len;omega
 show bG (AD [some (.str (S (tx n ps)))] H)=_;rw[j8];unfold aO mL;rw[e];simp[tX,lim,hl,bG]
def wL:M Bool:=dY (cJ (bH (m1 (aV qV) (aB 0)))) (mB (m2 bY (m2 gM (aD (f1 jY) (aA (aB 0) aC)) (mC (.int 4))) (mC (.int 2))))
def wM:M Dv:=aJ (aA (eK iO (mC (.str "0123456789")) (m2 gC (aB 0) (mC (.int 0)))) (aA (aD F_qc (aA (aB 0) aC)) aC))
def wN:M Bool:=dY (cJ (bH (aD F_qt (aA (aB 1) aC)))) (mB (m2 bY (aD F_qm (aA (aB 1) aC)) (aB 0)))
theorem k8:AE=aL (bD wL (jR 8 (aA (mC (.str "this is no text of an order")) aC)) bP) (aL (aK wM (aF 1)) (aL (bD wN (jR 8 (aA (mC (.str "this text writes no order")) aC)) bP) (aO (aB 1)))):=rfl
theorem pI {F:List Dv->Hs->Rs Dv}{a v:Dv}{x:Nat}{H':Hs}(ha:aB x ρ=λH=>.ok a H) (e:F [a] H=.ok v H'):aD F (aA (aB x) aC) ρ H=.ok v H':=by simp[aD,aA,ha,aC,e]
theorem KW (o:OrdP n ps):∃H',F_qn [.str (S (tx n ps))] H=.ok (bM n ps) H'/\Fr [] H H':=by
 have n6:=o.n6;have hlen:=o.len;have hl:(tx n ps).length<=1000:=by rw[wH];omega
 have e0:=KU (H:=H) (ρ:=[some (.str (S (tx n ps))),none]) rfl hl;have t1:wL [some (.str (S (tx n ps))),none] H=.ok false H:=by
  have a:cJ (bH (m1 (aV qV) (aB 0))) [some (.str (S (tx n ps))),none] H=.ok false H:=rfl;unfold wL;rw[BM a];have b:gM (.int ((tx n ps).length:Int)) (.int 4) H=.ok (.int 2) H:=by
   have:((tx n ps).length:Int) % 4=2:=by rw[wH];omega
   have h4:decide ((0:Int)<4)=true:=by decide
   simp only[gM,iW,mU,h4,if_true,this]
  have c:=kL (mb:=mC (.int 4)) (H2:=H) (y:=.int 4) e0 rfl b;have d:=kL (f:=bY) (mb:=mC (.int 2)) (H2:=H) (y:=.int 2) c rfl (show bY (.int 2) (.int 2) H=.ok (.bl false) H from rfl);unfold mB;rw[d];rfl
 have w1:bD wL (jR 8 (aA (mC (.str "this is no text of an order")) aC)) bP [some (.str (S (tx n ps))),none] H=.nx [some (.str (S (tx n ps))),none] H:=(nK t1).trans rfl;have b0:=BV (H:=H) (l:=tx n ps) (ρ:=[some (.str (S (tx n ps))),none]) (mt:=0) (mi:=mC (.int 0)) (i:=0) (k:=n) rfl rfl hl rfl (by omega);have e1:wM [some (.str (S (tx n ps))),none] H=.ok (bM n ps) H:=by have c:=pI (F:=F_qc) (x:=0) (ρ:=[some (.str (S (tx n ps))),none]) rfl (k7 (H:=H) o);unfold wM;generalize eK iO (mC (.str "0123456789")) (m2 gC (aB 0) (mC (.int 0)))=M1 at b0;generalize aD F_qc (aA (aB 0) aC)=M2 at c;simp[aJ,aA,b0,c,aC,lim,bM]
 have w2:aK wM (aF 1) [some (.str (S (tx n ps))),none] H=.nx [some (.str (S (tx n ps))),some (bM n ps)] H:=BN e1 rfl;obtain⟨H2,e2,f2⟩:=KS (H:=H) o;have t2:wN [some (.str (S (tx n ps))),some (bM n ps)] H=.ok false H2:=by
  have a:cJ (bH (aD F_qt (aA (aB 1) aC))) [some (.str (S (tx n ps))),some (bM n ps)] H=.ok false H:=by have:=pI (F:=F_qt) (x:=1) (ρ:=[some (.str (S (tx n ps))),some (bM n ps)]) rfl (JO (H:=H) o);generalize aD F_qt (aA (aB 1) aC)=M at this;simp[cJ,bH,this,eC]
  unfold wN;rw[BM a];have b:=pI (F:=F_qm) (x:=1) (ρ:=[some (.str (S (tx n ps))),some (bM n ps)]) rfl e2;have d:=kL (f:=bY) (mb:=aB 0) (H2:=H2) (y:=.str (S (tx n ps))) b rfl (show bY (.str (S (tx n ps))) (.str (S (tx n ps))) H2=.ok (.bl false) H2 by simp[bY,bR,bK,bA]);unfold mB;rw[d];rfl
 have w3:bD wN (jR 8 (aA (mC (.str "this text writes no order")) aC)) bP [some (.str (S (tx n ps))),some (bM n ps)] H=.nx [some (.str (S (tx n ps))),some (bM n ps)] H2:=(nK t2).trans rfl;refine⟨H2, ?_,f2⟩;show bG (AE [some (.str (S (tx n ps))),none] H)=_;rw[k8,bO w1,bO w2,bO w3];rfl
end
open L2.Mr.Cod (fU lJ mK BL wG J3)
section
variable{n st:Nat}{ps:List (Int×Int)}{H:Hs}{ρ:Ev}
theorem k9 {k:Nat}{z:Str}:F_qo (k+1) [.str z,.str z] H=.ok (.bl true) H:=by simp[F_qo,rO,aS,bI,aL,bD,bH,m1,aV,aB,gA,oS,eC,bP,aO,dJ,m2,bS,bR,bK,bA,jT,bG]
theorem l5 (hl:ps.length<=900):F_qo 6 [bM n ps,bM n ps] H=.ok (.bl true) H:=by
 refine wG (n:=5) (xs:=[.int n,.tup (ps.map aH)]) (by simp) λx hx=>?_;simp only[bg,List.not_mem_nil,or_false]at hx
 rcases hx with rfl|rfl
 ·exact BL
 ·refine wG (n:=4) (by simpa using(by omega:ps.length<=1000)) λy hy=>?_;obtain⟨q,_,rfl⟩:=dg.mp hy;exact J3 (n:=2) (xs:=[q.1,q.2]) (by simp)
theorem KY {S:List Dv->Hs->Rs Dv}{ma mb:M Dv}{v:Dv}{ρ:Ev}{H H1 H2:Hs}(ha:ma ρ H=.ok v H1) (hb:mb ρ H1=.ok v H2) (hs:S [v,v] H2=.ok (.bl true) H2):
  cJ (bH (aD S (aA ma (aA mb aC)))) ρ H=.ok false H2:=by
 simp[cJ,bH,aD,aA,ha,hb,aC,hs,eC]
def iS:MS:=bD (dY (cJ (bH (aD (F_qo 6) (aA (aD F_qm (aA (aB 3) aC)) (aA (aB 4) aC))))) (cJ (bH (aD (F_qo 6) (aA (aD F_qn (aA (aB 4) aC)) (aA (aB 3) aC)))))) (aO (mC (.bl false))) bP
def iB:MS:=bD (mB (m2 bY (lX [5] 4 11 jZ vH) (aU (aA (mC (.int 0)) aC)))) (aO (mC (.bl false))) bP
theorem l6 (scr:List Int):vI scr=aL (aK (aD (F_qi scr) (aA (aB 0) (aA (aB 1) aC))) (aF 2)) (aL (aK (aD F_qh (aA (aB 2) (aA (mC (.int 6)) aC))) (aF 3)) (aL (aK BS (aF 4)) (aL iS (aL (aK (aD F_qa (aA (aB 2) aC)) (aF 5)) iB)))):=rfl
theorem l8 {F:List Dv->Hs->Rs Dv}{d:Dv}{c:Nat}(e:F [d] H=.ex c H):aD F (aA (aB 0) aC) ([d].map some) H=.ex c H:=by simp[aD,aA,aB,aC,e]
theorem A1 (scr:List Int) (k:Nat) (H:Hs) (x2 x3 x4 x5:Option Dv):∃H' y2 y3 y4 y5,vI scr [some .scr,some (.int k),x2,x3,x4,x5] H=.nx [some .scr,some (.int k),y2,y3,y4,y5] H':=by
 obtain⟨H1,h1,f1',s1⟩:=Y8 scr k H;have w1:aK (aD (F_qi scr) (aA (aB 0) (aA (aB 1) aC))) (aF 2) [some .scr,some (.int k),x2,x3,x4,x5] H=.nx [some .scr,some (.int k),some (.ref H.length),x3,x4,x5] H1:=by simp[aK,aD,aA,aB,aC,h1,aF]
 obtain⟨n,cs,H2,h2,o,s2,f2⟩:=kJ s1;have w2:aK (aD F_qh (aA (aB 2) (aA (mC (.int 6)) aC))) (aF 3) [some .scr,some (.int k),some (.ref H.length),x3,x4,x5] H1=.nx [some .scr,some (.int k),some (.ref H.length),some (bM n cs),x4,x5] H2:=by simp[aK,aD,aA,aB,mC,aC,h2,aF]
 generalize H.length=st at s1 s2 f2 h2 w1 w2;have hlen:=o.len;obtain⟨H3,e3,f3⟩:=j6 (H:=H2) (ρ:=[some .scr,some (.int k),some (.ref st),some (bM n cs),x4,x5]) o rfl;have w3:aK BS (aF 4) [some .scr,some (.int k),some (.ref st),some (bM n cs),x4,x5] H2=.nx [some .scr,some (.int k),some (.ref st),some (bM n cs),some (.str (S (tx n cs))),x5] H3:=BN e3 rfl;obtain⟨H4,e4,f4⟩:=KS (H:=H3) o;have c1:=KY (S:=F_qo 6) (ma:=aD F_qm (aA (aB 3) aC)) (mb:=aB 4) (ρ:=[some .scr,some (.int k),some (.ref st),some (bM n cs),some (.str (S (tx n cs))),x5]) (pI (F:=F_qm) rfl e4) rfl k9;obtain⟨H5,e5,f5⟩:=KW (H:=H4) o;have c2:=KY (S:=F_qo 6) (ma:=aD F_qn (aA (aB 4) aC)) (mb:=aB 3) (ρ:=[some .scr,some (.int k),some (.ref st),some (bM n cs),some (.str (S (tx n cs))),x5]) (pI (F:=F_qn) rfl e5) rfl (l5 (by omega));have w4:iS [some .scr,some (.int k),some (.ref st),some (bM n cs),some (.str (S (tx n cs))),x5] H3=.nx [some .scr,some (.int k),some (.ref st),some (bM n cs),some (.str (S (tx n cs))),x5] H5:=by unfold iS;rw[nK ((BM c1).trans c2)];rfl
 have s5:=s2.fr ((f3.trans f4 (by simp)).trans f5 (by simp):Fr [] H2 H5) (by simp);obtain⟨d,H6,h6,td,bd,s6,f6⟩:=i6 s5;have w5:aK (aD F_qa (aA (aB 2) aC)) (aF 5) [some .scr,some (.int k),some (.ref st),some (bM n cs),some (.str (S (tx n cs))),x5] H5=.nx [some .scr,some (.int k),some (.ref st),some (bM n cs),some (.str (S (tx n cs))),some d] H6:=BN (pI (F:=F_qa) rfl h6) rfl;obtain⟨H7,t7,f7⟩:=h8 (c:=0) (.inl rfl) (caps:=[5]) (vs:=[d]) (me:=vH) (ρ:=[some .scr,some (.int k),some (.ref st),some (bM n cs),some (.str (S (tx n cs))),some d]) (H0:=H6) (H:=H6) rfl (l8 (F:=F_qm) (i9 td bd)) Fr.refl;have w6:iB [some .scr,some (.int k),some (.ref st),some (bM n cs),some (.str (S (tx n cs))),some d] H6=.nx [some .scr,some (.int k),some (.ref st),some (bM n cs),some (.str (S (tx n cs))),some d] H7:=(nK t7:bD _ (aO (mC (.bl false))) bP _ _=_).trans rfl;refine⟨H7,some (.ref st),some (bM n cs),some (.str (S (tx n cs))),some d, ?_⟩;rw[l6,bO w1,bO w2,bO w3,bO w4,bO w5,w6]
end
theorem loop (scr:List Int) (m:Int):∀(f k:Nat) (H:Hs) (x1 x2 x3 x4 x5:Option Dv),∃ρ' H',fZ (eE 0 m) (aF 1) (vI scr) f k [some .scr,x1,x2,x3,x4,x5] H=.nx ρ' H'
 |0,k,H,x1,x2,x3,x4,x5=>⟨_,H,rfl⟩
 |f+1,k,H,x1,x2,x3,x4,x5=>by obtain⟨H1,y2,y3,y4,y5,h⟩:=A1 scr k H x2 x3 x4 x5;obtain⟨ρ',H2,h2⟩:=loop scr m f (k+1) H1 (some (.int k)) y2 y3 y4 y5;refine⟨ρ',H2, ?_⟩;rw[<-h2];exact GG (d:=.int k) (ρ1:=[some .scr,some (.int k),x2,x3,x4,x5]) (by simp[eE]) rfl h
theorem l9:OrdP 1 []:=⟨by omega,by omega,by simp,by simp[dM],by simp,by simp⟩
theorem m6 {ρ:Ev}{H:Hs}:∃H',AF ρ H=.rt (.bl true) H':=by
 obtain⟨H',e,f⟩:=KW (H:=H) l9;have hs:("1:" : Str)=S (tx 1 []):=by decide +kernel
 have e1:aD F_qn (aA (mC (.str "1:")) aC) ρ H=.ok (bM 1 []) H':=by
  have:aD F_qn (aA (mC (.str (S (tx 1 [])))) aC) ρ H=.ok (bM 1 []) H':=by generalize S (tx 1 [])=z at e;simp[aD,aA,mC,aC,e]
  rw[hs];exact this
 refine⟨H', ?_⟩;unfold AF aO;rw[kL e1 (show aJ (aA (mC (.int 1)) (aA (aJ aC) aC)) ρ H'=.ok (bM 1 []) H' from rfl) (show bS (bM 1 []) (bM 1 []) H'=.ok (.bl true) H' from rfl)];rfl
theorem m7 (scr:List Int):∃hh,F_qx scr [.scr] []=.ok (.bl true) hh:=by
 have hi:∃m:Int,aQ eI (aA (aD kT (aA (mC (.int 1)) (aA (aD oI (aA (aD (f1 (gY scr)) (aA (aB 0) aC)) (aA (mC (.int 10)) aC))) aC))) aC) [some .scr,none,none,none,none,none] []=.ok (eE 0 m) []:=by
  generalize hz:(if(10:Int)<scr.length then(10:Int)else scr.length)=z;have z0:0<=z:=by split at hz <;> omega
  have z1:z<=10:=by split at hz <;> omega
  generalize hm:(if z>(1:Int)then z else 1)=m;have m0:1<=m:=by split at hm <;> omega
  have m1':m<=10:=by split at hm <;> omega
  have hr:kX m=true:=by simp[kX];omega
  refine⟨m, ?_⟩;have e1:oI [.int scr.length,.int 10] []=.ok (.int z) []:=by rw[<-hz];rfl
  have e2:kT [.int 1,.int z] []=.ok (.int m) []:=by rw[<-hm];rfl
  simp[aQ,aA,aD,mC,aB,aC,f1,gY,fY,e1,e2,eI,hr]
 obtain⟨m,hi⟩:=hi;obtain⟨ρ',H',h⟩:=loop scr m (eE 0 m).n 0 [] none none none none none;obtain⟨H2,h2⟩:=m6 (ρ:=ρ') (H:=H');refine⟨H2, ?_⟩;show bG (vJ scr [some .scr,none,none,none,none,none] [])=_;unfold vJ IZ;rw[bO ((GF hi).trans h),h2];rfl
open PySem.Calls PySem.W
theorem mk_of {l:OpenLaw}{w:cg}{K:Frag}{h:ck}{mg:Str->Option af}{fa:ah}(hob:ob K=obE) (hnt:noTabs K=true) (X:K.In h) (G:h.Ns cw mg) (hfa:mg "law" = some (.ref fa)):
  ∃(fd:bp) (c P:ah),(∀(s:ag) (u:af),BindsTo s fd ⟨[u],[]⟩ [("_law_script",u)])/\tabIn K "law" = some (c,P)/\noTabs K=true /\
   ∀(base:ck) (a:ah) (ns:List Int),ns.length<=63->K.In base->base.Ns cw mg->CodeHd base c P->lA mg base->Lawful l.prog w K mg base 14 fa fd "_law_script" P a ns:=by
 have hc:obF.all (λf=>f K)=true:=congrArg du hob;have hf:wU K=wV:=congrArg nt hob;have e:=hfa.symm.trans (mg_of X G (v:=.ref 303) (dB hc 23));cases e;refine(λ(z:∀R:Prop,(_->R)->R)=>z _ id) λR hR=>?_;obtain⟨g0,U0,B0,C0,D0⟩:=dH hf hc 166 AG "is_whole" 165 ["thing"] 0 52 76 λ_ _ _ _ _ _=>hW λ_=>rfl;obtain⟨g1,U1,B1,C1,D1⟩:=dH hf hc 173 AH "is_between" 172 ["thing","low","high"] 1 53 77 λ_ _ _ _ _ _=>S8 λ_ _ _=>rfl;obtain⟨g2,U2,B2,C2,D2⟩:=dH hf hc 178 vK "is_rising" 177 ["parts"] 2 54 78 λ_ _ _ _ _ _=>hW λ_=>rfl;obtain⟨g3,U3,B3,C3,D3⟩:=dH hf hc 185 AI "is_thing" 184 ["many","thing"] 3 55 79 λ_ _ _ _ _ _=>jS λ_ _=>rfl;obtain⟨g4,U4,B4,C4,D4⟩:=dH hf hc 190 vL "are_things" 189 ["many","thing"] 4 56 80 λ_ _ _ _ _ _=>jS λ_ _=>rfl;obtain⟨g5,U5,B5,C5,D5⟩:=dH hf hc 197 AJ "is_pair" 196 ["many","thing"] 5 57 81 λ_ _ _ _ _ _=>jS λ_ _=>rfl;obtain⟨g6,U6,B6,C6,D6⟩:=dH hf hc 202 vM "are_pairs" 201 ["many","things"] 6 58 82 λ_ _ _ _ _ _=>jS λ_ _=>rfl;obtain⟨g7,U7,B7,C7,D7⟩:=dH hf hc 207 vN "has_alike" 206 ["pairs"] 7 59 83 λ_ _ _ _ _ _=>hW λ_=>rfl;obtain⟨g8,U8,B8,C8,D8⟩:=dH hf hc 212 vO "is_complete" 211 ["pairs"] 8 60 84 λ_ _ _ _ _ _=>hW λ_=>rfl;obtain⟨g9,U9,B9,C9,D9⟩:=dH hf hc 219 AK "is_order" 218 ["thing"] 9 61 85 λ_ _ _ _ _ _=>hW λ_=>rfl;obtain⟨g10,U10,B10,C10,D10⟩:=dH hf hc 226 AL "need_order" 225 ["order"] 10 62 86 λ_ _ _ _ _ _=>hW λ_=>rfl;obtain⟨g11,U11,B11,C11,D11⟩:=dH hf hc 231 vP "order_text" 230 ["order"] 11 63 87 λ_ _ _ _ _ _=>hW λ_=>rfl;obtain⟨g12,U12,B12,C12,D12⟩:=dH hf hc 236 vQ "written_pairs" 235 ["text"] 12 64 88 λ_ _ _ _ _ _=>hW λ_=>rfl;obtain⟨g13,U13,B13,C13,D13⟩:=dH hf hc 243 AM "read_order" 242 ["text"] 13 65 89 λ_ _ _ _ _ _=>hW λ_=>rfl;obtain⟨g14,U14,B14,C14,D14⟩:=dH hf hc 250 AN "_law_cell_at" 249 ["_law_script","_law_k"] 14 66 90 λ_ _ _ _ _ _=>jS λ_ _=>rfl;obtain⟨g15,U15,B15,C15,D15⟩:=dH hf hc 257 AO "_law_state" 256 ["_law_script","_law_k"] 15 67 91 λ_ _ _ _ _ _=>jS λ_ _=>rfl;obtain⟨g16,U16,B16,C16,D16⟩:=dH hf hc 264 AQ "_law_take" 263 ["_law_state_here","_law_many"] 16 68 92 λ_ _ _ _ _ _=>jS λ_ _=>rfl;obtain⟨g17,U17,B17,C17,D17⟩:=dH hf hc 271 AR "_law_mixed_row" 270 ["_law_state_here","_law_things"] 17 69 93 λ_ _ _ _ _ _=>jS λ_ _=>rfl;obtain⟨g18,U18,B18,C18,D18⟩:=dH hf hc 276 vR "_law_closed" 275 ["_law_pairs"] 18 70 94 λ_ _ _ _ _ _=>hW λ_=>rfl;obtain⟨g19,U19,B19,C19,D19⟩:=dH hf hc 281 rQ "_law_order" 280 ["_law_state_here","_law_most"] 19 71 95 λ_ _ _ _ _ _=>jS λ_ _=>rfl;obtain⟨g20,U20,B20,C20,D20⟩:=dH hf hc 288 AS "_law_bad_order" 287 ["_law_state_here"] 20 72 96 λ_ _ _ _ _ _=>hW λ_=>rfl;obtain⟨g21,U21,B21,C21,D21⟩:=dH hf hc 293 vS "_law_same" 292 ["_law_found","_law_due"] 21 73 97 λ_ _ _ _ _ _=>jS λ_ _=>rfl;obtain⟨g22,U22,B22,C22,D22⟩:=dH hf hc 298 nQ "_law_refused" 297 ["_law_call"] 22 74 98 λ_ _ _ _ _ _=>hW λ_=>rfl;obtain⟨g23,U23,B23,C23,D23⟩:=dH hf hc 303 rR "law" 302 ["_law_script"] 23 75 99 λ_ _ _ _ _ _=>hW λ_=>rfl;obtain⟨t_FIGURES,c_FIGURES⟩:=K5 (n := "FIGURES") (v := "0123456789") (kM hc 101 rfl);obtain⟨t_MOST_THINGS,c_MOST_THINGS⟩:=K2 (n := "MOST_THINGS") (v:=6) (kM hc 100 rfl);have ex_NoOrder:ExK K 37:=⟨dB hc 136,dB hc 137,dB hc 138,dB hc 139,dB hc 140,dB hc 141,BX (kM hc 142 rfl)⟩
 have ex_NoText:ExK K 133:=⟨dB hc 143,dB hc 144,dB hc 145,dB hc 146,dB hc 147,dB hc 148,BX (kM hc 149 rfl)⟩
 refine hR ⟨g23,302,300,λs v=>.of_eq (D23 [v] rfl),dB hc 102,hnt,λbase a ns hlen _ _ hC hB=>⟨?_⟩⟩;obtain⟨hh,hl⟩:=m7 ns;refine⟨{ K:=K,cl:=λc=>match c with|0=>37|1=>49|2=>61|3=>73|4=>85|5=>97|6=>109|7=>121|8=>133|9=>145|10=>157|_=>24,scr:=ns,sa:=a,tab:=some 300,lq:=(("law" : Str) ++ ".<locals>.") ++ "<lambda>" },F_qx ns,hh,rfl,rfl,rfl,rfl,hl, ?_⟩;refine YR (A:=⟨166,g0,173,g1,178,g2,185,g3,190,g4,197,g5,202,g6,207,g7,212,g8,219,g9,226,g10,231,g11,236,g12,243,g13,250,g14,257,g15,264,g16,271,g17,276,g18,281,g19,288,g20,293,g21,298,g22,303,g23,37,49,61,73,85,97,109,121,133,145,157,t_MOST_THINGS,t_FIGURES,24,302,300⟩) ?_ hC hB;exact⟨rfl,U0,B0,bV X G hc 0,U1,B1,bV X G hc 1,U2,B2,bV X G hc 2,U3,B3,bV X G hc 3,U4,B4,bV X G hc 4,U5,B5,bV X G hc 5,U6,B6,bV X G hc 6,U7,B7,bV X G hc 7,U8,B8,bV X G hc 8,U9,B9,bV X G hc 9,U10,B10,bV X G hc 10,U11,B11,bV X G hc 11,U12,B12,bV X G hc 12,U13,B13,bV X G hc 13,U14,B14,bV X G hc 14,U15,B15,bV X G hc 15,U16,B16,bV X G hc 16,U17,B17,bV X G hc 17,U18,B18,bV X G hc 18,U19,B19,bV X G hc 19,U20,B20,bV X G hc 20,U21,B21,bV X G hc 21,U22,B22,bV X G hc 22,U23,B23,bV X G hc 23,mg_none_of X G (dB hc 36),mg_none_of X G (dB hc 37),mg_none_of X G (dB hc 38),mg_none_of X G (dB hc 39),mg_none_of X G (dB hc 40),mg_none_of X G (dB hc 41),mg_none_of X G (dB hc 42),mg_none_of X G (dB hc 43),mg_none_of X G (dB hc 44),mg_none_of X G (dB hc 45),mg_none_of X G (dB hc 46),mg_none_of X G (dB hc 47),mg_none_of X G (dB hc 48),mg_none_of X G (dB hc 49),mg_none_of X G (dB hc 50),mg_none_of X G (dB hc 51),mg_of X G c_MOST_THINGS,mg_of X G c_FIGURES,bV X G hc 24,bV X G hc 25,bV X G hc 26,bV X G hc 27,bV X G hc 28,bV X G hc 29,bV X G hc 30,bV X G hc 31,bV X G hc 32,bV X G hc 33,bV X G hc 34,dB hc 24,kM hc 150 rfl,rfl,dB hc 32,kM hc 151 rfl,rfl,dF ⟨dB hc 152,ex_NoOrder⟩ (dF ⟨dB hc 153,ex_NoText⟩ iL),dF ⟨dB hc 114,ex_NoOrder⟩ (dF ⟨dB hc 125,ex_NoText⟩ iL),dF ⟨dB hc 115,ex_NoOrder⟩ (dF ⟨dB hc 126,ex_NoText⟩ iL),dF ⟨dB hc 116,ex_NoOrder⟩ (dF ⟨dB hc 127,ex_NoText⟩ iL),dF ⟨dB hc 117,ex_NoOrder⟩ (dF ⟨dB hc 128,ex_NoText⟩ iL),dF ⟨dB hc 118,ex_NoOrder⟩ (dF ⟨dB hc 129,ex_NoText⟩ iL),dF ⟨dB hc 119,ex_NoOrder⟩ (dF ⟨dB hc 130,ex_NoText⟩ iL),dF ⟨dB hc 120,ex_NoOrder⟩ (dF ⟨dB hc 131,ex_NoText⟩ iL),dF ⟨dB hc 121,ex_NoOrder⟩ (dF ⟨dB hc 132,ex_NoText⟩ iL),dF ⟨dB hc 122,ex_NoOrder⟩ (dF ⟨dB hc 133,ex_NoText⟩ iL),dF ⟨dB hc 123,ex_NoOrder⟩ (dF ⟨dB hc 134,ex_NoText⟩ iL),dF ⟨dB hc 124,ex_NoOrder⟩ (dF ⟨dB hc 135,ex_NoText⟩ iL),bV X G hc 35,dB hc 154,dB hc 155,dB hc 156,jD (dB hc 103) (jD (dB hc 104) (jD (dB hc 105) (jD (dB hc 106) (jD (dB hc 107) (jD (dB hc 108) (jD (dB hc 109) (jD (dB hc 110) (jD (dB hc 111) (jD (dB hc 112) (jD (dB hc 113) S9)))))))))),rfl,rfl,C23⟩
end L2.Mr.K90
open PySem PySem.W PyProof.Rows
set_option maxRecDepth 100000 in
set_option maxHeartbeats 0 in
theorem PySem.Challenge.cw_nearorders_k90_texts_of_orders_holds : PySem.Challenge.rw_nearorders_k90_texts_of_orders.Holds := by
  w_on; o_law
  refine holds_open (XP := XL L2.Mr.K90.vw []) (YP := L2.Mr.Ys L2.Mr.K90.ob L2.Mr.K90.obE) L2.Mr.K90.left L2.Mr.ys_of L2.Mr.ys_keeps (fun s e => xl_of s (Bool.and_eq_true_iff.mp e).1) XL.keeps (by rfl) (by rfl) (by rfl) (fun s e => recFacts_of (Bool.and_eq_true_iff.mp e).2) (by rfl) (by first | assumption | decide +kernel) (by decide +kernel) ⟨rfl,rfl,rfl,rfl,rfl,by decide +kernel⟩ ?hw ?hc
  case hw => w_witness2
  case hc => exact L2.Mr.walkK (l := PySem.Challenge.rw_nearorders_k90_texts_of_orders) (n := 63) (k := 14) (x := "_law_script") rfl (by decide) rfl ⟨rfl,by decide,by decide⟩ rfl (fun K w mg fa h hob hnt X G hmg => L2.Mr.K90.mk_of hob hnt X G hmg)
