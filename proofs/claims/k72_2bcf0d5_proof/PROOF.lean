import PyProof.Rows.All
import Wide.All
import OpenK.AllK
import Wide.FinOn
import Lean
import PyProof.EqAt
import PyProof.EqKinds
import PyProof.TupleCall
import PyProof.NeKinds
import PyProof.StationsW
import PyProof.ExcClass3
import PyProof.ExcBaseAll.ValueError
import PyProof.ExcArgsOwn
import KE.KIsAll
import PyProof.ZipIter
import PyProof.RulesAs
import KE.KLam
import PyProof.NsDelKeeps
import PyProof.Rows.Range3
import PyProof.SumWalkG
import PyProof.EnumMake
import PyProof.EnumFor
import PyProof.WalkInts
import PyProof.Rows.SortWalk
import KE.KSortAsk
import PySem.SetOps
import KE.KSortTup
import PyProof.Rows.SetFrom
import PyProof.SetRoads
import PyProof.Rows.CallKwBuiltin
import PyProof.EnumIter
import PyProof.DictCompW
import KE.KDictList
import KE.KSortKey
import PyProof.SetKind
import PySem.Challenge.RW_nearorders_k72_levels_or_what_bars_them
abbrev wo:=List (Int×Int)
abbrev wt:=List (List Int)
abbrev y':=List Int
abbrev A':=List Nat
abbrev Br:=List PySem.Str
set_option genSizeOf false
set_option compiler.extract_closed false
noncomputable section
open Array renaming getElem?_eq_some_iff->dw,getElem?_eq_getElem->fi,getElem?_toList->jk,getElem?_setIfInBounds_self_of_lt->jq,length_toList->jx,getD->lx,getElem?_eq_none->ly,perm_iff_toList_perm->yp,getElem?_eq_none_iff->yt,getElem?_replicate->zl,toList_filterMap->Aa,mem_toList_iff->Ay,forIn_toList->Bn
open Bool renaming false_eq_true->cf,and_eq_true->fg,eq_iff_iff->fv,false_ne_true->gu,not_true->qg,and_false->uz,not_false->zb,true_and->zv
open Classical renaming em->sj
open False renaming elim->ja
open ForInStep renaming yield->sr
open Function renaming comp_def->vk,comp->yd
open Iff renaming rfl->yy
open Int renaming toNat_natCast->dh,zero_add->Be
open List renaming mem_cons_of_mem->ax,range->az,getElem?_eq_some_iff->ba,mem_cons->bc,length_map->bf,size_toArray->bg,mem_cons_self->bh,getElem?_eq_getElem->bo,mem_range->br,replicate->bu,mem_map->bz,mem_singleton->cg,length_cons->cm,filterMap_cons->cu,mem_append_right->cw,mem_of_getElem?->cx,map_cons->cy,length_append->cz,getElem?_set_ne->da,getElem_mem->di,getElem?_map->dm,getElem?_set_self->dv,pairwise_cons->dz,getElem?_append_left->ed,pairwise_iff_getElem->fj,mem_append->fq,lookup_cons->gi,getElem?_append_right->gj,getElem_of_mem->ie,perm_ext_iff_of_nodup->ik,all_eq_true->iw,replicate_succ->jb,flatMap_cons->jc,map_append->je,pairwise_map->jg,length_take->jo,mem_append_left->jt,flatten_cons->jv,nodup_cons->jw,map_map->kg,mem_filter->kq,length_set->kr,mem_filterMap->mf,append_assoc->nc,length_range->nh,any_eq_true->nv,nodup_range->og,append_nil->om,length_nil->oq,length->ow,range'->pd,eraseIdx_eq_take_drop_succ->pj,length_drop->pv,getD->pw,map_drop->qi,forIn_cons->qo,getElem?_zip_eq_some->sd,drop_eq_getElem_cons->sf,ext_getElem?->sk,map_take->sy,length_filterMap_le->td,getElem?_replicate->tu,getElem?_cons_succ->tw,countP_cons->ua,length_eq_zero_iff->ub,mem_flatMap->uc,pairwise_lt_range->ug,take_append_drop->uw,mem_iff_getElem->vc,forall_mem_cons->ve,forall_mem_nil->vj,filter_sublist->vm,any_map->wx,take_succ_eq_append_getElem->wz,cons_append->xh,take_length->xi,filter_cons->xl,of_mem_zip->yb,nil_append->yc,nodup_iff_pairwise_ne->yz,length_eraseIdx_of_lt->zc,findSome?->ze,getElem?_take_of_lt->zt,range_succ_eq_map->Ae,take_of_length_le->Ag,drop_eq_nil_of_le->Ah,flatMap->Ai,length_singleton->Aq,getElem?_eq_none->Bb,getElem?_toArray->Bc,filterMap_eq_map->Bf,findSome?_cons->Bq
open List.Pairwise renaming nil->uk,imp_of_mem->wg
open List.Perm renaming refl->xc,append_left->zd,of_eq->Bh,swap->Bm
open List.cons renaming injEq->Bj
open Nat renaming le_refl->ao,lt_of_lt_of_le->av,ne_of_lt->ay,le_trans->df,zero_le->gg,le_of_lt->gh,lt_irrefl->iu,ne_of_gt->jh,lt_succ_of_lt->ji,lt_or_ge->jr,lt_succ_self->lg,succ_ne_self->qj,le_of_eq->rf,le_add_right->ue,zero_add->xb,lt_trichotomy->xf,not_lt_zero->yo,mul_le_mul->zq,succ_mul->As,lt_trans->Av
open Ne renaming symm->dg
open Option renaming isSome_iff_exists->yx
open Option.some renaming inj->cn,injEq->zr
open Prod renaming fst->bw,snd->gz
open PyProof.Rows renaming slot_tuple_getitem->ic,callWith_type1->lb,IntsAre->mn,get?_update_seq->nj,AllBare->uf,listUpdate_at->uv,entry_list_sort->vh,entry_proto_collect'->wk,slot_list_sort->wm,args_list_sort->wq,size_push'->ya,lt_int->yi,plain_sorted->yu,entry_sorted->yv,args_sorted1->yw,entry_list_iadd'->zo,kind_sorted->zw,IsTup->Aj,list_sort_tree->Bd
open PySem renaming wpAny_bind->ae,Value->af,Shared->ag,Addr->ai,wpAny_pure->aj,starEach->aq,Program->bj,Expr->bp,FuncData->bq,Around->bx,World->cb,sizeLine->cp,Heap->cq,bootBuiltins->dk,mainGlobals->du,wpAny_call_entry->fe,wpAny_holding->ff,wpAny_newObj_type->fh,Scope->fy,mem_of_lookup->gb,wpAny_callSpecial?_slot->gr,sizeLine_eq->gv,wpAny_field->gw,SetTable->gy,IsTupleKey->ij,Stmt->iq,wpAny_setField_rec->iz,codeAny_builtin->jf,wpAny_setState_of->jm,Arguments->ju,wpAny_seqItems->jy,wpAny_mono->kz,Comprehension->lh,NameKind->mq,Builtin->my,wpAny_passesOwn->ni,wpAny_newList->nq,wpAny_truthy_bool->nt,wpAny_pyIter_list->nu,wpAny_askSetting->ou,wpAny_execs_nil->pf,wpAny_Call_Name_kw->ph,codeAny_mono->pz,wpAny_typeOf->qd,IsPair->qf,wpAny_execs_cons->qu,wpAny_typeNameOfWhole_keyiter->rg,pushCells_keeps->rp,wpAny_pyIter_tuple->tj,wpAny_rule->tq,wpAny_storeSet_of->uh,wpAny_standAt->uj,wpAny_onRaise->um,wpAny_attempt->uq,wpAny_forIn_list->ux,wpAny_isInstance->uy,IsPart->wa,wpAny_of_eq->wb,codeAny_call_builtin->wd,wpAny_updateSeq_pair->we,wpAny_runValue->wj,TriplesOk->wu,wpAny_setEntries_of->xg,Result->xm,call_meets->xr,Model->yf,BindsTo->yh,call->yj,wpAny_pyIter_slot->yr,PassesOwn->zf,noFill_tuple_add->zh,DictEntry->zk,IsZip->zu,wpAny_load->Al,wpAny_call->Am,DefRec->Au,wpAny_setField->Aw,isSubtype_stop->Ax,wpAny_fieldsOf->Az,intKind_is->Ba,seq_tuple_add->Bk,wpAny_comprehension_free->Bl,plainId_quiet->Bp
open PySem.Around renaming under_plainId->gk,frames_deeper->Ac
open PySem.Builtin.List renaming listExtendWith->ll,listTooLong->ql,listSameRef->wy,listTouch->xj
open PySem.Builtin.Slice renaming slicePlaces->mw,sliceAdjust->qc,sliceApplied->vt
open PySem.Builtin.SmallTypes renaming nextOf->fz,ownedTupleIsFree->rz,stopIteration->sv
open PySem.Builtin.Tuple renaming tupleExact->mz
open PySem.Calls renaming call_function_entry->oh,Name_function_global->yg,evalArgs_plain->Ao
open PySem.Challenge renaming pw_nearorders_k72_levels_or_what_bars_them->aa,rw_nearorders_k72_levels_or_what_bars_them->oj
open PySem.Code renaming quiet_builtin->rh
open PySem.EntryCells renaming newEntry->zi
open PySem.F renaming args_tuple_add_2->rj,entry_tuple_add->sh,plainAttrs_list->si,slot_tuple_add->tm,excBase_ValueError->xu,slot_list_append->ym,type_list_append->yn
open PySem.Heap renaming get?_push_of_some->ak,lt_size->au,get?_push_size->aw,size_push->fw,SameBut->ig,get?_update_ne->jz,get?_update_other->pg,get?_update_self->pq,ExtBut->xv
open PySem.Heap.SameBut renaming update->km,refl->oi
open PySem.IsL renaming update->Ap
open PySem.NameKind renaming free->ck,cell->dy
open PySem.Obj renaming mapSeq->qe,putSet->ur,data_mapFields->wc,isFreed_of_fields->Bg
open PySem.PassesOwn renaming leaving->Af
open PySem.SeqAt renaming EqAt->lr,RcAt->ud
open PySem.SetTable renaming insertAt->ib,turns->qp,sizeAbove->qr,below->qt,grown->xk,fill->ye,tooFull->Bi,relaid->Bo
open PySem.Shared renaming TypeIs->vf
open PySem.Str renaming ofString->mr
open PySem.Value renaming ref->jd,none->jn,isInt_shape->kn,int->nr,builtin->vg,bool->vn,type->vp
open PySem.W renaming Frag->ar,kitOne->de,kla_obj->kh,subIn->ku,envX->oz,CodeHd->pb,fnOf->qk,keepIn->qv,kla_fn->qw,tabObj->qz,methodObj->vq,codeIn->xq,kitCls->xw,excIn->yk,cellsFrom_some->zg,nsIn->zj,hideAll_size->zx,hideAll_none->zy,hideAll_get->Ab,of_hideAll->Ak,callWith_K->An
open PySem.Walks renaming list->vz
open PySem.pickOrder renaming go->yq
open Sum renaming inl->ui,inr->xa
set_option Elab.async false
set_option linter.all false
set_option maxRecDepth 100000
set_option maxHeartbeats 4000000
open PySem PySem.Spec PyProof.Rows
namespace L2.Mr
open PySem PySem.Spec PySem.Calls PyProof.Rows PySem.W
def QH(o:Obj):Bool:=match o.cls,o.data with
 |.none,.fields _=>false
 |_,_=>true
def nW(h:cq):List ai->Frag
 |[]=>[]
 |a::as=>match h.get? a with
  |some o=>match QH o with
   |true=>(a,o)::nW h as
   |false=>nW h as
  |none=>nW h as
def tI(h:cq):Frag:=nW h (az h.objs.size)
theorem wC(h:cq):∀as,(nW h as).In h
 |[],_,_,e=>nomatch e
 |a::as,b,o,e=>by
  unfold nW at e
  split at e
  ·rename_i o' q
   split at e
   ·rw[gi]at e
    cases z:b==a with
    |true=>rw[z]at e;cases e;rw[eq_of_beq z];exact q
    |false=>rw[z]at e;exact wC h as b o e
   ·exact wC h as b o e
  ·exact wC h as b o e
theorem wD(h:cq):∀as,noTabs (nW h as)=true
 |[]=>rfl
 |a::as=>by
  unfold nW
  split
  ·split
   ·rename_i q;show(_&&_)=true;rw[fg];refine⟨?_,wD h as⟩;exact q
   ·exact wD h as
  ·exact wD h as
def dQ(K:Frag)(f:ai):Option bq:=match K.lookup f with
 |some o=>match o.data with
  |.func fd=>some {fd with kwdefaults:=.none,doc:=.none,pyModule:=.none,annotations:=none,closureTuple:=.none}
  |_=>none
 |none=>none
theorem QI{K:Frag}{f:ai}{n q:Str}{A:ju}{B:List iq}{S:fy}{dV cd:af}(h:dQ K f=some (fnOf n q A B S dV .none .none .none none cd .none)):
  ∃(oc:af)(od:Option ai)(kV dc pm:af)(an:Option ai)(ct:af)(sl:Array (Option af)),K.lookup f=some ⟨oc,od,.func (fnOf n q A B S dV kV dc pm an cd ct),sl⟩:=by
 unfold dQ at h
 split at h
 ·rename_i o e
  split at h
  ·rename_i fd q;obtain⟨oc,od,dt,sl⟩:=o;cases fd;simp only[zr,FuncData.mk.injEq]at h;obtain⟨rfl,rfl,rfl,rfl,rfl,rfl,rfl,rfl,_,_,_,_,rfl,_,rfl⟩:=h;simp only at q;subst q;exact⟨_,_,_,_,_,_,_,_,e⟩
  ·cases h
 ·cases h
theorem qU{F:List (Frag->Bool)}{K:Frag}(h:F.all (λf=>f K)=true)(i:Nat){f:Frag->Bool}(e:F[i]?=some f):f K=true:=iw.mp h f (cx e)
theorem QJ{l m:List (Option bq)}(h:l=m)(i:Nat){a b:Option bq}(e:l[i]?=some a)(e':m[i]?=some b):a=b:=by subst h;rw[e]at e';exact cn e'
def AW(K:Frag)(q:ai):Bool:=match K.lookup q with
 |some ⟨_,_,.cls _,_⟩=>true
 |_=>false
theorem QK{K:Frag}{q:ai}(h:AW K q=true):∃lo ld lc ls,K.lookup q=some ⟨lo,ld,.cls lc,ls⟩:=by
 unfold AW at h
 split at h
 ·exact⟨_,_,_,_,by assumption⟩
 ·cases h
def AX(K:Frag)(n:Str)(v:Int):Bool:=match nsIn K du n with
 |some (some (.int i _))=>i==v
 |_=>false
theorem QL{K:Frag}{n:Str}{v:Int}(h:AX K n v=true):∃t,nsIn K du n=some (some (.int v t)):=by
 unfold AX at h
 split at h
 ·rename_i i t e;rw[eq_of_beq h]at e;exact⟨t,e⟩
 ·cases h
theorem wF(p:bj)(w:cb)(N:Nat){α:Type}(f:ag->α):(openEnds treeTable p w N).map f=(((Fast.tw10274390034422433532 Fast.tw14364793385576792824 (opening p) w N (PySem.start (opening p)).1 (PySem.start (opening p)).2).bind (Fast.tw14289696077712309145 p)).bind λs₀=>match s₀.heap.isNs du&&s₀.gens.size==0 with
 |true=>(Fast.tw14082659384304107361 Fast.tw14364793385576792824 p w s₀.heap.objs.size (s₀.heap.nsMap du "__annotations__") N s₀ (topStub p)).bind λs₁=>match staticsOk (importedModules p.main.body) s₀.heap s₁.heap&&namesBound p s₁.heap&&gensDone s₁&&laidKept s₀.heap s₁.heap with
   |true=>some s₁
   |false=>none
 |false=>none).map f:=by
 rw[<-Fast.te10274390034422433532,<-Fast.te14364793385576792824,<-Fast.te14289696077712309145,<-Fast.te14082659384304107361];rfl
abbrev QM:List af:=[.type "ValueError",.type "Exception",.type "BaseException",.type "object"]
def QN(s:iq)(cd:ai):Option bq:=match s with
 |.FunctionDef n a b _ _ _ sc _ _ _=>some (fnOf n n a b sc .none .none .none .none none (.ref cd) .none)
 |_=>none
def fE(p:bj)(i:Nat)(cd:ai):Option bq:=QN (p.main.body.getD i (.Pass ⟨0,0,0,0⟩)) cd
def nR(K:Frag)(n:Str)(a:ai):Bool:=decide (nsIn K du n=some (some (.ref a)))
def nN(K:Frag)(n:Str):Bool:=decide (nsIn K du n=some none)
def sI(K:Frag)(a b:af)(v:Bool):Bool:=decide (subIn K a b=some v)
def kIq(K:Frag)(a b:ai)(v:Bool):Bool:=decide (kitOne K (.ref a) (.ref b)=some v)
theorem dA{F:List (Frag->Bool)}{K:Frag}(h:F.all (λf=>f K)=true)(i:Nat){g:Frag->Prop}[∀K,Decidable (g K)](e:F[i]?=some (λK=>decide (g K))):g K:=of_decide_eq_true (qU h i e)
end L2.Mr
namespace L2.Mr.K72
open PySem PySem.Spec PySem.Calls PySem.W PyProof.Rows
def vw:bj:={aa with main:={aa.main with body:=List.filterMap (λi=>aa.main.body[i]?) [1,2,3,4,5,6,7,8,9,10,11,12,13,14,15,17,18,19,21,22,23,24,25,26,27,28,29,30,31,32,34,35,36,38,39,40,41,42,43,44,45,46,47,48,49,50,51,52,53,54]} }
def Xw:ag->Bool:=λs=>xlAt vw [] s&&recOk (RowW.records (OpenRow.toRowW oj.row)) s
def obF:List (Frag->Bool):=[(nR · "is_whole" 202),(nR · "is_between" 209),(nR · "is_rising" 214),(nR · "is_thing" 221),(nR · "are_things" 226),(nR · "is_pair" 233),(nR · "are_pairs" 238),(nR · "has_alike" 243),(nR · "is_complete" 248),(nR · "is_order" 255),(nR · "need_order" 262),(nR · "need_thing" 269),(nR · "ahead_of" 274),(nR · "are_loose" 281),(nR · "is_bar" 288),(nR · "levels_of" 293),(nR · "levels_or_bar" 298),(nR · "_law_take" 305),(nR · "_law_mixed" 312),(nR · "_law_closed" 319),(nR · "_law_whole" 326),(nR · "_law_cell_at" 333),(nR · "_law_state" 340),(nR · "_law_sizes" 347),(nR · "_law_order" 352),(nR · "_law_numbered" 359),(nR · "_law_of_sizes" 366),(nR · "_law_same" 371),(nR · "_law_bad_order" 378),(nR · "_law_refused" 383),(nR · "_law_renamed" 388),(nR · "_law_bar" 393),(nR · "_law_are_levels" 398),(nR · "law" 405),(nR · "NoOrder" 37),(nR · "NoNumber" 49),(nR · "NoPairs" 61),(nR · "Round" 73),(nR · "NoThing" 85),(nR · "NoRow" 97),(nR · "TooMany" 145),(nR · "TooFew" 157),(nR · "NoText" 169),(nR · "NoLine" 181),(nR · "NoDeed" 193),(nR · "NoSeating" 109),(nR · "NoRing" 121),(nR · "NoSizes" 133),(nR · "NearError" 24),(nN · "ValueError"),(nN · "all"),(nN · "any"),(nN · "bool"),(nN · "int"),(nN · "isinstance"),(nN · "len"),(nN · "list"),(nN · "max"),(nN · "min"),(nN · "range"),(nN · "set"),(nN · "sorted"),(nN · "sum"),(nN · "tuple"),(nN · "zip"),(codeIn · (.ref 201) "is_whole"),(codeIn · (.ref 208) "is_between"),(codeIn · (.ref 213) "is_rising"),(codeIn · (.ref 220) "is_thing"),(codeIn · (.ref 225) "are_things"),(codeIn · (.ref 232) "is_pair"),(codeIn · (.ref 237) "are_pairs"),(codeIn · (.ref 242) "has_alike"),(codeIn · (.ref 247) "is_complete"),(codeIn · (.ref 254) "is_order"),(codeIn · (.ref 261) "need_order"),(codeIn · (.ref 268) "need_thing"),(codeIn · (.ref 273) "ahead_of"),(codeIn · (.ref 280) "are_loose"),(codeIn · (.ref 287) "is_bar"),(codeIn · (.ref 292) "levels_of"),(codeIn · (.ref 297) "levels_or_bar"),(codeIn · (.ref 304) "_law_take"),(codeIn · (.ref 311) "_law_mixed"),(codeIn · (.ref 318) "_law_closed"),(codeIn · (.ref 325) "_law_whole"),(codeIn · (.ref 332) "_law_cell_at"),(codeIn · (.ref 339) "_law_state"),(codeIn · (.ref 346) "_law_sizes"),(codeIn · (.ref 351) "_law_order"),(codeIn · (.ref 358) "_law_numbered"),(codeIn · (.ref 365) "_law_of_sizes"),(codeIn · (.ref 370) "_law_same"),(codeIn · (.ref 377) "_law_bad_order"),(codeIn · (.ref 382) "_law_refused"),(codeIn · (.ref 387) "_law_renamed"),(codeIn · (.ref 392) "_law_bar"),(codeIn · (.ref 397) "_law_are_levels"),(codeIn · (.ref 404) "law"),(keepIn · (.ref 202)),(keepIn · (.ref 209)),(keepIn · (.ref 214)),(keepIn · (.ref 221)),(keepIn · (.ref 226)),(keepIn · (.ref 233)),(keepIn · (.ref 238)),(keepIn · (.ref 243)),(keepIn · (.ref 248)),(keepIn · (.ref 255)),(keepIn · (.ref 262)),(keepIn · (.ref 269)),(keepIn · (.ref 274)),(keepIn · (.ref 281)),(keepIn · (.ref 288)),(keepIn · (.ref 293)),(keepIn · (.ref 298)),(keepIn · (.ref 305)),(keepIn · (.ref 312)),(keepIn · (.ref 319)),(keepIn · (.ref 326)),(keepIn · (.ref 333)),(keepIn · (.ref 340)),(keepIn · (.ref 347)),(keepIn · (.ref 352)),(keepIn · (.ref 359)),(keepIn · (.ref 366)),(keepIn · (.ref 371)),(keepIn · (.ref 378)),(keepIn · (.ref 383)),(keepIn · (.ref 388)),(keepIn · (.ref 393)),(keepIn · (.ref 398)),(keepIn · (.ref 405)),(AX · "MOST_THINGS" 6),λK=>decide (tabIn K "law"=some (404,400)),(excIn · 37 QM "ValueError.__new__"),(sI · (.ref 37) (.ref 24) true),(sI · (.ref 49) (.ref 24) true),(sI · (.ref 61) (.ref 24) true),(sI · (.ref 73) (.ref 24) true),(sI · (.ref 85) (.ref 24) true),(sI · (.ref 97) (.ref 24) true),(sI · (.ref 145) (.ref 24) true),(sI · (.ref 157) (.ref 24) true),(sI · (.ref 169) (.ref 24) true),(sI · (.ref 181) (.ref 24) true),(sI · (.ref 193) (.ref 24) true),(sI · (.ref 109) (.ref 24) true),(sI · (.ref 121) (.ref 24) true),(sI · (.ref 133) (.ref 24) true),(kIq · 37 37 true),(kIq · 37 49 false),(kIq · 37 61 false),(kIq · 37 73 false),(kIq · 37 85 false),(kIq · 37 97 false),(kIq · 37 145 false),(kIq · 37 157 false),(kIq · 37 169 false),(kIq · 37 181 false),(kIq · 37 193 false),(kIq · 37 109 false),(kIq · 37 121 false),(kIq · 37 133 false),λK=>decide (findIn K (.ref 37) "__getattribute__"=some (some (.builtin "BaseException.__getattribute__"))),λK=>decide (findIn K (.ref 37) "__getattr__"=some none),λK=>decide (findIn K (.ref 37) "__class__"=some (some (.builtin "object.__class__"))),λK=>decide (mroIn K 37 (.type "object")=some true),(sI · (.ref 37) (.type "BaseException") true),λK=>decide (kitCls K (.ref 37) (.ref 37)=some true),(AW · 37),λK=>decide (kitOne K (.ref 37) (.type "ValueError")=some true),(sI · (.ref 24) (.type "BaseException") true),(sI · (.type "type") (.type "tuple") false),λK=>decide (kitCls K (.ref 24) (.ref 24)=some true)]
def AY(K:Frag):List (Option bq):=[dQ K 202,dQ K 209,dQ K 214,dQ K 221,dQ K 226,dQ K 233,dQ K 238,dQ K 243,dQ K 248,dQ K 255,dQ K 262,dQ K 269,dQ K 274,dQ K 281,dQ K 288,dQ K 293,dQ K 298,dQ K 305,dQ K 312,dQ K 319,dQ K 326,dQ K 333,dQ K 340,dQ K 347,dQ K 352,dQ K 359,dQ K 366,dQ K 371,dQ K 378,dQ K 383,dQ K 388,dQ K 393,dQ K 398,dQ K 405]
def AZ:List (Option bq):=[fE aa 17 201,fE aa 18 208,fE aa 19 213,fE aa 22 220,fE aa 23 225,fE aa 24 232,fE aa 25 237,fE aa 26 242,fE aa 27 247,fE aa 28 254,fE aa 29 261,fE aa 30 268,fE aa 31 273,fE aa 32 280,fE aa 34 287,fE aa 35 292,fE aa 36 297,fE aa 38 304,fE aa 39 311,fE aa 40 318,fE aa 41 325,fE aa 42 332,fE aa 43 339,fE aa 44 346,fE aa 45 351,fE aa 46 358,fE aa 47 365,fE aa 48 370,fE aa 49 377,fE aa 50 382,fE aa 51 387,fE aa 52 392,fE aa 53 397,fE aa 54 404]
def ob(K:Frag):Bool×List (Option bq):=(obF.all (λf=>f K),AY K)
abbrev obE:Bool×List (Option bq):=(true,AZ)
theorem G9{α β γ:Type}{o:Option α}{f:α->β}{g:α->γ}{a:β}{b:γ}(h1:o.map f=some a)(h2:o.map g=some b):o.map (λs=>(f s,g s))=some (a,b):=by
 cases o with
 |none=>cases h1
 |some s=>cases h1;cases h2;rfl
theorem QO{α β γ:Type}{o:Option α}{f:α->β×γ}{a:β×γ}(h1:o.map (λs=>(f s).1)=some a.1)(h2:o.map (λs=>(f s).2)=some a.2):o.map f=some a:=by
 cases o with
 |none=>cases h1
 |some s=>exact congrArg some (Prod.ext (cn h1) (cn h2))
abbrev sn(s:ag):=openSeen vw [] (importedModules (aa).main.body) Xw true s
theorem QP(w:cb):(openEnds treeTable aa w 8000).map (λs=>(sn s).1)=some (openGood vw []).1:=by unfold sn;rw[wF,Fast.te4187177175401517315];kernel_rfl
theorem QQ(w:cb):(openEnds treeTable aa w 8000).map (λs=>(sn s).2)=some (openGood vw []).2:=by unfold sn;rw[wF,Fast.te4187177175401517315];kernel_rfl
theorem QR(w:cb):(openEnds treeTable aa w 8000).map sn=some (openGood vw []):=QO (QP w) (QQ w)
theorem QS(w:cb):(openEnds treeTable aa w 8000).map (λs=>obF.all (λf=>f (tI s.heap)))=some true:=by rw[wF];kernel_rfl
theorem QT(w:cb):(openEnds treeTable aa w 8000).map (λs=>AY (tI s.heap))=some AZ:=by rw[wF];kernel_rfl
theorem ws:OpenLaw.wellSaid oj=true:=by kernel_rfl
theorem left:LeftO aa vw [] Xw (λs=>ob (tI s.heap)) (λ_=>obE) 8000:=λw=>G9 (QR w) (G9 (QS w) (QT w))
end L2.Mr.K72
abbrev Ib:PySem.Str:="__debug__"
namespace L2
abbrev eK:=Sum Int Str
def tJ:eK->af->Bool
 |.inl k,v=>Value.isInt k v
 |.inr x,v=>Value.isStrOf x v
def QU(w:cb):eK->Int
 |.inl k=>hashInt k
 |.inr x=>hashStr w x
theorem lV:∀{k:eK}{v:af},tJ k v=true->(∃i t,k=ui i/\v=nr i t)∨(∃x t,k=xa x/\v=Value.str x t)
 |.inl i,v,h=>by obtain⟨t,e⟩:=kn (k:=i) (v:=v) h;exact .inl ⟨i,t,rfl,e⟩
 |.inr x,v,h=>by obtain⟨t,e⟩:=Value.isStrOf_shape (x:=x) (v:=v) h;exact .inr ⟨x,t,rfl,e⟩
theorem QV(i:Int)(t:Tok):tJ (.inl i) (.int i t)=true:=by simp[tJ,Value.isInt]
theorem QW(a b:Int):decide ((ui a:eK)=ui b)=(a==b):=by
 by_cases e:a=b
 ·subst e;simp
 ·have h:¬(ui a:eK)=ui b:=λq=>e (Sum.inl.inj q);rw[decide_eq_false h];exact(beq_eq_false_iff_ne.mpr e).symm
theorem QX(a b:Str):decide ((xa a:eK)=xa b)=decide (a=b):=by
 by_cases e:a=b
 ·subst e;simp
 ·have h:¬(xa a:eK)=xa b:=λq=>e (Sum.inr.inj q);rw[decide_eq_false h,decide_eq_false e]
theorem QY(a:Int)(b:Str):decide ((ui a:eK)=xa b)=false:=decide_eq_false (λq=>nomatch q)
theorem QZ(a:Str)(b:Int):decide ((xa a:eK)=ui b)=false:=decide_eq_false (λq=>nomatch q)
def qV(prog:bj)(w:cb):PySem.KeyKind prog w eK where
 is:=tJ
 hash:=QU w
 inj:=λv a b ha hb=>by
  rcases lV ha with⟨i,t,rfl,rfl⟩|⟨x,t,rfl,rfl⟩
  ·rcases lV hb with⟨j,u,rfl,e⟩|⟨y,u,rfl,e⟩
   ·injection e with e1 _;rw[e1]
   ·exact nomatch e
  ·rcases lV hb with⟨j,u,rfl,e⟩|⟨y,u,rfl,e⟩
   ·exact nomatch e
   ·injection e with e1 _;rw[e1]
 byValue:=λk v h=>by rcases lV h with⟨i,t,rfl,rfl⟩|⟨x,t,rfl,rfl⟩<;>rfl
 pyHash:=λhv h=>by
  rcases lV hv with⟨i,t,rfl,rfl⟩|⟨x,t,rfl,rfl⟩
  ·exact wpAny_pyHash_int h
  ·exact wpAny_pyHash_str h
 eqBool:=λhu hv h=>by
  rcases lV hu with⟨i,t,rfl,rfl⟩|⟨x,t,rfl,rfl⟩
  ·rcases lV hv with⟨j,u,rfl,rfl⟩|⟨y,u,rfl,rfl⟩
   ·rw[QW]at h;exact wpAny_eqBool_int h
   ·rw[QY]at h;exact SeqAt.EqAt.int_str i t y u _ _ _ _ h
  ·rcases lV hv with⟨j,u,rfl,rfl⟩|⟨y,u,rfl,rfl⟩
   ·rw[QZ]at h;exact SeqAt.EqAt.str_int x t j u _ _ _ _ h
   ·rw[QX]at h;exact wpAny_eqBool_str h
 «strs»:=λk x t v h=>by
  rcases lV h with⟨i,u,rfl,e⟩|⟨y,u,rfl,e⟩
  ·exact nomatch e
  ·injection e with e1 _;subst e1
   cases v<;>rfl
theorem A0(prog:bj)(w:cb)(i:Int)(t:Tok):(qV prog w).is (.inl i) (.int i t)=true:=QV i t
inductive V where
 |non|bl (b:Bool)|int (i:Int)|str (x:Str)|byt (b:Array UInt8)|flt (b:UInt64)|ref (a:ai)|ty (n:String)
 deriving DecidableEq
def RelV:V->af->Prop
 |.non,u=>u=jn
 |.bl b,u=>u=vn b
 |.int i,u=>∃t,u=nr i t
 |.str x,u=>∃t,u=Value.str x t
 |.byt b,u=>∃t,u=Value.bytes b t
 |.flt b,u=>∃t,u=Value.float b t
 |.ref a,u=>u=jd a
 |.ty n,u=>u=vp n
abbrev Cc:List V->List af->Prop:=Paired RelV
theorem Cc.length{xs:List V}{us:List af}(r:Cc xs us):xs.length=us.length:=Paired.length r
theorem Cc.get:∀{xs:List V}{us:List af}{i:Nat}{x:V},Cc xs us->xs[i]?=some x->∃u,us[i]?=some u/\RelV x u
 |_,_,_,_,.nil,e=>by simp at e
 |_,_,0,_,.cons r _,e=>by simp at e;subst e;exact⟨_,rfl,r⟩
 |_,_,i+1,x,.cons _ t,e=>by obtain⟨u,h1,h2⟩:=Cc.get (i:=i) (x:=x) t (by simpa using e);exact⟨u,by simpa using h1,h2⟩
theorem Cc.set{x:V}{u:af}(r:RelV x u):∀{xs:List V}{us:List af}(i:Nat),Cc xs us->Cc (xs.set i x) (us.set i u)
 |_,_,_,.nil=>.nil
 |_,_,0,.cons _ t=>.cons r t
 |_,_,i+1,.cons q t=>.cons q (Cc.set r i t)
theorem Cc.append:∀{xs ys:List V}{us ws:List af},Cc xs us->Cc ys ws->Cc (xs++ys) (us++ws)
 |_,_,_,_,.nil,s=>s
 |_,_,_,_,.cons r t,s=>.cons r (Cc.append t s)
theorem Cc.take:∀{xs:List V}{us:List af}(n:Nat),Cc xs us->Cc (xs.take n) (us.take n)
 |_,_,0,_=>.nil
 |_,_,_+1,.nil=>.nil
 |_,_,n+1,.cons r t=>.cons r (Cc.take n t)
theorem Cc.drop:∀{xs:List V}{us:List af}(n:Nat),Cc xs us->Cc (xs.drop n) (us.drop n)
 |_,_,0,r=>r
 |_,_,_+1,.nil=>.nil
 |_,_,n+1,.cons _ t=>Cc.drop n t
def HB:Option V->Option af->Prop
 |some v,some u=>RelV v u
 |none,none=>True
 |_,_=>False
def KV{κ:Type}:List (κ×V)->List (κ×af)->Prop:=Paired λ(p:κ×V)(q:κ×af)=>p.1=q.1/\RelV p.2 q.2
def kV:eK->V
 |.inl i=>.int i
 |.inr x=>.str x
inductive HO where
 |lst (xs:List V)
 |tup (xs:List V)
 |dK (kvs:List (eK×V))|dT (kvs:List (List eK×V))
 |set (S:Int->Bool) (n:Nat)
 |ins (C dx:ai) (fs:List (Str×V))
 |own (x:ai)
 |xd (fs:List (Str×V))
 |met (f x:ai)
 |rng (lo hi:Int)
 |frz (o:Obj) (u:HO)
 |tbl (ps:Array af)
 |ext (φ:cq->Prop)
abbrev Hp:=ai->Option HO
def aV(H:Hp)(a:ai)(o:HO):Hp:=λb=>if b=a then some o else H b
theorem dR{H:Hp}{a:ai}{o:HO}:aV H a o a=some o:=by unfold aV;rw[if_pos rfl]
theorem cB{H:Hp}{a b:ai}{o:HO}(h:b≠a):aV H a o b=H b:=by unfold aV;rw[if_neg h]
theorem mV{H:Hp}{a b:ai}{o u:HO}(h:H a=some o)(h':H b=some u)(d:o≠u):a≠b:=by intro e;subst e;rw[h]at h';exact d (cn h')
theorem gL{H:Hp}{a b:ai}{o:HO}(h:H a=some o)(h':H b=none):a≠b:=by intro e;subst e;rw[h]at h';cases h'
def Dc(h:cq)(a:ai)(items:Array af):Prop:=∃o,h.get? a=some o/\o.cls=.type "tuple"/\o.dict=none/\∃n,o.data=.seq items n
theorem Dc.tup{h:cq}{a:ai}{items:Array af}(x:Dc h a items):Aj h a items:=let ⟨o,e,c,_,d⟩:=x;⟨o,e,c,d⟩
theorem Dc.lt{h:cq}{a:ai}{items:Array af}(x:Dc h a items):a<h.objs.size:=let ⟨_,e,_⟩:=x;au e
theorem Dc.new(h:cq)(items:Array af):Dc (h.push {cls:=.type "tuple",data:=.seq items}) h.objs.size items:=⟨_,aw _ rfl,rfl,rfl,_,rfl⟩
section
variable(P:bj) (w:cb)
def Ce(H:Hp)(h:cq)(a:ai):HO->Prop
 |.lst xs=>xs.length<=cp/\∃(its:List af)(n:Nat),Cc xs its/\h.get? a=some {cls:=.type "list",data:=.seq its.toArray n}
 |.tup xs=>xs.length<=cp/\∃its:List af,Cc xs its/\Dc h a its.toArray
 |.dK kvs=>kvs.length<=cp/\(a==sysModules)=false/\∃vs,KV kvs vs/\h.DictOf (qV P w) a vs
 |.dT kvs=>kvs.length<=cp/\(a==sysModules)=false/\∃xs:List (List eK×ai×af),
   Paired (λ(p:List eK×V)(q:List eK×ai×af)=>p.1=q.1/\H q.2.1=some (.tup (p.1.map kV))/\RelV p.2 q.2.2) kvs xs/\
   ∃o es ep,h.get? a=some o/\o.ExactDict/\o.data=.dict es ep/\es.toList=xs.map (entryOfKey (tupleKind (qV P w)))/\(xs.map (·.1)).Nodup
 |.set S n=>h.SetOf (intKind P w) a S n
 |.ins C dx fs=>H dx=some (.own a)/\fs.length<=1000/\dx≠a/\h.get? a=some (PySem.W.instObj C dx)/\
   ∃mA,h.Ns1 dx mA/\(∀f,HB (fs.lookup f) (mA f))/\PySem.Within mA (fs.map (·.1))
 |.own _=>∃o,h.get? a=some o
 |.xd fs=>∃mA,h.Ns1 a mA/\∀f,HB (fs.lookup f) (mA f)
 |.rng lo hi=>∃t u v,h.get? a=some {cls:=.type "range",data:=.fields #[.int lo t,.int hi u,.int 1 v]}
 |.frz o u=>h.get? a=some o/\Ce H h a u
 |.tbl ps=>h.get? a=some {cls:=.none,data:=.fields ps}
 |.met f x=>h.get? a=some (vq (.ref f) (.ref x))
 |.ext φ=>φ h/\(∃o,h.get? a=some o)/\∀h1 h2:cq,φ h1->(∀o,h1.get? a=some o->h2.get? a=some o)->φ h2
def Dn(H:Hp)(h:cq):Prop:=∀a o,H a=some o->Ce P w H h a o
end
section
variable{P:bj}{w:cb}{H H':Hp}{h h':cq}{a:ai}{o:HO}
theorem Ce.lt(x:Ce P w H h a o):a<h.objs.size:=by
 cases o with
 |lst xs=>obtain⟨_,_,_,_,e⟩:=x;exact au e
 |tup xs=>obtain⟨_,_,_,p⟩:=x;exact p.lt
 |dK kvs=>obtain⟨_,_,_,_,o,_,_,e,_⟩:=x;exact au e
 |dT kvs=>obtain⟨_,_,_,_,o,_,_,e,_⟩:=x;exact au e
 |set S n=>obtain⟨o,_,_,_,e,_⟩:=x;exact au e
 |ins C dx fs=>obtain⟨_,_,_,e,_⟩:=x;exact au e
 |own y=>obtain⟨_,e⟩:=x;exact au e
 |xd fs=>obtain⟨_,⟨_,_,_,e,_⟩,_⟩:=x;exact au e
 |rng lo hi=>obtain⟨_,_,_,e⟩:=x;exact au e
 |frz ob u=>obtain⟨e,_⟩:=x;exact au e
 |tbl ps=>exact au (show h.get? a=some _ from x)
 |met f y=>exact au (show h.get? a=some _ from x)
 |ext φ=>obtain⟨_,⟨_,e⟩,_⟩:=x;exact au e
theorem Paired.mapP{α β:Type}{F G:α->β->Prop}:∀{l₁:List α}{l₂:List β},Paired F l₁ l₂->(∀a b,F a b->G a b)->Paired G l₁ l₂
 |_,_,.nil,_=>.nil
 |_,_,.cons r t,f=>.cons (f _ _ r) (Paired.mapP t f)
theorem Ce.stay(x:Ce P w H h a o)(k:∀b u,(b=a∨H b=some (.own a))->h.get? b=some u->h'.get? b=some u)(ho:∀b,H b=some (.own a)->H' b=some (.own a))(ht:∀b xs,H b=some (.tup xs)->H' b=some (.tup xs)):Ce P w H' h' a o:=by
 induction o with
 |lst xs=>obtain⟨z,its,n,r,e⟩:=x;exact⟨z,its,n,r,k _ _ (.inl rfl) e⟩
 |tup xs=>obtain⟨z,its,r,ob,e,c⟩:=x;exact⟨z,its,r,ob,k _ _ (.inl rfl) e,c⟩
 |dK kvs=>obtain⟨z,y,vs,r,ob,es,ep,e,c⟩:=x;exact⟨z,y,vs,r,ob,es,ep,k _ _ (.inl rfl) e,c⟩
 |dT kvs=>obtain⟨z,y,xs,r,ob,es,ep,e,c⟩:=x;exact⟨z,y,xs,Paired.mapP r λp q z=>⟨z.1,ht _ _ z.2.1,z.2.2⟩,ob,es,ep,k _ _ (.inl rfl) e,c⟩
 |set S n=>obtain⟨ob,es,ep,t,e,c⟩:=x;exact⟨ob,es,ep,t,k _ _ (.inl rfl) e,c⟩
 |ins C dx fs=>obtain⟨d,z,ne,e,mA,⟨od,es,ep,e2,c⟩,r⟩:=x;exact⟨ho _ d,z,ne,k _ _ (.inl rfl) e,mA,⟨od,es,ep,k _ _ (.inr d) e2,c⟩,r⟩
 |own y=>obtain⟨ob,e⟩:=x;exact⟨ob,k _ _ (.inl rfl) e⟩
 |xd fs=>obtain⟨mA,⟨od,es,ep,e,c⟩,r⟩:=x;exact⟨mA,⟨od,es,ep,k _ _ (.inl rfl) e,c⟩,r⟩
 |rng lo hi=>obtain⟨t,u,v,e⟩:=x;exact⟨t,u,v,k _ _ (.inl rfl) e⟩
 |frz ob u ih=>obtain⟨e,q⟩:=x;exact⟨k _ _ (.inl rfl) e,ih q⟩
 |tbl ps=>have e:h.get? a=some {cls:=.none,data:=.fields ps}:=x;show h'.get? a=some {cls:=.none,data:=.fields ps};exact k a _ (.inl rfl) e
 |met f y=>have e:h.get? a=some (vq (.ref f) (.ref y)):=x;show h'.get? a=some (vq (.ref f) (.ref y));exact k a _ (.inl rfl) e
 |ext φ=>obtain⟨p,⟨o,e⟩,st⟩:=x;exact⟨st _ _ p λo q=>k _ _ (.inl rfl) q,⟨o,k _ _ (.inl rfl) e⟩,st⟩
theorem Dn.lt(x:Dn P w H h)(e:H a=some o):a<h.objs.size:=(x a o e).lt
theorem Dn.fresh(x:Dn P w H h)(e:h.objs.size<=a):H a=none:=by
 cases q:H a with
 |none=>rfl
 |some u=>exact absurd (av (x.lt q) e) (iu _)
theorem Dn.kept(x:Dn P w H h)(k:∀b u,h.get? b=some u->h'.get? b=some u):Dn P w H h':=λa o e=>(x a o e).stay (λb u _ q=>k b u q) (λ_ q=>q) λ_ _ q=>q
theorem Dn.laid(x:Dn P w H h)(k:∀b u,h.get? b=some u->h'.get? b=some u)(hp:h.objs.size<=a)(new:Ce P w (aV H a o) h' a o):Dn P w (aV H a o) h':=λb u e=>by
 have hn:=x.fresh hp
 by_cases hb:b=a
 ·subst hb;rw[dR]at e;cases e;exact new
 ·rw[cB hb]at e;exact(x b u e).stay (λc v _ q=>k c v q) (λc q=>by rw[cB (gL q hn)];exact q) λc xs q=>by rw[cB (gL q hn)];exact q
end
def Rd(H:Hp)(a:ai)(u:HO):Prop:=H a=some u∨∃o,H a=some (.frz o u)
theorem Rd.ok{P:bj}{w:cb}{H:Hp}{h:cq}{a:ai}{u:HO}(r:Rd H a u)(x:Dn P w H h):Ce P w H h a u:=by
 rcases r with r|⟨o,r⟩
 ·exact x a u r
 ·obtain⟨_,q⟩:=x a _ r;exact q
def wG:Option HO->Prop
 |some (.lst _)=>True
 |some (.dK _)=>True
 |some (.dT _)=>True
 |some (.set _ _)=>True
 |some (.ins _ _ _)=>True
 |some (.ext _)=>True
 |_=>False
section
variable{P:bj}{w:cb}{H:Hp}{h h':cq}{x e:ai}{o':HO}
theorem Dn.write(ok:Dn P w H h)(mu:wG (H x))(he:e=x∨H e=some (.own x))(k:∀b u,b≠e->h.get? b=some u->h'.get? b=some u)(heo:∃u,h'.get? e=some u)(new:Ce P w (aV H x o') h' x o'):Dn P w (aV H x o') h':=λb u q=>by
 have nown:∀c y,H c=some (.own y)->c≠x:=λc y r z=>by subst z;rw[r]at mu;exact mu
 have ntup:∀c xs,H c=some (.tup xs)->c≠x:=λc xs r z=>by subst z;rw[r]at mu;exact mu
 by_cases hb:b=x
 ·subst hb;rw[dR]at q;cases q;exact new
 ·rw[cB hb]at q
  by_cases hbe:b=e
  ·have q':H b=some (.own x):=by
    rcases he with z|z
    ·exact absurd (hbe.trans z) hb
    ·rw[hbe];exact z
   rw[q]at q';cases q';obtain⟨v,hv⟩:=heo;exact⟨v,by rw[hbe];exact hv⟩
  ·refine(ok b u q).stay (λc v hc r=>k c v ?_ r) (λc r=>by rw[cB (nown c b r)];exact r) λc xs r=>by rw[cB (ntup c xs r)];exact r
   rcases hc with rfl|hc
   ·exact hbe
   ·rintro rfl
    rcases he with z|z
    ·exact nown c b hc z
    ·rw[hc]at z;cases z;exact hb rfl
end
structure Un(fs ex:List ai)(H H':Hp)(h h':cq):Prop where
 keep:∀b o,h.get? b=some o->H b=none->b∉fs->b∉ex->h'.get? b=some o
 slot:∀b o,h.get? b=some o->H b=none->b∈fs->b∉ex->∃sl,h'.get? b=some {o with slots:=sl}
 free:∀b o,h.get? b=some o->H b=none->b∉ex->H' b=none
 there:∀b o,h.get? b=some o->b∉ex->∃o',h'.get? b=some o'
 tups:∀b xs,H b=some (.tup xs)->H' b=some (.tup xs)
 frzs:∀b o u,H b=some (.frz o u)->H' b=some (.frz o u)
 tbls:∀b ps,H b=some (.tbl ps)->∃more,H' b=some (.tbl (ps++more))
section
variable{fs fs' ex ex':List ai}{H H1 H2:Hp}{h h1 h2 h':cq}{a x e:ai}{o:HO}
theorem Un.any(u:Un fs ex H H1 h h1){b:ai}{ob:Obj}(q:h.get? b=some ob)(n:H b=none)(hx:b∉ex):∃sl,h1.get? b=some {ob with slots:=sl}:=by
 by_cases hb:b∈fs
 ·exact u.slot b ob q n hb hx
 ·exact⟨ob.slots,u.keep b ob q n hb hx⟩
theorem Un.kept(k:∀b u,h.get? b=some u->h'.get? b=some u):Un fs ex H H h h':=⟨λb ob q _ _ _=>k b ob q,λb ob q _ _ _=>⟨ob.slots,k b ob q⟩,λ_ _ _ n _=>n,λb ob q _=>⟨ob,k b ob q⟩,λ_ _ q=>q,λ_ _ _ q=>q,λ_ ps q=>⟨#[],by rw[q];simp⟩⟩
theorem Un.refl:Un fs ex H H h h:=Un.kept λ_ _ q=>q
theorem Un.laid(k:∀b u,h.get? b=some u->h'.get? b=some u)(hp:h.objs.size<=a)(hn:H a=none):Un fs ex H (aV H a o) h h' where
 keep:=λb u q _ _ _=>k b u q
 slot:=λb u q _ _ _=>⟨u.slots,k b u q⟩
 free:=λb u q n _=>by rw[cB (ay (av (au q) hp))];exact n
 there:=λb u q _=>⟨u,k b u q⟩
 tups:=λb xs q=>by rw[cB (gL q hn)];exact q
 frzs:=λb u xs q=>by rw[cB (gL q hn)];exact q
 tbls:=λb ps q=>⟨#[],by rw[cB (gL q hn),q];simp⟩
theorem Un.write(mu:wG (H x))(he:e=x∨H e=some (.own x))(k:∀b u,b≠e->h.get? b=some u->h'.get? b=some u)(heo:∃u,h'.get? e=some u):Un fs ex H (aV H x o) h h':=by
 have hx:∀b,H b=none->b≠x:=λb n z=>by subst z;rw[n]at mu;exact mu
 have hb:∀b,H b=none->b≠e:=λb n z=>by
  subst z
  rcases he with r|r
  ·exact hx b n r
  ·rw[n]at r;cases r
 have hm:∀b u,H b=some u->¬wG (some u)->b≠x:=λb u q nm z=>by subst z;rw[q]at mu;exact nm mu
 refine⟨λb u q n _ _=>k b u (hb b n) q,λb u q n _ _=>⟨u.slots,k b u (hb b n) q⟩,λb u q n _=>by rw[cB (hx b n)];exact n,λb u q _=>?_,
  λb xs q=>by rw[cB (hm b _ q λz=>z)];exact q,λb u xs q=>by rw[cB (hm b _ q λz=>z)];exact q,λb ps q=>⟨#[],by rw[cB (hm b _ q λz=>z),q];simp⟩⟩
 by_cases hbe:b=e
 ·subst hbe;exact heo
 ·exact⟨u,k b u hbe q⟩
end
def wH(h:cq)(H:Hp):List ai:=(az h.objs.size).filter λa=>(H a).isSome
def kU(h:cq)(H:Hp):cq:=PySem.W.hideAll h (wH h H)
theorem Q0(h:cq)(H:Hp):(kU h H).objs.size=h.objs.size:=zx _ _
theorem Q2{h:cq}{H:Hp}{b:ai}{o:Obj}(e:h.get? b=some o)(n:H b=none):(kU h H).get? b=some o:=Ab _ e λhm=>by have q:(H b).isSome=true:=(kq.mp hm).2;rw[n]at q;simp at q
theorem Q3{h:cq}{H:Hp}{b:ai}{o:Obj}(e:(kU h H).get? b=some o):h.get? b=some o/\H b=none:=by
 have e':h.get? b=some o:=Ak (wH h H) e;refine⟨e',?_⟩
 cases q:H b with
 |none=>rfl
 |some x=>have hm:b∈wH h H:=kq.mpr ⟨br.mpr (au e'),by simp[q]⟩;have z:(kU h H).get? b=none:=zy (wH h H) hm;rw[z]at e;cases e
structure Mod(K:ar)(mg:Str->Option af)(base:cq):Prop where
 kin:K.In base
 glob:base.Ns du mg
 blt:∃mb,base.Ns builtinsNs mb/\∀x:Str,x≠"__name__"->mb x=dk x
 nolimit:base.NoLimit
structure Cx where
 prog:bj
 w:cb
 K:ar
 mg:Str->Option af
 base:cq
 A:bx
 N:Br
 s₀:ag
 H₀:Hp
 env:Env
 outer:List Env
 stack:List Env
 ex:List ai
 fn:Str->Bool
 calm:Bool
 pn:List (ai×Obj)
 xe:af->ag->Prop
def eY(l:List Env):List ai:=l.filterMap (·.frame)
abbrev Cx.fs(X:Cx):List ai:=eY X.outer
def pF(sc:fy)(x:Str):Prop:=sc.names.lookup x=some .local∨sc.names.lookup x=some .cell∨sc.names.lookup x=some .free
def lW(sc:fy)(x:Str):Prop:=sc.names.lookup x=some .local∨sc.names.lookup x=some .cell
def HC(env:Env)(h:cq)(m:Str->Option af)(x:Str)(u:af):Prop:=(env.kindOf x=some .local/\m x=some u)∨((env.kindOf x=some .cell∨env.kindOf x=some .free)/\∃c,env.cells.lookup x=some c/\h.IsCell c (some u))
structure Cx.Ok(X:Cx):Prop where
 mod:Mod X.K X.mg X.base
 kind:X.env.scope.kind=.function
 glob:X.env.globals=du
 blt:X.env.builtins=builtinsNs
 above:X.s₀.heap.objs.size<=X.env.locals
 inj:∀x y c,X.env.cells.lookup x=some c->X.env.cells.lookup y=some c->x=y
 has:∀x,(X.env.kindOf x=some .cell∨X.env.kindOf x=some .free)->∃c,X.env.cells.lookup x=some c
 cab:∀x c,X.fn x=true->X.env.cells.lookup x=some c->X.s₀.heap.objs.size<=c
 hd:X.calm=true->X.A.handled=none
 frames:X.A.frames=some X.stack
 stk:X.stack=X.outer∨(X.stack=X.env::X.outer/\X.env.frame=some X.env.locals)
 exf:∀b∈X.ex,b≠X.env.locals/\∀x c,X.env.cells.lookup x=some c->c≠b
 bs:∀b o,X.base.get? b=some o->X.s₀.heap.get? b=some o/\X.H₀ b=none
 bsz:X.base.objs.size<=X.s₀.heap.objs.size
 noex:∀b o,X.base.get? b=some o->b∉X.ex
 exfs:∀b∈X.ex,b∉X.fs
 funs:X.s₀.heap.FunFrames X.base X.outer
 frf:∀b∈X.fs,X.H₀ b=none
structure Inv(X:Cx)(pins:List (ai×Obj))(σ:List (Option V))(H:Hp)(s:ag):Prop where
 ok:X.Ok
 os:s.os=X.s₀.os
 bare:uf s.gens
 base:Un X.fs X.ex X.H₀ H X.s₀.heap s.heap
 loc:∃m,s.heap.Ns X.env.locals m/\∀(i:Nat)(x:Str)(v:V),X.N[i]?=some x->σ[i]?=some (some v)->pF X.env.scope x->∃u,RelV v u/\HC X.env s.heap m x u
 cell:∀x c,X.env.cells.lookup x=some c->∃v,s.heap.IsCell c v
 free:H X.env.locals=none
 freeC:∀x c,X.env.cells.lookup x=some c->H c=none
 pin:∀p∈X.pn++pins,s.heap.get? p.1=some p.2/\H p.1=none/\p.1≠X.env.locals/\p.1∉X.fs/\∀v,p.2.data≠.cell v
 hok:Dn X.prog X.w H s.heap
 len:σ.length=X.N.length
section
variable{X:Cx}{pins:List (ai×Obj)}{σ:List (Option V)}{H H':Hp}{s:ag}{h':cq}
theorem Cx.Ok.nofr(ok:X.Ok){b:ai}{o:Obj}(e:X.base.get? b=some o):b∉X.fs:=λhb=>by have:=(ok.funs.mem hb).1;rw[e]at this;cases this
theorem Inv.bs(I:Inv X pins σ H s):∀b o,X.base.get? b=some o->s.heap.get? b=some o/\H b=none:=λb o e=>⟨I.base.keep b o (I.ok.bs b o e).1 (I.ok.bs b o e).2 (I.ok.nofr e) (I.ok.noex b o e),I.base.free b o (I.ok.bs b o e).1 (I.ok.bs b o e).2 (I.ok.noex b o e)⟩
theorem Inv.bk(I:Inv X pins σ H s):∀b o,X.base.get? b=some o->s.heap.get? b=some o:=λb o e=>(I.bs b o e).1
theorem Inv.mod(I:Inv X pins σ H s):Mod X.K X.mg X.base:=I.ok.mod
theorem Inv.kIn(I:Inv X pins σ H s):X.K.In s.heap:=I.ok.mod.kin.keeps I.bk
theorem Inv.lt(I:Inv X pins σ H s):X.env.locals<s.heap.objs.size:=let ⟨_,hn,_⟩:=I.loc;hn.lt
theorem Inv.sz(I:Inv X pins σ H s):X.s₀.heap.objs.size<=s.heap.objs.size:=df I.ok.above (gh I.lt)
theorem Inv.nofs(I:Inv X pins σ H s){a:ai}(h:s.heap.objs.size<=a):a∉X.fs:=λhb=>by obtain⟨_,o,ho,_⟩:=I.ok.funs.mem hb;exact absurd (av (au ho) (df I.sz h)) (iu _)
theorem Inv.cne(I:Inv X pins σ H s):∀x c,X.env.cells.lookup x=some c->c≠X.env.locals:=λx c e z=>by obtain⟨v,o,ho,hd⟩:=I.cell x c e;obtain⟨m,⟨o',es,ep,Gn,Fx,_⟩,_⟩:=I.loc;rw[z,Gn]at ho;cases ho;rw[Fx]at hd;cases hd
theorem Inv.funs(I:Inv X pins σ H s):s.heap.FunFrames X.base X.outer:=by
 have all:∀(l:List Env),(∀b∈eY l,b∈X.fs)->X.s₀.heap.FunFrames X.base l->s.heap.FunFrames X.base l:=by
  intro l
  induction l with
  |nil=>intro _ _;trivial
  |cons env r ih=>intro hs hl;obtain⟨hk,⟨L,o,hf,hn,ho,hd⟩,hr⟩:=hl;have hL:L∈X.fs:=hs L (by unfold eY;rw[cu,hf];exact bh);obtain⟨sl,e⟩:=I.base.slot L o ho (I.ok.frf L hL) hL λz=>I.ok.exfs L z hL;exact⟨hk,⟨L,_,hf,hn,e,hd⟩,ih (λb hb=>hs b (by unfold eY;rw[cu,hf];exact ax _ hb)) hr⟩
 exact all X.outer (λ_ hb=>hb) I.ok.funs
theorem Inv.stack(I:Inv X pins σ H s):s.heap.FunFrames X.base X.stack:=by
 rcases I.ok.stk with e|⟨e,hf⟩
 ·rw[e];exact I.funs
 ·rw[e];obtain⟨m,hn,_⟩:=I.loc;refine .cons (by rw[I.ok.kind];decide) hf hn ?_ I.funs;exact Heap.get?_none_of_le (df I.ok.bsz I.ok.above)
theorem Inv.stkSub(I:Inv X pins σ H s):∀b∈eY X.stack,b∈X.env.locals::X.fs:=λb hb=>by
 rcases I.ok.stk with e|⟨e,hf⟩
 ·rw[e]at hb;exact ax _ hb
 ·rw[e]at hb;unfold eY at hb;rw[cu,hf]at hb;exact hb
theorem Inv.stkFree(I:Inv X pins σ H s):∀b∈eY X.stack,H b=none:=λb hb=>by
 rcases bc.mp (I.stkSub b hb)with e|hb
 ·rw[e];exact I.free
 ·obtain⟨_,o,ho,_⟩:=I.ok.funs.mem hb;exact I.base.free b o ho (I.ok.frf b hb) λz=>I.ok.exfs b z hb
theorem Inv.step{g':Array GenState}{t':Nat}{d':Drawn}{ch:List ai}(I:Inv X pins σ H s)(Fy:∀b∈ch,(b∈X.ex∨X.s₀.heap.objs.size<=b)/\b≠X.env.locals/\(∀x c,X.env.cells.lookup x=some c->c≠b)/\∀p∈X.pn++pins,p.1≠b)(keep:∀b o,b≠X.env.locals->b∉X.fs->b∉ch->s.heap.get? b=some o->H b=none->h'.get? b=some o)(slot:∀b o,b≠X.env.locals->b∈X.fs->b∉ch->s.heap.get? b=some o->H b=none->∃sl,h'.get? b=some {o with slots:=sl})(free:∀b o,b∉ch->s.heap.get? b=some o->H b=none->H' b=none)(there:∀b o,b∉ch->s.heap.get? b=some o->∃o',h'.get? b=some o')(tups:∀b xs,H b=some (.tup xs)->H' b=some (.tup xs))(frzs:∀b o u,H b=some (.frz o u)->H' b=some (.frz o u))(tbls:∀b ps,H b=some (.tbl ps)->∃more,H' b=some (.tbl (ps++more)))(ns:∀m,s.heap.Ns X.env.locals m->h'.Ns X.env.locals m)(hok:Dn X.prog X.w H' h')(hg:uf g'):
  Inv X pins σ H' {s with heap:=h',gens:=g',drawn:=d',toks:=t'}:=by
 have neL:∀b o,X.s₀.heap.get? b=some o->b≠X.env.locals:=λb o e=>ay (av (au e) I.ok.above);have neC:∀b o,X.s₀.heap.get? b=some o->b∉X.ex->b∉ch:=λb o e hx hb=>by
  rcases(Fy b hb).1 with z|z
  ·exact hx z
  ·exact absurd (av (au e) z) (iu _)
 have cellK:∀x c,X.env.cells.lookup x=some c->∀v,s.heap.IsCell c v->h'.IsCell c v:=λx c e v⟨o,ho,hd⟩=>by
  have nch:c∉ch:=λz=>(Fy c z).2.2.1 x c e rfl
  by_cases hc:c∈X.fs
  ·obtain⟨sl,q⟩:=slot c o (I.cne x c e) hc nch ho (I.freeC x c e);exact⟨_,q,hd⟩
  ·exact⟨o,keep c o (I.cne x c e) hc nch ho (I.freeC x c e),hd⟩
 refine⟨I.ok,I.os,hg,⟨λb o e n hb hx=>?_,λb o e n hb hx=>?_,λb o e n hx=>?_,λb o e hx=>?_,λb xs e=>tups b xs (I.base.tups b xs e),λb o xs e=>frzs b o xs (I.base.frzs b o xs e),λb ps e=>?_⟩,?_,λx c e=>?_,?_,λx c e=>?_,λp hp=>?_,hok,I.len⟩
 ·exact keep b o (neL b o e) hb (neC b o e hx) (I.base.keep b o e n hb hx) (I.base.free b o e n hx)
 ·obtain⟨sl,e1⟩:=I.base.slot b o e n hb hx;obtain⟨sl',e2⟩:=slot b _ (neL b o e) hb (neC b o e hx) e1 (I.base.free b o e n hx);exact⟨sl',e2⟩
 ·obtain⟨o',e1⟩:=I.base.there b o e hx;exact free b o' (neC b o e hx) e1 (I.base.free b o e n hx)
 ·obtain⟨o',e1⟩:=I.base.there b o e hx;exact there b o' (neC b o e hx) e1
 ·obtain⟨m1,e1⟩:=I.base.tbls b ps e;obtain⟨m2,e2⟩:=tbls b _ e1;exact⟨m1++m2,by rw[e2,Array.append_assoc]⟩
 ·obtain⟨m,hn,hl⟩:=I.loc;refine⟨m,ns m hn,λi x v e1 e2 e3=>?_⟩;obtain⟨u,r,l⟩:=hl i x v e1 e2 e3;refine⟨u,r,?_⟩
  rcases l with l|⟨k,c,e,z⟩
  ·exact .inl l
  ·exact .inr ⟨k,c,e,cellK x c e _ z⟩
 ·obtain⟨v,z⟩:=I.cell x c e;exact⟨v,cellK x c e v z⟩
 ·obtain⟨m,⟨o,_,_,ho,_⟩,_⟩:=I.loc;exact free _ o (λz=>(Fy _ z).2.1 rfl) ho I.free
 ·obtain⟨v,o,ho,hd⟩:=I.cell x c e;exact free c o (λz=>(Fy c z).2.2.1 x c e rfl) ho (I.freeC x c e)
 ·obtain⟨e,n,ne,nf,d⟩:=I.pin p hp;have nch:p.1∉ch:=λz=>(Fy p.1 z).2.2.2 p hp rfl;exact⟨keep p.1 p.2 ne nf nch e n,free p.1 p.2 nch e n,ne,nf,d⟩
theorem Inv.un{t':Nat}(I:Inv X pins σ H s)(u:Un X.fs [] H H' s.heap h')(hok:Dn X.prog X.w H' h'):Inv X pins σ H' {s with heap:=h',toks:=t'}:=by obtain⟨m,⟨o,es,ep,ho,r⟩,_⟩:=id I.loc;obtain⟨sl,hL⟩:=u.any ho I.free (by simp);exact I.step (g':=s.gens) (d':=s.drawn) (ch:=[]) (λ_ z=>nomatch z) (λb o _ hb _ e n=>u.keep b o e n hb (by simp)) (λb o _ hb _ e n=>u.slot b o e n hb (by simp)) (λb o _ e n=>u.free b o e n (by simp)) (λb o _ e=>u.there b o e (by simp)) u.tups u.frzs u.tbls (λm' hm=>by obtain⟨o',es',ep',Gn,r'⟩:=hm;rw[ho]at Gn;cases Gn;exact⟨_,es',ep',hL,r'⟩) hok I.bare
theorem Inv.call{g':Array GenState}{t':Nat}{d':Drawn}{ch:List ai}(I:Inv X pins σ H s)(u:Un (eY X.stack) ch H H' s.heap h')(hok:Dn X.prog X.w H' h')(hg:uf g')(Fy:∀b∈ch,(b∈X.ex∨X.s₀.heap.objs.size<=b)/\b≠X.env.locals/\(∀x c,X.env.cells.lookup x=some c->c≠b)/\∀p∈X.pn++pins,p.1≠b):
  Inv X pins σ H' {s with heap:=h',gens:=g',drawn:=d',toks:=t'}:=by
 obtain⟨m,⟨o,es,ep,ho,r⟩,_⟩:=id I.loc;obtain⟨sl,hL⟩:=u.any ho I.free λz=>(Fy _ z).2.1 rfl;exact I.step (ch:=ch) Fy (λb o hL hb hc e n=>u.keep b o e n (λz=>(bc.mp (I.stkSub b z)).elim hL hb) hc) (λb o _ _ hc e n=>u.any e n hc) (λb o hc e n=>u.free b o e n hc) (λb o hc e=>u.there b o e hc) u.tups u.frzs u.tbls (λm' hm=>by obtain⟨o',es',ep',Gn,r'⟩:=hm;rw[ho]at Gn;cases Gn;exact⟨_,es',ep',hL,r'⟩) hok hg
theorem Inv.turned{t':Nat}{it:ai}(I:Inv X pins σ H s)(k:∀b o,b≠it->s.heap.get? b=some o->h'.get? b=some o)(hn:H it=none)(hL:it≠X.env.locals)(h1:it∈X.ex∨X.s₀.heap.objs.size<=it)(h2:∀x c,X.env.cells.lookup x=some c->c≠it)(h3:∀p∈X.pn++pins,p.1≠it):Inv X pins σ H {s with heap:=h',toks:=t'}:=by
 have nit:∀b u,H b=some u->b≠it:=λb u e z=>by rw[z,hn]at e;cases e
 refine I.step (g':=s.gens) (d':=s.drawn) (ch:=[it]) (λb hb=>?_) (λb o _ _ hc e _=>k b o (λz=>hc (by simp[z])) e) (λb o _ _ hc e _=>⟨o.slots,k b o (λz=>hc (by simp[z])) e⟩) (λ_ _ _ _ n=>n)
  (λb o hc e=>⟨o,k b o (λz=>hc (by simp[z])) e⟩) (λ_ _ e=>e) (λ_ _ _ e=>e) (λb ps e=>⟨#[],by rw[e];simp⟩) (λm hm=>?_) (λb u e=>?_) I.bare
 ·have e:b=it:=by simpa using hb
  subst e;exact⟨h1,hL,h2,h3⟩
 ·obtain⟨o,es,ep,ho,r⟩:=hm;exact⟨o,es,ep,k _ o (dg hL) ho,r⟩
 ·refine(I.hok b u e).stay (λc v hc q=>k c v ?_ q) (λ_ q=>q) λ_ _ q=>q
  rcases hc with z|z
  ·rw[z];exact nit b u e
  ·exact nit c _ z
theorem Inv.tok(I:Inv X pins σ H s)(t:Nat):Inv X pins σ H {s with toks:=t}:=I.un (h':=s.heap) (t':=t) Un.refl I.hok
theorem Inv.kept{t':Nat}(I:Inv X pins σ H s)(k:∀b u,s.heap.get? b=some u->h'.get? b=some u):Inv X pins σ H {s with heap:=h',toks:=t'}:=I.un (Un.kept k) (I.hok.kept k)
theorem Inv.laid{a:ai}{o:HO}{t':Nat}(I:Inv X pins σ H s)(k:∀b u,s.heap.get? b=some u->h'.get? b=some u)(hp:s.heap.objs.size<=a)(new:Ce X.prog X.w (aV H a o) h' a o):
  Inv X pins σ (aV H a o) {s with heap:=h',toks:=t'}:=I.un (Un.laid k hp (I.hok.fresh hp)) (I.hok.laid k hp new)
theorem Inv.write{x e:ai}{o:HO}{t':Nat}(I:Inv X pins σ H s)(mu:wG (H x))(he:e=x∨H e=some (.own x))(k:∀b u,b≠e->s.heap.get? b=some u->h'.get? b=some u)(heo:∃u,h'.get? e=some u)(new:Ce X.prog X.w (aV H x o) h' x o):Inv X pins σ (aV H x o) {s with heap:=h',toks:=t'}:=I.un (Un.write mu he k heo) (I.hok.write mu he k heo new)
theorem Inv.pins_of{pins':List (ai×Obj)}(I:Inv X pins σ H s)(h:∀p∈pins',s.heap.get? p.1=some p.2/\H p.1=none/\p.1≠X.env.locals/\p.1∉X.fs/\∀v,p.2.data≠.cell v):Inv X pins' σ H s:=⟨I.ok,I.os,I.bare,I.base,I.loc,I.cell,I.free,I.freeC,λp hp=>(fq.mp hp).elim (λz=>I.pin p (jt _ z)) (h p),I.hok,I.len⟩
theorem A1{N:Br}(hN:N.Nodup){i j:Nat}{x:Str}(a:N[i]?=some x)(b:N[j]?=some x):i=j:=by obtain⟨h1,e1⟩:=ba.mp a;obtain⟨h2,e2⟩:=ba.mp b;exact(List.getElem_inj hN).mp (e1.trans e2.symm)
theorem HD{M:yf}{A:bx}{E:af->ag->Prop}{i:Nat}{x:Str}{v:V}{u:af}{Q:Unit->ag->Prop}(I:Inv X pins σ H s)(hN:X.N.Nodup)(hi:X.N[i]?=some x)(hx:lW X.env.scope x)(r:RelV v u)(h:∀s',Inv X pins (σ.set i (some v)) H s'->(∃a,ig a s.heap s'.heap/\(a=X.env.locals∨X.env.cells.lookup x=some a))->Q () s')(hf:X.fn x=true∨X.env.scope.names.lookup x=some .local:=by first|exact .inl rfl|exact .inr rfl|assumption):wpAny M A (storeName X.env x u) Q E s:=by
 obtain⟨m,hn,hl⟩:=id I.loc;have hcls:(X.env.scope.kind==.class||(X.env.scope.kind==.module&&X.env.locals !=X.env.globals))=false:=by rw[I.ok.kind];rfl
 have hiσ:i<σ.length:=by rw[I.len];exact(ba.mp hi).1
 have cne:=I.cne;have tracked:∀{a:ai}{h':cq},(∃o,s.heap.get? a=some o/\H a=none)->ig a s.heap h'->Dn X.prog X.w H h':=λ{a h'}ha hs b ob e=>by
  obtain⟨_,_,hfree⟩:=ha;refine(I.hok b ob e).stay (λc w' hc q=>(hs.2 c ?_).trans q) (λ_ q=>q) λ_ _ q=>q
  rintro rfl
  rcases hc with rfl|hc
  ·rw[hfree]at e;cases e
  ·rw[hfree]at hc;cases hc
 rcases hx with hk|hk
 ·refine wpAny_storeName_local hk hn (λh' hn' hs=>?_) hcls;obtain⟨oL,_,_,hoL,_⟩:=id hn;refine h _ ⟨I.ok,I.os,I.bare,⟨λb o e n hb hx=>?_,λb o e n hb hx=>?_,I.base.free,λb o e hx=>?_,I.base.tups,I.base.frzs,I.base.tbls⟩,⟨_,hn',λj y v' e1 e2 e3=>?_⟩,λy c e=>?_,I.free,I.freeC,λp hp=>?_,tracked ⟨oL,hoL,I.free⟩ hs,by simpa using I.len⟩ ⟨_,hs,.inl rfl⟩
  ·exact(hs.2 b (ay (av (au e) I.ok.above))).trans (I.base.keep b o e n hb hx)
  ·obtain⟨sl,e1⟩:=I.base.slot b o e n hb hx;exact⟨sl,(hs.2 b (ay (av (au e) I.ok.above))).trans e1⟩
  ·obtain⟨o',e1⟩:=I.base.there b o e hx;exact⟨o',(hs.2 b (ay (av (au e) I.ok.above))).trans e1⟩
  ·by_cases hj:j=i
   ·subst hj;rw[hi]at e1;cases e1;rw[dv hiσ]at e2;cases e2;exact⟨u,r,.inl ⟨hk,by simp⟩⟩
   ·rw[da (dg hj)]at e2;obtain⟨u',r',q⟩:=hl j y v' e1 e2 e3;refine⟨u',r',?_⟩
    rcases q with⟨k,e⟩|⟨k,c,e,z⟩
    ·refine .inl ⟨k,?_⟩;have:y≠x:=λe=>hj (A1 hN e1 (e▸hi));simp[this,e]
    ·exact .inr ⟨k,c,e,z.sameBut hs (cne y c e)⟩
  ·obtain⟨w',z⟩:=I.cell y c e;exact⟨w',z.sameBut hs (cne y c e)⟩
  ·obtain⟨e,n,ne,nf,d⟩:=I.pin p hp;exact⟨(hs.2 p.1 ne).trans e,n,ne,nf,d⟩
 ·have hfn:X.fn x=true:=by
   rcases hf with z|z
   ·exact z
   ·rw[z]at hk;cases hk
  obtain⟨c,hc⟩:=I.ok.has x (.inl hk);obtain⟨w',z⟩:=I.cell x c hc;refine wpAny_storeName_cell I.ok.kind hk hc z (λh' hc' hs=>?_);obtain⟨oc,hoc,hocd⟩:=id z;refine h {s with heap:=h'} ⟨I.ok,I.os,I.bare,⟨λb o e n hb hx=>?_,λb o e n hb hx=>?_,I.base.free,λb o e hx=>?_,I.base.tups,I.base.frzs,I.base.tbls⟩,⟨m,hn.sameBut hs (dg (cne x c hc)),λj y v' e1 e2 e3=>?_⟩,λy c' e=>?_,I.free,I.freeC,λp hp=>?_,tracked ⟨oc,hoc,I.freeC x c hc⟩ hs,by simpa using I.len⟩ ⟨c,hs,.inr hc⟩
  ·exact(hs.2 b (ay (av (au e) (I.ok.cab x c hfn hc)))).trans (I.base.keep b o e n hb hx)
  ·obtain⟨sl,e1⟩:=I.base.slot b o e n hb hx;exact⟨sl,(hs.2 b (ay (av (au e) (I.ok.cab x c hfn hc)))).trans e1⟩
  ·obtain⟨o',e1⟩:=I.base.there b o e hx;exact⟨o',(hs.2 b (ay (av (au e) (I.ok.cab x c hfn hc)))).trans e1⟩
  ·by_cases hj:j=i
   ·subst hj;rw[hi]at e1;cases e1;rw[dv hiσ]at e2;cases e2;exact⟨u,r,.inr ⟨.inl hk,c,hc,hc'⟩⟩
   ·rw[da (dg hj)]at e2;obtain⟨u',r',q⟩:=hl j y v' e1 e2 e3;refine⟨u',r',?_⟩
    rcases q with q|⟨k,c',e,z'⟩
    ·exact .inl q
    ·refine .inr ⟨k,c',e,z'.sameBut hs ?_⟩
     rintro rfl
     exact hj (A1 hN e1 (I.ok.inj _ _ _ e hc▸hi))
  ·by_cases hcc:c'=c
   ·subst hcc;exact⟨_,hc'⟩
   ·obtain⟨w2,z2⟩:=I.cell y c' e;exact⟨w2,z2.sameBut hs hcc⟩
  ·obtain⟨e,n,ne,nf,d⟩:=I.pin p hp;refine⟨(hs.2 p.1 ?_).trans e,n,ne,nf,d⟩;intro q;rw[q,hoc]at e;have q':oc=p.2:=cn e;exact d w' (by rw[<-q'];exact hocd)
theorem A2{M:yf}{A:bx}{E:af->ag->Prop}{i:Nat}{x:Str}{v:V}{u:af}{Q:Unit->ag->Prop}(I:Inv X pins σ H s)(hN:X.N.Nodup)(hi:X.N[i]?=some x)(hx:lW X.env.scope x)(r:RelV v u)(h:∀s',Inv X pins (σ.set i (some v)) H s'->Q () s')(hf:X.fn x=true∨X.env.scope.names.lookup x=some .local:=by first|exact .inl rfl|exact .inr rfl|assumption):wpAny M A (storeName X.env x u) Q E s:=
 HD I hN hi hx r (λs' I' _=>h s' I') hf
theorem Inv.call'{s':ag}{ch:List ai}(I:Inv X pins σ H s)(ho:s'.os=s.os)(u:Un (eY X.stack) ch H H' s.heap s'.heap)(hok:Dn X.prog X.w H' s'.heap)(hg:uf s'.gens)(Fy:∀b∈ch,(b∈X.ex∨X.s₀.heap.objs.size<=b)/\b≠X.env.locals/\(∀x c,X.env.cells.lookup x=some c->c≠b)/\∀p∈X.pn++pins,p.1≠b):Inv X pins σ H' s':=by
 obtain⟨h',g',d',t',o'⟩:=s';have e:o'=s.os:=ho;subst e;exact I.call (g':=g') (t':=t') (d':=d') u hok hg Fy
end
abbrev XK:=af->Option ai->Hp->Prop
abbrev St:=List (Option V)
abbrev VK:=V->Hp->Prop
abbrev TE:=St->Hp->VK->Prop
abbrev TT:=St->Hp->(Bool->Hp->Prop)->Prop
abbrev TA:=St->Hp->(List V->Hp->Prop)->Prop
structure Ends where
 nx:St->Hp->Prop
 rt:VK
 bk:St->Hp->Prop:=λ_ _=>False
 ct:St->Hp->Prop:=λ_ _=>False
abbrev TS:=Ends->St->Hp->Prop
inductive EP(X:Cx)(pins:List (ai×Obj))(σ:St)(Q:VK)(u:af)(s':ag):Prop
 |mk (v:_) (H':_) (h0:Inv X pins σ H' s') (h1:RelV v u) (h2:Q v H'):EP X pins σ Q u s'
def TP(X:Cx)(pins:List (ai×Obj))(σ:St)(Q:Bool->Hp->Prop)(b:Bool)(s':ag):Prop:=∃H',Inv X pins σ H' s'/\Q b H'
inductive AP(X:Cx)(pins:List (ai×Obj))(σ:St)(Q:List V->Hp->Prop)(us:List af)(s':ag):Prop
 |mk (vs:_) (H':_) (h0:Inv X pins σ H' s') (h1:Cc vs us) (h2:Q vs H'):AP X pins σ Q us s'
def SP(X:Cx)(pins:List (ai×Obj))(D:Ends)(f:Flow)(s':ag):Prop:=
 match f with
 |.next=>∃σ' H',Inv X pins σ' H' s'/\D.nx σ' H'
 |.brk=>∃σ' H',Inv X pins σ' H' s'/\D.bk σ' H'
 |.cont=>∃σ' H',Inv X pins σ' H' s'/\D.ct σ' H'
 |.ret u=>∃v σ' H',Inv X pins σ' H' s'/\RelV v u/\D.rt v H'
def PE(X:Cx)(e:bp)(t:TE):Prop:=∀(pins:List (ai×Obj))(s:ag)(σ:St)(H:Hp)(Q:VK),Inv X pins σ H s->t σ H Q->wpAny (model X.prog X.w) X.A (eval e X.env) (EP X pins σ Q) X.xe s
def PT(X:Cx)(e:bp)(t:TT):Prop:=∀(pins:List (ai×Obj))(s:ag)(σ:St)(H:Hp)(Q:Bool->Hp->Prop),Inv X pins σ H s->t σ H Q->wpAny (model X.prog X.w) X.A (isTrue e X.env (eval e X.env)) (TP X pins σ Q) X.xe s
def PW(X:Cx)(e:bp)(t:TT):Prop:=∀(whole:Sem af)(pins:List (ai×Obj))(s:ag)(σ:St)(H:Hp)(Q:Bool->Hp->Prop),Inv X pins σ H s->t σ H Q->wpAny (model X.prog X.w) X.A (isTrue e X.env whole) (TP X pins σ Q) X.xe s
theorem PW.pt{X:Cx}{e:bp}{t:TT}(h:PW X e t):PT X e t:=h _
def PA(X:Cx)(es:List bp)(t:TA):Prop:=∀(pos:Pos)(pins:List (ai×Obj))(s:ag)(σ:St)(H:Hp)(Q:List V->Hp->Prop),Inv X pins σ H s->t σ H Q->wpAny (model X.prog X.w) X.A (spliced (backTo pos (aq es X.env))) (AP X pins σ Q) X.xe s
def PS(X:Cx)(st:iq)(t:TS):Prop:=∀(pins:List (ai×Obj))(s:ag)(σ:St)(H:Hp)(D:Ends),Inv X pins σ H s->t D σ H->wpAny (model X.prog X.w) X.A (exec st X.env) (SP X pins D) X.xe s
def Ha(X:Cx)(st:List iq)(t:TS):Prop:=∀(pins:List (ai×Obj))(s:ag)(σ:St)(H:Hp)(D:Ends),Inv X pins σ H s->t D σ H->wpAny (model X.prog X.w) X.A (execs st X.env) (SP X pins D) X.xe s
theorem bQ{α:Type}{t:Sem α}{Q Q':α->ag->Prop}{M:yf}{A:bx}{E:af->ag->Prop}{s:ag}(h:wpAny M A t Q E s)(hQ:∀a s,Q a s->Q' a s):wpAny M A t Q' E s:=kz h hQ λ_ _ x=>x
section
variable{X:Cx}
def Q4(i:Nat):TE:=λσ H Q=>∃v,σ[i]?=some (some v)/\Q v H
def tC(v:V):TE:=λ_ H Q=>Q v H
theorem A3{i:Nat}{x:Str}{pos:Pos}(hN:X.N[i]?=some x)(hv:pF X.env.scope x)(hd:(x==Ib)=false:=by decide)(hcd:(x==("__classdict__":Str))=false:=by decide):PE X (.Name x pos) (Q4 i):=by
 intro pins s σ H Q I h;obtain⟨v,e,h⟩:=h;obtain⟨m,hn,hl⟩:=I.loc;obtain⟨u,r,l⟩:=hl i x v hN e hv;have fin:EP X pins σ Q u s:=⟨v,H,I,r,h⟩
 rcases l with⟨hk,hm⟩|⟨hk,c,hc,hcell⟩
 ·exact wpAny_Name (wpAny_loadName_local I.ok.kind hk hn hm fin) hd
 ·rcases hk with hk|hk
  ·exact wpAny_Name (wpAny_loadName_cell I.ok.kind hk hc hcell fin) hd
  ·exact wpAny_Name (wpAny_loadName_free I.ok.kind hk hc hcell fin hcd) hd
theorem Q5{i j pos}:PE X (.Constant (.int i) j pos) (tC (.int i)):=λ_ _ _ H _ I h=>wpAny_Constant_int ⟨.int i,H,I.tok _,⟨_,rfl⟩,h⟩
theorem Q6{b j pos}:PE X (.Constant (.bool b) j pos) (tC (.bl b)):=λ_ _ _ H _ I h=>Constant_bool ⟨.bl b,H,I,rfl,h⟩
theorem HE{j pos}:PE X (.Constant .none j pos) (tC .non):=λ_ _ _ H _ I h=>Constant_none ⟨.non,H,I,rfl,h⟩
theorem Q7{x j pos}:PE X (.Constant (.str x) j pos) (tC (.str x)):=λ_ _ _ H _ I h=>Calls.Constant_str ⟨.str x,H,I.tok _,⟨_,rfl⟩,h⟩
def Gl(X:Cx)(x:Str):Prop:=X.env.kindOf x=some .globalImplicit
theorem tK{E:af->ag->Prop}{pins:List (ai×Obj)}{s:ag}{σ:St}{H:Hp}{x:Str}{u:af}{pos:Pos}{Q:af->ag->Prop}(I:Inv X pins σ H s)(hg:Gl X x)(hm:X.mg x=some u)(h:Q u s)(hd:(x==Ib)=false:=by decide):wpAny (model X.prog X.w) X.A (eval (.Name x pos) X.env) Q E s:=
 yg I.ok.kind hg (Calls.loadGlobal_global (by rw[I.ok.glob];exact I.mod.glob.keeps I.bk) hm h) hd
theorem qW{E:af->ag->Prop}{pins:List (ai×Obj)}{s:ag}{σ:St}{H:Hp}{x:Str}{u:af}{pos:Pos}{Q:af->ag->Prop}(I:Inv X pins σ H s)(hg:Gl X x)(hm:X.mg x=none)(hv:dk x=some u)(h:Q u s)(hn:x≠"__name__":=by decide)(hd:(x==Ib)=false:=by decide):wpAny (model X.prog X.w) X.A (eval (.Name x pos) X.env) Q E s:=by
 obtain⟨mb,h1,h2⟩:=I.mod.blt;exact yg I.ok.kind hg (Calls.loadGlobal_builtin (by rw[I.ok.glob];exact I.mod.glob.keeps I.bk) hm (by rw[I.ok.blt];exact h1.keeps I.bk) ((h2 x hn).trans hv) h) hd
theorem HF{x:Str}{v:V}{u:af}{pos:Pos}(hg:Gl X x)(hm:X.mg x=some u)(r:RelV v u)(hd:(x==Ib)=false:=by decide):PE X (.Name x pos) (tC v):=λ_ _ _ H _ I h=>tK I hg hm ⟨v,H,I,r,h⟩ hd
variable{a b:bp}{ta tb:TE}{pos:Pos}
def tB(t:TE):TT:=λσ H Q=>t σ H λx H1=>∃c,x=.bl c/\Q c H1
variable{tA tB':TT}{rest:List bp}
def HG(t u:TT):TT:=λσ H Q=>t σ H λc H1=>if c=true then u σ H1 Q else Q false H1
def HH(t u:TT):TT:=λσ H Q=>t σ H λc H1=>if c=true then Q true H1 else u σ H1 Q
def Q8(t:TT):TT:=λσ H Q=>t σ H λc H1=>Q (!c) H1
theorem Q9(ha:PT X a tA):PW X (.BoolOp .And [a] pos) tA:=by
 intro wh pins s σ H Q I h;refine isTrue_and (bQ (ha pins s σ H Q I h) λc s1 e=>?_)
 cases c with
 |true=>exact isTrue_and_nil e
 |false=>exact e
theorem RA(ha:PT X a tA):PW X (.BoolOp .Or [a] pos) tA:=by
 intro wh pins s σ H Q I h;refine isTrue_or (bQ (ha pins s σ H Q I h) λc s1 e=>?_)
 cases c with
 |false=>exact isTrue_or_nil e
 |true=>exact e
theorem RC(ha:PT X a tA)(hb:PW X (.BoolOp .And (b::rest) pos) tB'):PW X (.BoolOp .And (a::b::rest) pos) (HG tA tB'):=by
 intro wh pins s σ H Q I h;refine isTrue_and (bQ (ha pins s σ H _ I h) λc s1⟨H1,I1,q1⟩=>?_)
 cases c with
 |true=>exact hb wh pins s1 σ H1 Q I1 q1
 |false=>exact⟨H1,I1,q1⟩
theorem RD(ha:PT X a tA)(hb:PW X (.BoolOp .Or (b::rest) pos) tB'):PW X (.BoolOp .Or (a::b::rest) pos) (HH tA tB'):=by
 intro wh pins s σ H Q I h;refine isTrue_or (bQ (ha pins s σ H _ I h) λc s1⟨H1,I1,q1⟩=>?_)
 cases c with
 |true=>exact⟨H1,I1,q1⟩
 |false=>exact hb wh pins s1 σ H1 Q I1 q1
theorem RE(ha:PT X a tA):PT X (.UnaryOp .Not a pos) (Q8 tA):=by intro pins s σ H Q I h;exact isTrue_not (ha pins s σ H (λc H1=>Q (!c) H1) I h)
def RF(ta tb:TE):TE:=λσ H Q=>ta σ H λx H1=>∃c,x=.bl c/\if c=true then tb σ H1 Q else Q (.bl false) H1
def RG(ta:TE):TE:=λσ H Q=>ta σ H λx H1=>∃c,x=.bl c/\Q (.bl (!c)) H1
theorem RH{op}{t:TE}(h:PE X a t):PE X (.BoolOp op [a] pos) t:=λpins s σ H Q I hw=>BoolOp_one (h pins s σ H Q I hw)
theorem RI(ha:PE X a ta)(hb:PE X (.BoolOp .And (b::rest) pos) tb):PE X (.BoolOp .And (a::b::rest) pos) (RF ta tb):=by
 intro pins s σ H Q I h;refine BoolOp_and (bQ (ha pins s σ H _ I h) λv s1⟨x,H1,I1,r1,q1⟩=>?_);obtain⟨c,rfl,q1⟩:=q1;cases r1;refine nt ?_
 cases c with
 |true=>exact hb pins s1 σ H1 Q I1 q1
 |false=>exact⟨.bl false,H1,I1,rfl,q1⟩
theorem RJ(ha:PE X a ta):PE X (.UnaryOp .Not a pos) (RG ta):=by intro pins s σ H Q I h;refine UnaryOp_ (bQ (ha pins s σ H _ I h) λv s1⟨x,H1,I1,r1,q1⟩=>?_);obtain⟨c,rfl,q1⟩:=q1;cases r1;exact not_of (nt ⟨.bl (!c),H1,I1,rfl,q1⟩)
end
def Dj(K:ar)(H:Hp)(a:ai)(xs:List V):Prop:=
 Rd H a (.lst xs) ∨
  ∃(o:Obj)(its:Array af)(n:Nat),K.lookup a=some o/\o.cls=.type "list"/\o.dict=none/\o.data=.seq its n/\its.size<=cp/\Cc xs its.toList
def Ct(K:ar)(H:Hp)(a:ai)(xs:List V):Prop:=
 Rd H a (.tup xs) ∨
  ∃(o:Obj)(its:Array af)(n:Nat),K.lookup a=some o/\o.cls=.type "tuple"/\o.data=.seq its n/\its.size<=cp/\Cc xs its.toList
def RK:af->Option V
 |.none=>some .non
 |.bool b=>some (.bl b)
 |.int i _=>some (.int i)
 |.str x _=>some (.str x)
 |.bytes b _=>some (.byt b)
 |.float b _=>some (.flt b)
 |.ref a=>some (.ref a)
 |.type n=>some (.ty n)
 |_=>none
theorem RelV.abs{x:V}{u:af}(r:RelV x u):RK u=some x:=by
 cases x with
 |non=>cases r;rfl
 |bl _=>cases r;rfl
 |int _=>obtain⟨t,rfl⟩:=r;rfl
 |str _=>obtain⟨t,rfl⟩:=r;rfl
 |byt _=>obtain⟨t,rfl⟩:=r;rfl
 |flt _=>obtain⟨t,rfl⟩:=r;rfl
 |ref _=>cases r;rfl
 |ty _=>cases r;rfl
theorem RelV.inj{x y:V}{u:af}(r:RelV x u)(q:RelV y u):x=y:=cn (r.abs.symm.trans q.abs)
theorem Cc.inj:∀{xs ys:List V}{us:List af},Cc xs us->Cc ys us->xs=ys
 |_,_,_,.nil,.nil=>rfl
 |_,_,_,.cons r t,.cons r' t'=>by rw[r.inj r',Cc.inj t t']
section
variable{X:Cx}{pins:List (ai×Obj)}{σ:St}{H:Hp}{s:ag}{a:ai}{xs ys:List V}
theorem Dj.of{K:ar}(h:H a=some (.lst xs)):Dj K H a xs:=.inl (.inl h)
theorem Ct.of{K:ar}(h:H a=some (.tup xs)):Ct K H a xs:=.inl (.inl h)
theorem Inv.list(I:Inv X pins σ H s)(h:Dj X.K H a xs):∃its:List af,Cc xs its/\PlainL s.heap a its.toArray/\xs.length<=cp:=by
 rcases h with h|⟨o,its,n,hk,hc,hd,hs,hz,r⟩
 ·obtain⟨z,its,n,r,e⟩:=h.ok I.hok;exact⟨its,r,⟨_,n,e,rfl,rfl,rfl⟩,z⟩
 ·refine⟨its.toList,r,⟨o,n,I.kIn a o hk,hc,hd,by simpa using hs⟩,?_⟩;have e:=r.length;simp only[jx]at e
  lia
theorem Inv.tuple(I:Inv X pins σ H s)(h:Ct X.K H a xs):∃its:List af,Cc xs its/\Aj s.heap a its.toArray/\xs.length<=cp:=by
 rcases h with h|⟨o,its,n,hk,hc,hs,hz,r⟩
 ·obtain⟨z,its,r,p⟩:=h.ok I.hok;exact⟨its,r,p.tup,z⟩
 ·refine⟨its.toList,r,⟨o,I.kIn a o hk,hc,n,by simpa using hs⟩,?_⟩;have e:=r.length;simp only[jx]at e
  lia
theorem Inv.list_inj(I:Inv X pins σ H s)(h:Dj X.K H a xs)(h':Dj X.K H a ys):xs=ys:=by
 obtain⟨its,r,⟨o,n,e,_,_,d⟩,_⟩:=I.list h;obtain⟨its',r',⟨o',n',e',_,_,d'⟩,_⟩:=I.list h';rw[e]at e';cases e';rw[d]at d';injection d' with d1 _;have:its=its':=by simpa using congrArg Array.toList d1
 subst this;exact r.inj r'
theorem Inv.tuple_inj(I:Inv X pins σ H s)(h:Ct X.K H a xs)(h':Ct X.K H a ys):xs=ys:=by
 obtain⟨its,r,⟨o,e,_,n,d⟩,_⟩:=I.tuple h;obtain⟨its',r',⟨o',e',_,n',d'⟩,_⟩:=I.tuple h';rw[e]at e';cases e';rw[d]at d';injection d' with d1 _;have:its=its':=by simpa using congrArg Array.toList d1
 subst this;exact r.inj r'
end
abbrev Cx.wish(X:Cx)(E:af->ag->Prop):Cx:={X with xe:=E}
abbrev Cx.nox(X:Cx):Cx:=X.wish λ_ _=>False
theorem Cx.Ok.wish{X:Cx}(ok:X.Ok)(E:af->ag->Prop):(X.wish E).Ok:=⟨ok.mod,ok.kind,ok.glob,ok.blt,ok.above,ok.inj,ok.has,ok.cab,ok.hd,ok.frames,ok.stk,ok.exf,ok.bs,ok.bsz,ok.noex,ok.exfs,ok.funs,ok.frf⟩
theorem Cx.Ok.unwish{X:Cx}{E:af->ag->Prop}(ok:(X.wish E).Ok):X.Ok:=⟨ok.mod,ok.kind,ok.glob,ok.blt,ok.above,ok.inj,ok.has,ok.cab,ok.hd,ok.frames,ok.stk,ok.exf,ok.bs,ok.bsz,ok.noex,ok.exfs,ok.funs,ok.frf⟩
section
variable{X:Cx}{pins:List (ai×Obj)}{σ:St}{H:Hp}{s:ag}{E:af->ag->Prop}
theorem Inv.wish(I:Inv X pins σ H s)(E:af->ag->Prop):Inv (X.wish E) pins σ H s:=⟨I.ok.wish E,I.os,I.bare,I.base,I.loc,I.cell,I.free,I.freeC,I.pin,I.hok,I.len⟩
theorem Inv.unwish(I:Inv (X.wish E) pins σ H s):Inv X pins σ H s:=⟨I.ok.unwish,I.os,I.bare,I.base,I.loc,I.cell,I.free,I.freeC,I.pin,I.hok,I.len⟩
end
section
variable{X:Cx}{st:iq}{rest:List iq}{t u:TS}{e:bp}{te:TE}{pos:Pos}
def RM:TS:=λD σ H=>D.nx σ H
def RN(t u:TS):TS:=λD σ H=>t {D with nx:=u D} σ H
theorem RO:Ha X [] RM:=λ_ _ σ H _ I h=>pf ⟨σ,H,I,h⟩
theorem RP(h1:PS X st t)(h2:Ha X rest u):Ha X (st::rest) (RN t u):=by
 intro pins s σ H D I h;refine qu (bQ (h1 pins s σ H {D with nx:=u D} I h) λf s1 q=>?_)
 cases f with
 |next=>obtain⟨σ',H',I',q⟩:=q;exact h2 pins s1 σ' H' D I' q
 |ret v=>exact q
 |brk=>exact q
 |cont=>exact q
theorem HI(h1:PS X st t):Ha X [st] t:=by
 intro pins s σ H D I h;refine qu (bQ (h1 pins s σ H D I h) λf s1 q=>?_)
 cases f with
 |next=>exact pf q
 |ret v=>exact q
 |brk=>exact q
 |cont=>exact q
theorem Inv.quiet{pins:List (ai×Obj)}{σ:St}{H:Hp}{s:ag}(I:Inv X pins σ H s):interactive X.env=false:=by simp[interactive,I.ok.kind]
def RQ(te:TE):TS:=λD σ H=>te σ H λ_ H1=>D.nx σ H1
theorem RR(he:PE X e te)(hs:swapsWith e none pos.line X.env=pure false:=by rfl):PS X (.Expr e pos) (RQ te):=by intro pins s σ H D I h;exact wpAny_Expr_any (bQ (he pins s σ H _ I h) λv s1⟨x,H1,I1,r1,q1⟩=>⟨σ,H1,I1,q1⟩) I.quiet hs
def RS(te:TE):TS:=λD σ H=>te σ H D.rt
theorem RT(he:PE X e te):PS X (.Return (some e) pos) (RS te):=by intro pins s σ H D I h;exact wpAny_Return_some (bQ (he pins s σ H _ I h) λv s1⟨x,H1,I1,r1,q1⟩=>⟨x,σ,H1,I1,r1,q1⟩)
def RU(c:TT)(t u:TS):TS:=λD σ H=>c σ H λb H1=>if b=true then t D σ H1 else u D σ H1
theorem RV{c:bp}{a b:List iq}{tc:TT}(hc:PT X c tc)(ha:Ha X a t)(hb:Ha X b u):PS X (.If c a b pos) (RU tc t u):=by
 intro pins s σ H D I h;refine wpAny_If (bQ (hc pins s σ H _ I h) λd s1⟨H1,I1,q1⟩=>?_)
 cases d with
 |true=>exact ha pins s1 σ H1 D I1 q1
 |false=>exact hb pins s1 σ H1 D I1 q1
end
abbrev TG:=V->St->Hp->(St->Hp->Prop)->Prop
abbrev mW:=List V->St->Hp->(St->Hp->Prop)->Prop
def PG(X:Cx)(target:bp)(t:TG):Prop:=
 ∀(pins:List (ai×Obj))(s:ag)(σ:St)(H:Hp)(v:V)(u:af)(Q:St->Hp->Prop),Inv X pins σ H s->RelV v u->t v σ H Q->
  wpAny (model X.prog X.w) X.A (assign target X.env u) (λ_ s'=>∃σ' H',Inv X pins σ' H' s'/\Q σ' H') X.xe s
def PGs(X:Cx)(ts:List bp)(t:mW):Prop:=
 ∀(pins:List (ai×Obj))(s:ag)(σ:St)(H:Hp)(vs:List V)(us:List af)(Q:St->Hp->Prop),Inv X pins σ H s->Cc vs us->t vs σ H Q->
  wpAny (model X.prog X.w) X.A (assignInOrder ((assignEach ts X.env).map (·.2)) us) (λ_ s'=>∃σ' H',Inv X pins σ' H' s'/\Q σ' H') X.xe s
abbrev A4:=V->V->V->Hp->(Hp->Prop)->Prop
def A5(X:Cx)(t:A4):Prop:=
 ∀(pins:List (ai×Obj))(s:ag)(σ:St)(H:Hp)(o i v:V)(ov iv u:af)(Q:Hp->Prop),Inv X pins σ H s->RelV o ov->RelV i iv->RelV v u->t o i v H Q->
  wpAny (model X.prog X.w) X.A (setItem ov iv u) (λ_ s'=>∃H',Inv X pins σ H' s'/\Q H') X.xe s
section
variable{X:Cx}{pos:Pos}
def A7(i:Nat):TG:=λv σ H Q=>Q (σ.set i (some v)) H
theorem RW{i:Nat}{x:Str}(hN:X.N.Nodup)(hi:X.N[i]?=some x)(hx:lW X.env.scope x)(hf:X.fn x=true∨X.env.scope.names.lookup x=some .local:=by first|exact .inl rfl|exact .inr rfl|assumption):PG X (.Name x pos) (A7 i):=by intro pins s σ H v u Q I r h;exact wpAny_assign_Name (A2 I hN hi hx r (λs' I'=>⟨_,H,I',h⟩) hf)
def RX:mW:=λvs σ H Q=>vs=[]/\Q σ H
def RY(t:TG)(u:mW):mW:=λvs σ H Q=>∃v r,vs=v::r/\t v σ H λσ' H'=>u r σ' H' Q
theorem RZ:PGs X [] RX:=by intro pins s σ H vs us Q I r h;obtain⟨e,h⟩:=h;subst e;cases r;exact assignInOrder_nil ⟨σ,H,I,h⟩
theorem R0{e:bp}{es:List bp}{t:TG}{u:mW}(h1:PG X e t)(h2:PGs X es u)(hs:(assignEach (e::es) X.env).map (·.2)=assign e X.env::(assignEach es X.env).map (·.2):=by rfl):PGs X (e::es) (RY t u):=by
 intro pins s σ H vs us Q I r h;obtain⟨v,vr,e1,h⟩:=h;subst e1
 cases r with
 |cons r rr=>rw[hs];refine assignInOrder_cons (bQ (h1 pins s σ H _ _ _ I r h) λ_ s1⟨σ1,H1,I1,q1⟩=>?_);exact h2 pins s1 σ1 H1 _ _ Q I1 rr q1
def R3(K:ar)(n:Nat)(t:mW):TG:=λv σ H Q=>∃a xs,v=.ref a/\Ct K H a xs/\xs.length=n/\t xs σ H Q
theorem R4{es:List bp}{k:Nat}{t:mW}{n:Nat}(hc:X.calm=true)(h:PGs X es t)(hn:(assignEach es X.env).length=n:=by rfl)(Fj:(assignEach es X.env).findIdx? (·.1)=none:=by rfl):PG X (.Tuple es k pos) (R3 X.K n t):=by
 intro pins s σ H v u Q I r hw;obtain⟨a,xs,e1,hq,hl,hw⟩:=hw;subst e1;cases r;obtain⟨its,rv,ht,hz⟩:=I.tuple hq;refine assign_Tuple_tuple (I.ok.hd hc) ht (by simp[hn,<-hl,rv.length]) Fj λh' hx=>?_;have I1:Inv X pins σ H {s with heap:=h'}:=I.kept (t':=s.toks) λb o e=>hx b o (ay (au e)) e;exact h pins _ σ H xs _ Q I1 (by simpa using rv) hw
def R5(to ti:TE)(t:A4):TG:=λv σ H Q=>to σ H λo H1=>ti σ H1 λi H2=>t o i v H2 λH3=>Q σ H3
theorem HJ{o i:bp}{to ti:TE}{t:A4}(ho:PE X o to)(hi:PE X i ti)(hs:A5 X t)(ha:∀v,assign (.Subscript o i pos) X.env v=(do
   let ov <-holding [v] (eval o X.env)
   let iv <-holding [v,ov] (eval i X.env)
   standAt pos
   holding [v,ov,iv] (setItem ov iv v)
   release [v,ov,iv] []):=by intro _;rfl):PG X (.Subscript o i pos) (R5 to ti t):=by
 intro pins s σ H v u Q I r h;rw[ha];refine ae (ff (bQ (ho pins s σ H _ I h) λov s1⟨x,H1,I1,r1,q1⟩=>?_));refine ae (ff (bQ (hi pins s1 σ H1 _ I1 q1) λiv s2⟨y,H2,I2,r2,q2⟩=>?_));refine ae (uj (ae (ff (bQ (hs pins s2 σ H2 x y v ov iv u _ I2 r1 r2 r q2) λ_ s3⟨H3,I3,q3⟩=>?_))));exact wpAny_release ⟨σ,H3,I3,q3⟩
def wI(te:TE)(g:TG):TS:=λD σ H=>te σ H λx H1=>g x σ H1 D.nx
theorem A8{tg e:bp}{te:TE}{g:TG}(he:PE X e te)(hg:PG X tg g)(hs:swapsWithSole [tg] e pos.line X.env=pure false:=by rfl)(hw:swappedStores [tg] e X.env=pure none:=by rfl)(h1:(assignEach [tg] X.env).map (·.2)=[assign tg X.env]:=by rfl):PS X (.Assign [tg] e pos) (wI te g):=by
 intro pins s σ H D I h;refine wpAny_Assign_stores (bQ (he pins s σ H _ I h) λv s1⟨x,H1,I1,r1,q1⟩=>?_) hs hw;rw[h1];exact bQ (hg pins s1 σ H1 x v _ I1 r1 q1) λ_ s2 q=>q
theorem A9{i:Nat}{x:Str}{e:bp}{te:TE}{pos':Pos}(hN:X.N.Nodup)(hi:X.N[i]?=some x)(hx:lW X.env.scope x)(he:PE X e te)(hs:swapsWith e (some (.Name x pos')) pos.line X.env=pure false:=by rfl)(hf:X.fn x=true∨X.env.scope.names.lookup x=some .local:=by first|exact .inl rfl|exact .inr rfl|assumption):
  PS X (.Assign [.Name x pos'] e pos) (wI te (A7 i)):=by
 intro pins s σ H D I h;refine wpAny_Assign_Name (bQ (he pins s σ H _ I h) λv s1⟨y,H1,I1,r1,q1⟩=>?_) hs;exact A2 I1 hN hi hx r1 (λs2 I2=>⟨_,H1,I2,q1⟩) hf
end
section
variable{X:Cx}{pos:Pos}
def R6(c:TT)(tb:TS):TS:=λD σ H=>∃W:Nat->St->Hp->Prop,(∃m,W m σ H)/\∀m σ H,W m σ H->
 c σ H λb H1=>if b=true then ∃N:St->Hp->Prop,(∀σ' H',N σ' H'->∃m',m'<m/\W m' σ' H')/\tb {D with nx:=N,ct:=N,bk:=D.nx} σ H1 else D.nx σ H1
theorem R7{c:bp}{body:List iq}{tc:TT}{tb:TS}(hp:zf (model X.prog X.w) X.A X.env X.xe)(hc:PT X c tc)(hb:Ha X body tb):PS X (.While c body [] pos) (R6 tc tb):=by
 intro pins s σ H D I h;obtain⟨W,⟨m0,w0⟩,turn⟩:=h;refine wpAny_While (codeAny_whileLoop (λn s'=>∃σ' H',Inv X pins σ' H' s'/\W n σ' H') ?_ m0 ⟨σ,H,I,w0⟩)
 rintro n s1 ⟨σ1,H1,I1,w1⟩
 refine ni hp (bQ (hc pins s1 σ1 H1 _ I1 (turn n σ1 H1 w1)) λb s2⟨H2,I2,q2⟩=>?_)
 cases b with
 |true=>
  obtain⟨N,hN,q2⟩:=q2;rw[if_pos rfl];refine ni hp (bQ (hb pins s2 σ1 H2 _ I2 q2) λf s3 q3=>?_)
  cases f with
  |next=>obtain⟨σ3,H3,I3,n3⟩:=q3;obtain⟨m',hm,w3⟩:=hN σ3 H3 n3;exact⟨m',hm,σ3,H3,I3,w3⟩
  |cont=>obtain⟨σ3,H3,I3,n3⟩:=q3;obtain⟨m',hm,w3⟩:=hN σ3 H3 n3;exact⟨m',hm,σ3,H3,I3,w3⟩
  |brk=>exact q3
  |ret v=>exact q3
 |false=>rw[if_neg gu];exact pf ⟨σ1,H2,I2,q2⟩
end
structure It where
 go:Nat->Hp->Prop
 yld:Nat->Hp->V->Hp->Prop
 stop:Nat->Hp->Prop
def eN(X:Cx)(pins:List (ai×Obj))(H:Hp)(b:ai):Prop:=H b=none/\b≠X.env.locals/\b∉X.fs/\(b∈X.ex∨X.s₀.heap.objs.size<=b)/\(∀x c,X.env.cells.lookup x=some c->c≠b)/\∀p∈X.pn++pins,p.1≠b
theorem Inv.fpOk{X:Cx}{pins:List (ai×Obj)}{σ:St}{H H':Hp}{s:ag}{b:ai}(I:Inv X pins σ H s)(hb:s.heap.objs.size<=b)(hn:H' b=none):eN X pins H' b:=by
 refine⟨hn,jh (av I.lt hb),I.nofs hb,.inr (df I.sz hb),λx c e z=>?_,λp hp z=>?_⟩
 ·obtain⟨v,q⟩:=I.cell x c e;exact absurd (av q.lt (by rw[z];exact hb)) (iu _)
 ·exact absurd (av (au (I.pin p hp).1) (by rw[z];exact hb)) (iu _)
structure Turn(P:bj)(w:cb)(K:ar)(tg:bp)(J:It)(fp:List ai)(it:ai)(tn:Nat->cq->Prop):Prop where
 mem:it∈fp
 obj:∀i h,tn i h->∀b∈fp,∃o,h.get? b=some o/\∀v,o.data≠.cell v
 keep:∀i h h',tn i h->(∀b∈fp,∀o,h.get? b=some o->h'.get? b=some o)->tn i h'
 item:∀(X:Cx),X.prog=P->X.w=w->X.K=K->X.calm=true->∀(i:Nat)(pins:List (ai×Obj))(s:ag)(σ:St)(H:Hp)(E:af->ag->Prop),Inv X pins σ H s->(∀b∈fp,eN X pins H b)->tn i s.heap->J.go i H->
  wpAny (model P w) X.A (pyNext (.ref it)) (λr s1=>∃u,r=some u/\
   wpAny (model P w) X.A (letOwnedTupleGo tg (.ref it) u) (λ_ s2=>∃x H',Inv X pins σ H' s2/\RelV x u/\J.yld i H x H'/\tn (i+1) s2.heap/\∀b∈fp,H' b=none) E s1) E s
 done:∀(X:Cx),X.prog=P->X.w=w->X.K=K->X.calm=true->∀(i:Nat)(pins:List (ai×Obj))(s:ag)(σ:St)(H:Hp)(E:af->ag->Prop),Inv X pins σ H s->(∀b∈fp,eN X pins H b)->tn i s.heap->J.stop i H->
  wpAny (model P w) X.A (pyNext (.ref it)) (λr s1=>r=none/\Inv X pins σ H s1) E s
 self:∀(A:bx)(i:Nat)(s:ag)(Q:af->ag->Prop)(E:af->ag->Prop),tn i s.heap->Q (.ref it) s->wpAny (model P w) A (pyIter (.ref it)) Q E s
abbrev TI:=St->Hp->(It->Hp->Prop)->Prop
inductive PIE(X:Cx)(pins:List (ai×Obj))(σ:St)(tg:bp)(R:It->Hp->Prop)(itv:af)(s2:ag):Prop
 |mk (it:ai) (fp:List ai) (tn:Nat->cq->Prop) (J:It) (H':Hp) (h0:itv=.ref it) (h1:Inv X pins σ H' s2) (h2:Turn X.prog X.w X.K tg J fp it tn) (h3:tn 0 s2.heap) (h4:(∀b∈fp,eN X pins H' b)) (h5:R J H'):PIE X pins σ tg R itv s2
def PI(X:Cx)(tg iter:bp)(wi:TI):Prop:=
 ∀(pins:List (ai×Obj))(s:ag)(σ:St)(H:Hp)(R:It->Hp->Prop),Inv X pins σ H s->wi σ H R->
  wpAny (model X.prog X.w) X.A (eval iter X.env) (λv s1=>wpAny (model X.prog X.w) X.A (pyIter v) (PIE X pins σ tg R) X.xe s1) X.xe s
theorem BA{M:yf}{A:bx}{E:af->ag->Prop}{s:ag}{tg:bp}{it:ai}{u:af}{o:Obj}{n:String}{vs:Array af}{Q:Unit->ag->Prop}(ho:s.heap.get? it=some o)(hc:o.cls=.type n)(hd:o.data=.fields vs)(hn:["enumerate","zip","dict_itemiterator","dict_reverseitemiterator","odict_iterator","itertools.zip_longest","itertools.pairwise"].contains n=false)(hQ:Q () s):wpAny M A (letOwnedTupleGo tg (.ref it) u) Q E s:=by
 unfold letOwnedTupleGo
 cases tg<;>first
  |exact aj hQ
  |(cases u<;>first
    |exact aj hQ
    |(refine ae (Al ho ?_);rw[hc,hd];show wpAny M A (if(["enumerate","zip","dict_itemiterator","dict_reverseitemiterator","odict_iterator","itertools.zip_longest","itertools.pairwise"].contains n&&vs[0]?==some (rawInt _))=true then _ else _) Q E s;rw[if_neg (by intro h;rw[hn,Bool.false_and]at h;cases h)];exact aj hQ))
def HK(K:ar)(a:ai):It:=⟨λi H=>∃xs x,Dj K H a xs/\xs[i]?=some x,λi H x H'=>H'=H/\∀xs,Dj K H a xs->xs[i]?=some x,λi H=>∃xs,Dj K H a xs/\xs.length<=i⟩
def BB(K:ar)(a:ai):It:=⟨λi H=>∃xs x,Ct K H a xs/\xs[i]?=some x,λi H x H'=>H'=H/\∀xs,Ct K H a xs->xs[i]?=some x,λi H=>∃xs,Ct K H a xs/\xs.length<=i⟩
def tM(lo:Int)(n:Nat):It:=⟨λi _=>i<n,λi H x H'=>H'=H/\x=.int (lo+i),λi _=>n<=i⟩
theorem R8{P:bj}{w:cb}{K:ar}{tg:bp}(a it:ai):Turn P w K tg (HK K a) [it] it (λi h=>h.IsListIter it a i) where
 mem:=by simp
 obj:=λi h st b hb=>by
  have e:b=it:=by simpa using hb
  subst e;obtain⟨o,e,c,d⟩:=st;exact⟨o,e,λv z=>by rw[d]at z;cases z⟩
 keep:=λi h h' st k=>st.at λo e=>k it (by simp) o e
 item:=by intro X hP hw hK hc i pins s σ H E I hf st hg;subst hP hw hK;obtain⟨xs,x,hq,hx⟩:=hg;obtain⟨its,rv,p,hz⟩:=I.list hq;obtain⟨u,hu,ru⟩:=rv.get hx;obtain⟨f0,f1,f2,f3,f4,f5⟩:=hf it (by simp);refine wpAny_pyNext_list_item st p.isList (x:=u) (by simpa using hu) λh' En sb=>?_;have I1:Inv X pins σ H {s with heap:=h'}:=I.turned (t':=s.toks) (λb o hb e=>(sb.2 b hb).trans e) f0 f1 f3 f4 f5;obtain⟨o,e,c,d⟩:=id En;exact⟨u,rfl,BA (s:={s with heap:=h'}) e c d (by decide) ⟨x,H,I1,ru,⟨rfl,λys hy=>by rw[I.list_inj hy hq];exact hx⟩,En,λb hb=>(hf b hb).1⟩⟩
 done:=by intro X hP hw hK hc i pins s σ H E I hf st hg;subst hP hw hK;obtain⟨xs,hq,hx⟩:=hg;obtain⟨its,rv,p,hz⟩:=I.list hq;obtain⟨f0,f1,f2,f3,f4,f5⟩:=hf it (by simp);have hl:=rv.length;exact wpAny_pyNext_list_end (I.ok.hd hc) st p.isList (by simp;lia) λh' eb=>⟨rfl,I.turned (t':=s.toks) (λb o hb e=>eb b o hb e) f0 f1 f3 f4 f5⟩
 self:=λ_ _ _ _ _ st h=>wpAny_pyIter_listiter st h
theorem R9{P:bj}{w:cb}{K:ar}{tg:bp}(a it:ai):Turn P w K tg (BB K a) [it] it (λi h=>h.IsTupleIter it a i) where
 mem:=by simp
 obj:=λi h st b hb=>by
  have e:b=it:=by simpa using hb
  subst e;obtain⟨o,e,c,d⟩:=st;exact⟨o,e,λv z=>by rw[d]at z;cases z⟩
 keep:=λi h h' st k=>st.at λo e=>k it (by simp) o e
 item:=by intro X hP hw hK hc i pins s σ H E I hf st hg;subst hP hw hK;obtain⟨xs,x,hq,hx⟩:=hg;obtain⟨its,rv,p,hz⟩:=I.tuple hq;obtain⟨u,hu,ru⟩:=rv.get hx;obtain⟨f0,f1,f2,f3,f4,f5⟩:=hf it (by simp);refine wpAny_pyNext_tuple_item st (show s.heap.IsTuple a its.toArray from p) (x:=u) (by simpa using hu) λh' En sb=>?_;have I1:Inv X pins σ H {s with heap:=h'}:=I.turned (t':=s.toks) (λb o hb e=>(sb.2 b hb).trans e) f0 f1 f3 f4 f5;obtain⟨o,e,c,d⟩:=id En;exact⟨u,rfl,BA (s:={s with heap:=h'}) e c d (by decide) ⟨x,H,I1,ru,⟨rfl,λys hy=>by rw[I.tuple_inj hy hq];exact hx⟩,En,λb hb=>(hf b hb).1⟩⟩
 done:=by intro X hP hw hK hc i pins s σ H E I hf st hg;subst hP hw hK;obtain⟨xs,hq,hx⟩:=hg;obtain⟨its,rv,p,hz⟩:=I.tuple hq;obtain⟨f0,f1,f2,f3,f4,f5⟩:=hf it (by simp);have hl:=rv.length;exact wpAny_pyNext_tuple_end (I.ok.hd hc) st (show s.heap.IsTuple a its.toArray from p) (by simp;lia) λh' eb=>⟨rfl,I.turned (t':=s.toks) (λb o hb e=>eb b o hb e) f0 f1 f3 f4 f5⟩
 self:=λ_ _ _ _ _ st h=>wpAny_pyIter_tupleiter st h
theorem SA{P:bj}{w:cb}{K:ar}{tg:bp}(it:ai)(lo:Int)(n:Nat):Turn P w K tg (tM lo n) [it] it (λi h=>IsRangeIter h it (lo+(i:Nat)*1) ((n:Int)-(i:Nat)) 1) where
 mem:=by simp
 obj:=λi h st b hb=>by
  have e:b=it:=by simpa using hb
  subst e;exact⟨_,st,λv z=>by
   have z':Data.fields _=Data.cell v:=z
   cases z'⟩
 keep:=λi h h' st k=>k it (by simp) _ st
 item:=by intro X hP hw hK hc i pins s σ H E I hf st hg;subst hP hw hK;obtain⟨f0,f1,f2,f3,f4,f5⟩:=hf it (by simp);have W:=Walks.range (prog:=X.prog) (w:=X.w) (I.ok.hd hc) it lo 1 n;refine W.item i s _ _ hg st λv h' tk hv En kk=>?_;obtain⟨t,rfl⟩:=hv;have I1:Inv X pins σ H {s with heap:=h',toks:=tk}:=I.turned (λb o hb e=>kk b o (by simpa using hb) e) f0 f1 f3 f4 f5;refine⟨_,rfl,BA (s:={s with heap:=h',toks:=tk}) (n:="range_iterator") En rfl rfl (by decide) ⟨.int (lo+i),H,I1,⟨t,?_⟩,⟨rfl,rfl⟩,En,λb hb=>(hf b hb).1⟩⟩;rw[Int.mul_one]
 done:=by intro X hP hw hK hc i pins s σ H E I hf st hg;subst hP hw hK;obtain⟨f0,f1,f2,f3,f4,f5⟩:=hf it (by simp);exact wpAny_pyNext_range_end (I.ok.hd hc) st (by have:n<=i:=hg;lia) λh' eb=>⟨rfl,I.turned (t':=s.toks) (λb o hb e=>eb b o hb e) f0 f1 f3 f4 f5⟩
 self:=λ_ _ _ _ _ st h=>wpAny_pyIter_rangeiter st h
section
variable{X:Cx}{tg:bp}
def SD(K:ar)(tl:TE):TI:=λσ H R=>tl σ H λx H1=>∃a,x=.ref a/\(∃xs,Dj K H1 a xs)/\R (HK K a) H1
def SE(K:ar)(tl:TE):TI:=λσ H R=>tl σ H λx H1=>∃a,x=.ref a/\(∃xs,Ct K H1 a xs)/\R (BB K a) H1
theorem SF{l:bp}{tl:TE}(hl:PE X l tl):PI X tg l (SD X.K tl):=by
 intro pins s σ H R I h;refine bQ (hl pins s σ H _ I h) λv s1⟨x,H1,I1,r1,q1⟩=>?_;obtain⟨a,e,⟨xs,hq⟩,q⟩:=q1;subst e;cases r1;obtain⟨its,rv,p,hz⟩:=I1.list hq;refine nu p.isList ?_;refine⟨s1.heap.objs.size,[s1.heap.objs.size],_,_,H1,rfl,I1.kept (t':=s1.toks) λb o e=>ak _ e,R8 a _,⟨_,aw _ rfl,rfl,rfl⟩,λb hb=>?_,q⟩;have e:b=s1.heap.objs.size:=by simpa using hb
 subst e;exact I1.fpOk (ao _) (I1.hok.fresh (ao _))
theorem SG{l:bp}{tl:TE}(hl:PE X l tl):PI X tg l (SE X.K tl):=by
 intro pins s σ H R I h;refine bQ (hl pins s σ H _ I h) λv s1⟨x,H1,I1,r1,q1⟩=>?_;obtain⟨a,e,⟨xs,hq⟩,q⟩:=q1;subst e;cases r1;obtain⟨its,rv,p,hz⟩:=I1.tuple hq;refine tj (show s1.heap.IsTuple a its.toArray from p) ?_;refine⟨s1.heap.objs.size,[s1.heap.objs.size],_,_,H1,rfl,I1.kept (t':=s1.toks) λb o e=>ak _ e,R9 a _,⟨_,aw _ rfl,rfl,rfl⟩,λb hb=>?_,q⟩;have e:b=s1.heap.objs.size:=by simpa using hb
 subst e;exact I1.fpOk (ao _) (I1.hok.fresh (ao _))
theorem HL{pins:List (ai×Obj)}{σ:St}{H:Hp}{s:ag}{R:It->Hp->Prop}{E:af->ag->Prop}{lo hi:Int}{t u v:Tok}{tk:Nat}(I:Inv X pins σ H s)(h1:-(2^62)<=lo)(h2:lo<2^62)(h3:-(2^62)<=hi)(h4:hi<2^62)(q:R (tM lo (hi-lo).toNat) H):wpAny (model X.prog X.w) X.A (pyIter (.ref s.heap.objs.size)) (PIE X pins σ tg R) E {s with heap:=s.heap.push {cls:=.type "range",data:=.fields #[.int lo t,.int hi u,.int 1 v]},toks:=tk}:=by
 refine wpAny_pyIter_range (IsRange.new ..) (small_one h1 h2 h3 h4) ?_;have I1:Inv X pins σ H {s with heap:=s.heap.push {cls:=.type "range",data:=.fields #[.int lo t,.int hi u,.int 1 v]},toks:=tk}:=I.kept λb o e=>ak _ e;refine⟨(s.heap.push {cls:=.type "range",data:=.fields #[.int lo t,.int hi u,.int 1 v]}).objs.size,[(s.heap.push {cls:=.type "range",data:=.fields #[.int lo t,.int hi u,.int 1 v]}).objs.size],_,_,H,rfl,
  I1.kept (t':=tk) λb o e=>ak _ e,SA _ lo (hi-lo).toNat,?_,λb hb=>?_,q⟩
 ·have e1:lo+((0:Nat):Int)*1=lo:=by simp
  have e2:(((hi-lo).toNat:Nat):Int)-((0:Nat):Int)=Builtin.Range.rangeSize lo hi 1:=by rw[rangeSize_one];split<;>lia
  show IsRangeIter _ _ (lo+((0:Nat):Int)*1) ((((hi-lo).toNat:Nat):Int)-((0:Nat):Int)) 1;rw[e1,e2];exact aw _ rfl
 ·have e:b=(s.heap.push {cls:=.type "range",data:=.fields #[.int lo t,.int hi u,.int 1 v]}).objs.size:=by simpa using hb
  subst e;exact I1.fpOk (ao _) (I1.hok.fresh (ao _))
def SH(ta:TA):TI:=λσ H R=>ta σ H λvs H1=>∃j:Int,vs=[.int j]/\-(2^62)<=j/\j<2^62/\R (tM 0 j.toNat) H1
def SI(ta:TA):TI:=λσ H R=>ta σ H λvs H1=>∃i j:Int,vs=[.int i,.int j]/\(-(2^62)<=i/\i<2^62/\-(2^62)<=j/\j<2^62)/\R (tM i (j-i).toNat) H1
theorem SJ{a:bp}{ta:TA}{p pos:Pos}(hg:Gl X "range")(hm:X.mg "range"=none)(ha:PA X [a] ta)(hs:aq [a] X.env=[(false,eval a X.env)]:=by rfl):PI X tg (.Call (.Name "range" p) [a] [] pos) (SH ta):=by
 intro pins s σ H R I h;refine Call_ (qW I hg hm boot_range (lb (bQ (ha pos pins s σ H _ I h) λus s1⟨vs,H1,I1,r1,q1⟩=>?_) hs rfl));obtain⟨j,e,q1,q2,q⟩:=q1;subst e
 cases r1 with
 |cons r rr=>cases rr;obtain⟨t,rfl⟩:=r;exact call_range_1 (HL I1 (by lia) (by lia) q1 q2 (by simpa using q))
theorem SK{a b:bp}{ta:TA}{p pos:Pos}(hg:Gl X "range")(hm:X.mg "range"=none)(ha:PA X [a,b] ta)(hs:aq [a,b] X.env=[(false,eval a X.env),(false,eval b X.env)]:=by rfl)(hs2:aq [b] X.env=[(false,eval b X.env)]:=by rfl):
  PI X tg (.Call (.Name "range" p) [a,b] [] pos) (SI ta):=by
 intro pins s σ H R I h;refine Call_ (qW I hg hm boot_range (lb (bQ (ha pos pins s σ H _ I h) λus s1⟨vs,H1,I1,r1,q1⟩=>?_) (by rw[hs,hs2]) (by rw[hs2];rfl)));obtain⟨i,j,e,⟨q1,q2,q3,q4⟩,q⟩:=q1;subst e
 cases r1 with
 |cons r rr=>
  cases rr with
  |cons r' rr=>cases rr;obtain⟨t,rfl⟩:=r;obtain⟨t',rfl⟩:=r';exact call_range_2 (HL I1 q1 q2 q3 q4 q)
def SN(wi:TI)(g:TG)(tb:TS):TS:=λD σ H=>wi σ H λJ H1=>∃W:Nat->Nat->St->Hp->Prop,(∃m,W 0 m σ H1)/\∀i m σ H,W i m σ H->
 (J.stop i H/\D.nx σ H)∨(J.go i H/\∃N:St->Hp->Prop,(∀σ' H',N σ' H'->∃m',m'<m/\W (i+1) m' σ' H')/\∀x H',J.yld i H x H'->g x σ H' λσ2 H2=>tb {D with nx:=N,ct:=N,bk:=D.nx} σ2 H2)
def kF(fp:List ai)(h:cq):List (ai×Obj):=fp.filterMap λb=>(h.get? b).map λo=>(b,o)
theorem qX{fp:List ai}{h:cq}{b:ai}{o:Obj}(hb:b∈fp)(e:h.get? b=some o):(b,o)∈kF fp h:=mf.mpr ⟨b,hb,by rw[e];rfl⟩
theorem BC{fp:List ai}{h:cq}{p:ai×Obj}(hp:p∈kF fp h):p.1∈fp/\h.get? p.1=some p.2:=by
 obtain⟨b,hb,e⟩:=mf.mp hp
 cases q:h.get? b with
 |none=>rw[q]at e;cases e
 |some o=>rw[q]at e;have e':(b,o)=p:=cn e;subst e';exact⟨hb,q⟩
theorem Inv.pinned{pins:List (ai×Obj)}{σ:St}{H:Hp}{s:ag}{fp:List ai}(I:Inv X pins σ H s)(hf:∀b∈fp,eN X pins H b)(ho:∀b∈fp,∃o,s.heap.get? b=some o/\∀v,o.data≠.cell v):Inv X (pins++kF fp s.heap) σ H s:=I.pins_of λp hp=>(fq.mp hp).elim (λz=>I.pin p (cw _ z)) λz=>by obtain⟨hb,e⟩:=BC z;obtain⟨f0,f1,f2,_⟩:=hf p.1 hb;obtain⟨o,e',d⟩:=ho p.1 hb;rw[e]at e';cases e';exact⟨e,f0,f1,f2,d⟩
theorem Inv.unpinned{pins pl:List (ai×Obj)}{σ:St}{H:Hp}{s:ag}(I:Inv X (pins++pl) σ H s):Inv X pins σ H s:=I.pins_of λp hp=>I.pin p (cw _ (jt _ hp))
theorem SO{iter:bp}{body:List iq}{wi:TI}{g:TG}{tb:TS}{pos:Pos}(hp:zf (model X.prog X.w) X.A X.env X.xe)(hc:X.calm=true)(hi:PI X tg iter wi)(hg:PG X tg g)(hb:Ha X body tb)(hs:∀x,foldedSetIterable iter X.env x=pure x:=by intro _;rfl):PS X (.For tg iter body [] pos) (SN wi g tb):=by
 intro pins s σ H D I h;refine wpAny_For (bQ (hi pins s σ H _ I h) λv s1 h1=>bQ h1 λitv s2 h2=>?_) hs;obtain⟨it,fp,tn,J,H2,e,I2,T,Gb,f2,W,⟨m0,w0⟩,turn⟩:=h2;subst e;have stat:∀{H':Hp},(∀b∈fp,H' b=none)->∀b∈fp,eN X pins H' b:=λhn b hb=>⟨hn b hb,(f2 b hb).2⟩
 refine codeAny_forLoop_any (λn s'=>∃i σ' H',Inv X pins σ' H' s'/\tn i s'.heap/\(∀b∈fp,H' b=none)/\W i n σ' H') ?_ m0 ⟨0,σ,H2,I2,Gb,λb hb=>(f2 b hb).1,w0⟩
 rintro n s3 ⟨i,σ3,H3,I3,st3,fr3,w3⟩
 rcases turn i n σ3 H3 w3 with⟨stop,qn⟩|⟨go,N,hN,step⟩
 ·refine ni hp (bQ (T.done X rfl rfl rfl hc i pins s3 σ3 H3 X.xe I3 (stat fr3) st3 stop) λr s4⟨hr,I4⟩=>?_);subst hr;exact pf ⟨σ3,H3,I4,qn⟩
 ·refine ni hp (bQ (T.item X rfl rfl rfl hc i pins s3 σ3 H3 X.xe I3 (stat fr3) st3 go) λr s4⟨u,hr,h4⟩=>?_);subst hr;refine ni hp (bQ h4 λ_ s5⟨x,H5,I5,r5,y5,st5,fr5⟩=>?_);have I5':=I5.pinned (stat fr5) (T.obj _ _ st5);refine ni hp (bQ (hg _ s5 σ3 H5 x u _ I5' r5 (step x H5 y5)) λ_ s6⟨σ6,H6,I6,q6⟩=>?_);refine ni hp (bQ (hb _ s6 σ6 H6 _ I6 q6) λf s7 q7=>?_);have again:∀{σ7:St}{H7:Hp},Inv X (pins++kF fp s5.heap) σ7 H7 s7->N σ7 H7->∃m,m<n/\∃i σ' H',Inv X pins σ' H' s7/\tn i s7.heap/\(∀b∈fp,H' b=none)/\W i m σ' H':=λ{σ7 H7}I7 n7=>by obtain⟨m',hm,w7⟩:=hN σ7 H7 n7;refine⟨m',hm,i+1,σ7,H7,I7.unpinned,T.keep _ _ _ st5 λb hb o e=>(I7.pin (b,o) (cw _ (cw _ (qX hb e)))).1,λb hb=>?_,w7⟩;obtain⟨o,e,d⟩:=T.obj _ _ st5 b hb;exact(I7.pin (b,o) (cw _ (cw _ (qX hb e)))).2.1
  cases f with
  |next=>obtain⟨σ7,H7,I7,n7⟩:=q7;exact again I7 n7
  |cont=>obtain⟨σ7,H7,I7,n7⟩:=q7;exact again I7 n7
  |brk=>obtain⟨σ7,H7,I7,q7⟩:=q7;exact⟨σ7,H7,I7.unpinned,q7⟩
  |ret v=>obtain⟨x7,σ7,H7,I7,r7,q7⟩:=q7;exact⟨x7,σ7,H7,I7.unpinned,r7,q7⟩
end
abbrev R2:=V->V->Hp->VK->Prop
def Cw(X:Cx)(f:af->af->Sem af)(r:R2):Prop:=
 ∀(pins:List (ai×Obj))(s:ag)(σ:St)(H:Hp)(x y:V)(v u:af)(Q:VK),Inv X pins σ H s->RelV x v->RelV y u->r x y H Q->
  wpAny (model X.prog X.w) X.A (f v u) (EP X pins σ Q) X.xe s
def wJ(X:Cx)(f:af->Sem af)(r:V->Hp->VK->Prop):Prop:=
 ∀(pins:List (ai×Obj))(s:ag)(σ:St)(H:Hp)(x:V)(v:af)(Q:VK),Inv X pins σ H s->RelV x v->r x H Q->
  wpAny (model X.prog X.w) X.A (f v) (EP X pins σ Q) X.xe s
def Cf(X:Cx)(f:af)(r:List V->Hp->VK->Prop):Prop:=
 ∀(pins:List (ai×Obj))(s:ag)(σ:St)(H:Hp)(xs:List V)(us:List af)(Q:VK),Inv X pins σ H s->Cc xs us->r xs H Q->
  wpAny (model X.prog X.w) X.A (call f us) (EP X pins σ Q) X.xe s
def SQ(X:Cx)(r:V->Hp->(Bool->Hp->Prop)->Prop):Prop:=
 ∀(pins:List (ai×Obj))(s:ag)(σ:St)(H:Hp)(x:V)(v:af)(Q:Bool->Hp->Prop),Inv X pins σ H s->RelV x v->r x H Q->
  wpAny (model X.prog X.w) X.A (truthy v) (TP X pins σ Q) X.xe s
def tN(r:R2)(ta tb:TE):TE:=λσ H Q=>ta σ H λx H1=>tb σ H1 λy H2=>r x y H2 Q
def SS(r:V->Hp->VK->Prop)(ta:TE):TE:=λσ H Q=>ta σ H λx H1=>r x H1 Q
def rI(C:Int->Int->Prop)(g:Int->Int->V):R2:=λx y H Q=>∃i j,x=.int i/\y=.int j/\C i j/\Q (g i j) H
def kG(g:Int->Int->V):R2:=λx y H Q=>∃i j,x=.int i/\y=.int j/\Q (g i j) H
def rU(g:Int->V):V->Hp->VK->Prop:=λx H Q=>∃i,x=.int i/\Q (g i) H
section
variable{X:Cx}{a b c:bp}{ta tb tc:TE}{pos:Pos}
theorem BD(ha:PE X a ta)(hb:PE X b tb){pins:List (ai×Obj)}{s:ag}{σ:St}{H:Hp}{R:V->V->Hp->Prop}(I:Inv X pins σ H s)(h:ta σ H λx H1=>tb σ H1 λy H2=>R x y H2){Q:af->ag->Prop}{f:af->af->Sem af}(hf:∀v u s2 x y H2,Inv X pins σ H2 s2->RelV x v->RelV y u->R x y H2->wpAny (model X.prog X.w) X.A (f v u) Q X.xe s2):
  wpAny (model X.prog X.w) X.A (eval a X.env) (λv s₁=>wpAny (model X.prog X.w) X.A (eval b X.env) (λu s₂=>wpAny (model X.prog X.w) X.A (f v u) Q X.xe s₂) X.xe s₁) X.xe s:=by
 refine bQ (ha pins s σ H _ I h) λv s1⟨x,H1,I1,r1,q1⟩=>?_;refine bQ (hb pins s1 σ H1 _ I1 q1) λu s2⟨y,H2,I2,r2,q2⟩=>?_;exact hf v u s2 x y H2 I2 r1 r2 q2
theorem SU{op:Operator}{r:R2}(ho:Cw X (binaryOp op) r)(ha:PE X a ta)(hb:PE X b tb):PE X (.BinOp a op b pos) (tN r ta tb):=by intro pins s σ H Q I h;exact wpAny_BinOp (BD ha hb I h λv u s2 x y H2 I2 rx ry q=>ho pins s2 σ H2 x y v u Q I2 rx ry q)
theorem SV{op:UnaryOp}{r:V->Hp->VK->Prop}(ho:wJ X (unaryOp op) r)(ha:PE X a ta):PE X (.UnaryOp op a pos) (SS r ta):=by intro pins s σ H Q I h;exact UnaryOp_ (bQ (ha pins s σ H _ I h) λv s1⟨x,H1,I1,r1,q1⟩=>ho pins s1 σ H1 x v Q I1 r1 q1)
theorem wK{f:af->af->Sem af}{C:Int->Int->Prop}{g:Int->Int->Int}(rule:∀(i j:Int)(t u:Tok)(s:ag)(Q:af->ag->Prop)(E:af->ag->Prop),C i j->Q (.int (g i j) s.toks) {s with toks:=s.toks+1}->wpAny (model X.prog X.w) X.A (f (.int i t) (.int j u)) Q E s):
  Cw X f (rI C λi j=>.int (g i j)):=by
 intro pins s σ H x y v u Q I rx ry h;obtain⟨i,j,rfl,rfl,hc,q⟩:=h;obtain⟨t,rfl⟩:=rx;obtain⟨t',rfl⟩:=ry;exact rule i j t t' s _ _ hc ⟨.int (g i j),H,I.tok _,⟨_,rfl⟩,q⟩
theorem HM{f:af->af->Sem af}{g:Int->Int->Int}(rule:∀(i j:Int)(t u:Tok)(s:ag)(Q:af->ag->Prop)(E:af->ag->Prop),Q (.int (g i j) s.toks) {s with toks:=s.toks+1}->wpAny (model X.prog X.w) X.A (f (.int i t) (.int j u)) Q E s):
  Cw X f (kG λi j=>.int (g i j)):=by
 intro pins s σ H x y v u Q I rx ry h;obtain⟨i,j,rfl,rfl,q⟩:=h;obtain⟨t,rfl⟩:=rx;obtain⟨t',rfl⟩:=ry;exact rule i j t t' s _ _ ⟨.int (g i j),H,I.tok _,⟨_,rfl⟩,q⟩
theorem wL{f:af->af->Sem af}{g:Int->Int->Bool}(rule:∀(i j:Int)(t u:Tok)(s:ag)(Q:af->ag->Prop)(E:af->ag->Prop),Q (.bool (g i j)) s->wpAny (model X.prog X.w) X.A (f (.int i t) (.int j u)) Q E s):
  Cw X f (kG λi j=>.bl (g i j)):=by
 intro pins s σ H x y v u Q I rx ry h;obtain⟨i,j,rfl,rfl,q⟩:=h;obtain⟨t,rfl⟩:=rx;obtain⟨t',rfl⟩:=ry;exact rule i j t t' s _ _ ⟨.bl (g i j),H,I,rfl,q⟩
def BE(i j:Int):Prop:=0<=j/\j<=1000000/\i.natAbs<2^64
def CMul(i j:Int):Prop:=(-(2^64)<i/\i<2^64)∨(-(2^64)<j/\j<2^64)
theorem CMul.ok{i j:Int}(h:CMul i j):IntMulOk i j:=by
 rcases h with⟨h1,h2⟩|⟨h1,h2⟩
 ·exact .of_left (intBits_le_64 h1 h2)
 ·exact .of_right (intBits_le_64 h1 h2)
theorem op_add:Cw X (binaryOp .Add) (kG λi j=>.int (i+j)):=HM λ_ _ _ _ _ _ _ q=>add_int q
theorem SX:Cw X (binaryOp .Sub) (kG λi j=>.int (i-j)):=HM λ_ _ _ _ _ _ _ q=>sub_int q
theorem SY:Cw X (binaryOp .Mult) (rI CMul λi j=>.int (i*j)):=wK λ_ _ _ _ _ _ _ hc q=>mul_int q hc.ok
theorem S0:Cw X (binaryOp .Mod) (rI (λ_ j=>0<j) λi j=>.int (i%j)):=wK λi j _ _ _ _ _ hc q=>by have h1:(0:Int)<j:=hc;exact mod_int' (by lia) (by rw[Int.fmod_eq_emod_of_nonneg i (by lia)];exact q)
theorem S1:Cw X (binaryOp .Pow) (rI BE λi j=>.int (i^j.toNat)):=wK λ_ _ _ _ _ _ _ hc q=>pow_int_small hc.1 hc.2.1 hc.2.2 q
theorem S3{f:af->Sem af}{g:Int->Int}(rule:∀(i:Int)(t:Tok)(s:ag)(Q:af->ag->Prop)(E:af->ag->Prop),Q (.int (g i) s.toks) {s with toks:=s.toks+1}->wpAny (model X.prog X.w) X.A (f (.int i t)) Q E s):
  wJ X f (rU λi=>.int (g i)):=by
 intro pins s σ H x v Q I rx h;obtain⟨i,rfl,q⟩:=h;obtain⟨t,rfl⟩:=rx;exact rule i t s _ _ ⟨.int (g i),H,I.tok _,⟨_,rfl⟩,q⟩
theorem S4:wJ X (unaryOp .USub) (rU λi=>.int (-i)):=S3 λ_ _ _ _ _ q=>neg_int q
end
section
variable{X:Cx}{a b c:bp}{ta tb tc:TE}{pos:Pos}
theorem HN{pins:List (ai×Obj)}{σ:St}{H:Hp}{s:ag}{Q:VK}{k k':Bool}(I:Inv X pins σ H s)(q:Q (.bl k) H)(e:k=k'):EP X pins σ Q (.bool k') s:=by subst e;exact⟨.bl k,H,I,rfl,q⟩
theorem HP:Cw X (compareOp .Lt) (kG λi j=>.bl (decide (i<j))):=wL λ_ _ _ _ _ _ _ q=>lt_int q
theorem BF:Cw X (compareOp .LtE) (kG λi j=>.bl (decide (i<=j))):=wL λ_ _ _ _ _ _ _ q=>le_int q
theorem S5:Cw X (compareOp .Gt) (kG λi j=>.bl (decide (j<i))):=wL λ_ _ _ _ _ _ _ q=>gt_int q
theorem S6:Cw X (compareOp .GtE) (kG λi j=>.bl (decide (j<=i))):=wL λ_ _ _ _ _ _ _ q=>ge_int q
theorem S7:Cw X (compareOp .Is) (λx y H Q=>y=.non/\Q (.bl (decide (x=.non))) H):=by
 intro pins s σ H x y v u Q I rx ry h;obtain⟨rfl,q⟩:=h;cases ry;refine is_none_gen (HN I q ?_)
 cases x<;>first
  |(cases rx;rfl)
  |(obtain⟨t,rfl⟩:=rx;rfl)
theorem S8:Cw X (compareOp .IsNot) (λx y H Q=>y=.non/\Q (.bl (!decide (x=.non))) H):=by
 intro pins s σ H x y v u Q I rx ry h;obtain⟨rfl,q⟩:=h;cases ry;refine isnot_none_gen (HN I q ?_)
 cases x<;>first
  |(cases rx;rfl)
  |(obtain⟨t,rfl⟩:=rx;rfl)
theorem Cw.or{f:af->af->Sem af}{r r':R2}(h:Cw X f r)(h':Cw X f r'):Cw X f (λx y H Q=>r x y H Q∨r' x y H Q):=by
 intro pins s σ H x y v u Q I rx ry q
 rcases q with q|q
 ·exact h pins s σ H x y v u Q I rx ry q
 ·exact h' pins s σ H x y v u Q I rx ry q
theorem kW(b:bp){op:CmpOp}(h:op≠.In:=by decide)(h2:op≠.NotIn:=by decide):behindInMarks op b=false:=by
 have e1:(op==CmpOp.In)=false:=by cases op<;>first|rfl|exact absurd rfl h
 have e2:(op==CmpOp.NotIn)=false:=by cases op<;>first|rfl|exact absurd rfl h2
 cases b<;>simp[behindInMarks,e1,e2]
theorem S9{op:CmpOp}{r:R2}(ho:Cw X (compareOp op) r)(ha:PE X a ta)(hb:PE X b tb)(hm:behindInMarks op b=false):PE X (.Compare a [op] [b] pos) (tN r ta tb):=by intro pins s σ H Q I h;exact wpAny_Compare1 (BD ha hb I h λv u s2 x y H2 I2 rx ry q=>ho pins s2 σ H2 x y v u Q I2 rx ry q) hm
def TB(t:TE):TT:=λσ H Q=>t σ H λx H'=>∃k,x=.bl k/\Q k H'
theorem TF{op:CmpOp}{r:R2}(ho:Cw X (compareOp op) r)(ha:PE X a ta)(hb:PE X b tb)(hm:behindInMarks op b=false):PT X (.Compare a [op] [b] pos) (TB (tN r ta tb)):=by intro pins s σ H Q I h;refine wpAny_isTrue_Compare1 (bQ (ha pins s σ H _ I h) λv s1⟨x,H1,I1,r1,q1⟩=>bQ (hb pins s1 σ H1 _ I1 q1) λu s2⟨y,H2,I2,r2,q2⟩=>bQ (ho pins s2 σ H2 x y v u _ I2 r1 r2 q2) λc s3⟨z,H3,I3,r3,k,e,q3⟩=>?_) hm;subst e;cases r3;exact nt ⟨H3,I3,q3⟩
def HQ(r r':R2)(ta tb tc:TE):TE:=λσ H Q=>ta σ H λx H1=>tb σ H1 λy H2=>r x y H2 λz H3=>∃k,z=.bl k/\
 (if k=true then tc σ H3 λw' H4=>r' y w' H4 Q else Q (.bl false) H3)
theorem TH{op op':CmpOp}{r r':R2}(ho:Cw X (compareOp op) r)(Gn:Cw X (compareOp op') r')(ha:PE X a ta)(hb:PE X b tb)(hc:PE X c tc)(hm:lastMarks [op,op'] [b,c]=false:=by with_unfolding_all rfl):PE X (.Compare a [op,op'] [b,c] pos) (HQ r r' ta tb tc):=by
 intro pins s σ H Q I h;refine Compare_chain (bQ (ha pins s σ H _ I h) λv s1⟨x,H1,I1,r1,q1⟩=>chain_link (bQ (hb pins s1 σ H1 _ I1 q1) λu s2⟨y,H2,I2,r2,q2⟩=>bQ (ho pins s2 σ H2 x y v u _ I2 r1 r2 q2) λd s3⟨z,H3,I3,r3,k,e,q3⟩=>?_)) hm;subst e;cases r3;refine nt ?_
 cases k with
 |false=>exact ite_ff ⟨.bl false,H3,I3,rfl,q3⟩
 |true=>exact ite_tt (chain_last (bQ (hc pins s3 σ H3 _ I3 q3) λw' s4⟨z',H4,I4,r4,q4⟩=>Gn pins s4 σ H4 y z' u w' Q I4 r2 r4 q4))
def HR(K:ar)(x:V)(H:Hp)(k:Bool):Prop:=
 match x with
 |.non=>k=false
 |.bl b=>k=b
 |.int i=>k=(i !=0)
 |.str y=>y.length<=cp/\k=((y.length:Int) !=0)
 |.byt y=>y.size<=cp/\k=((y.size:Int) !=0)
 |.ref p=>(∃xs,Dj K H p xs/\k=!xs.isEmpty)∨(∃xs,Ct K H p xs/\k=!xs.isEmpty)∨∃kvs,H p=some (.dK kvs)/\k=!kvs.isEmpty
 |_=>False
theorem TJ{κ:Type}{kvs:List (κ×V)}{vs:List (κ×af)}(r:KV kvs vs):(!vs.isEmpty)=!kvs.isEmpty:=by cases r<;>rfl
theorem HS{xs:List V}{its:List af}(r:Cc xs its):(!its.toArray.isEmpty)=!xs.isEmpty:=by cases r<;>simp
theorem qY:(cp:Nat)<2^63:=by rw[gv];decide
theorem TL:SQ X (λx H Q=>∃k,HR X.K x H k/\Q k H):=by
 intro pins s σ H x v Q I rx h;obtain⟨k,e,q⟩:=h;have hl:=qY;have hs:cp=16777216:=gv
 cases x with
 |non=>cases rx;have e':k=false:=e;subst e';exact truthy_none ⟨H,I,q⟩
 |bl b=>cases rx;have e':k=b:=e;subst e';exact nt ⟨H,I,q⟩
 |int i=>obtain⟨t,rfl⟩:=rx;have e':k=(i !=0):=e;subst e';exact PySem.P.truthy_int ⟨H,I,q⟩
 |str y=>obtain⟨t,rfl⟩:=rx;obtain⟨hy,e'⟩:y.length<=cp/\k=((y.length:Int) !=0):=e;subst e';exact PySem.P.truthy_str (by lia) ⟨H,I.tok _,q⟩
 |byt y=>obtain⟨t,rfl⟩:=rx;obtain⟨hy,e'⟩:y.size<=cp/\k=((y.size:Int) !=0):=e;subst e';exact PySem.W.truthy_bytes (by lia) ⟨H,I.tok _,q⟩
 |ref p=>
  cases rx;have e':(∃xs,Dj X.K H p xs/\k=!xs.isEmpty)∨(∃xs,Ct X.K H p xs/\k=!xs.isEmpty)∨∃kvs,H p=some (.dK kvs)/\k=!kvs.isEmpty:=e
  rcases e' with⟨xs,hx,e'⟩|⟨xs,hx,e'⟩|⟨kvs,hx,e'⟩
  ·subst e';obtain⟨its,r,pl,hz⟩:=I.list hx;have hlen:=r.length;exact wpAny_truthy_list pl.isList (by simp only[bg];lia) ⟨H,I.tok _,by rw[HS r];exact q⟩
  ·subst e';obtain⟨its,r,pl,hz⟩:=I.tuple hx;have hlen:=r.length;exact truthy_tuple pl (by simp only[bg];lia) ⟨H,I.tok _,by rw[HS r];exact q⟩
  ·subst e';obtain⟨hz,hS,vs,r,m⟩:kvs.length<=cp/\(p==sysModules)=false/\∃vs,KV kvs vs/\s.heap.DictOf (qV X.prog X.w) p vs:=I.hok p _ hx;have hlen:kvs.length=vs.length:=Paired.length r;exact wpAny_truthy_dict hS m (by lia) ⟨H,I.tok _,by rw[TJ r];exact q⟩
 |_=>exact(show False from e).elim
theorem TM(ha:PE X a ta)(he:∀whole,isTrue a X.env whole=(do let v <-whole;standAt a.pos;holding [v] (truthy v))):
  PT X a (λσ H Q=>ta σ H λx H'=>∃k,HR X.K x H' k/\Q k H'):=by
 intro pins s σ H Q I h;exact isTrue_plain (bQ (ha pins s σ H _ I h) λv s1⟨x,H1,I1,r1,q1⟩=>TL pins s1 σ H1 x v Q I1 r1 q1) (he _)
theorem iW{x:V}{us:List af}(r:Cc [x] us):∃u,us=[u]/\RelV x u:=by
 cases r with
 |cons r1 r2=>cases r2;exact⟨_,rfl,r1⟩
theorem tP{x y:V}{us:List af}(r:Cc [x,y] us):∃u w',us=[u,w']/\RelV x u/\RelV y w':=by
 cases r with
 |cons r1 r2=>
  cases r2 with
  |cons r3 r4=>cases r4;exact⟨_,_,rfl,r1,r3⟩
theorem TN(hc:X.calm=true):Cf X (.builtin "max") (λxs H Q=>∃i j,xs=[.int i,.int j]/\Q (.int (if j>i then j else i)) H):=by
 intro pins s σ H xs us Q I r h;obtain⟨i,j,rfl,q⟩:=h;obtain⟨u,w',rfl,⟨t,rfl⟩,⟨t',rfl⟩⟩:=tP r;refine max_two_ints (I.ok.hd hc) λh' tk k=>⟨_,H,I.kept k,?_,q⟩
 by_cases hj:j>i
 ·rw[if_pos hj,if_pos hj];exact⟨_,rfl⟩
 ·rw[if_neg hj,if_neg hj];exact⟨_,rfl⟩
theorem TQ(hc:X.calm=true):Cf X (.builtin "min") (λxs H Q=>∃i j,xs=[.int i,.int j]/\Q (.int (if j<i then j else i)) H):=by
 intro pins s σ H xs us Q I r h;obtain⟨i,j,rfl,q⟩:=h;obtain⟨u,w',rfl,⟨t,rfl⟩,⟨t',rfl⟩⟩:=tP r;refine min_two_ints (I.ok.hd hc) λh' tk k=>⟨_,H,I.kept k,?_,q⟩
 by_cases hj:j<i
 ·rw[if_pos hj,if_pos hj];exact⟨_,rfl⟩
 ·rw[if_neg hj,if_neg hj];exact⟨_,rfl⟩
end
structure Cv(k:Nat)(A:bx):Prop where
 hd:A.handled=none
 dp:A.depth+3*k+5<recursionLimit
 un:A.units+16*k+200<cLine
theorem Cv.mono{j k:Nat}{A:bx}(r:Cv k A)(h:j<=k):Cv j A:=⟨r.hd,by have:=r.dp;lia,by have:=r.un;lia⟩
theorem Cv.deeper{k:Nat}{A:bx}(r:Cv (k+1) A)(env:Env):Cv k (A.deeper env):=⟨r.hd,by have:=r.dp;show A.depth+1+3*k+5<_;lia,by have:=r.un;show A.units+3+16*k+200<_;lia⟩
theorem Cv.depth{k:Nat}{A:bx}(r:Cv k A):A.depth<recursionLimit:=by have:=r.dp;lia
theorem Cv.units{k:Nat}{A:bx}(r:Cv k A):A.units+64<cLine:=by have:=r.un;lia
def HU:TA:=λ_ H Q=>Q [] H
def HV(ta:TE)(tr:TA):TA:=λσ H Q=>ta σ H λx H1=>tr σ H1 λxs H2=>Q (x::xs) H2
section
variable{X:Cx}{e:bp}{es:List bp}{te:TE}{t:TA}{pos:Pos}
theorem jU:PA X [] HU:=λ_ _ _ _ H Q I h=>Calls.spliced_nil ⟨[],H,I,.nil,h⟩
theorem iJ(ha:PE X e te)(hr:PA X es t)(hs:aq (e::es) X.env=(false,eval e X.env)::aq es X.env:=by rfl):PA X (e::es) (HV te t):=by intro pos pins s σ H Q I h;rw[hs];show wpAny _ _ (spliced ((false,eval e X.env)::backTo pos (aq es X.env))) _ _ s;refine Calls.spliced_cons (bQ (ha pins s σ H _ I h) λu s1⟨x,H1,I1,r1,q1⟩=>?_);exact bQ (hr pos pins s1 σ H1 _ I1 q1) λus s2⟨xs,H2,I2,r2,q2⟩=>⟨x::xs,H2,I2,.cons r1 r2,q2⟩
def TR(t:TA):TE:=λσ H Q=>t σ H λxs H1=>xs.length<=cp/\∀p,H1 p=none->Q (.ref p) (aV H1 p (.tup xs))
def TU(t:TA):TE:=λσ H Q=>t σ H λxs H1=>xs.length<=cp/\∀p,H1 p=none->Q (.ref p) (aV H1 p (.lst xs))
theorem HW{x1}(h:PA X es t):PE X (.Tuple es x1 pos) (TR t):=by intro pins s σ H Q I hq;refine wpAny_Tuple_spliced (bQ (h pos pins s σ H _ I hq) λus s1⟨xs,H1,I1,r,z,q⟩=>⟨by rw[<-r.length];exact z,?_⟩);have hf:H1 s1.heap.objs.size=none:=I1.hok.fresh (ao _);refine⟨.ref s1.heap.objs.size,aV H1 s1.heap.objs.size (.tup xs),I1.laid (t':=s1.toks) (λb u e=>ak _ e) (ao _) ?_,rfl,q _ hf⟩;exact⟨z,us,r,⟨_,aw _ rfl,rfl,rfl,_,rfl⟩⟩
theorem TV(h:PA X es t):PE X (.List es pos) (TU t):=by intro pins s σ H Q I hq;refine wpAny_List_spliced (bQ (h pos pins s σ H _ I hq) λus s1⟨xs,H1,I1,r,z,q⟩=>⟨by rw[<-r.length];exact z,?_⟩);have hf:H1 s1.heap.objs.size=none:=I1.hok.fresh (ao _);refine⟨.ref s1.heap.objs.size,aV H1 s1.heap.objs.size (.lst xs),I1.laid (t':=s1.toks) (λb u e=>ak _ e) (ao _) ?_,rfl,q _ hf⟩;exact⟨z,us,0,r,aw _ rfl⟩
end
abbrev Sp:=List V->Hp->VK->XK->Prop
abbrev lX:=List Env->Hp->ag->XK->af->ag->Prop
structure Hb(P:bj)(w:cb)(K:ar)(mg:Str->Option af)(base:cq)(A:bx)(outer:List Env)(s:ag)(H:Hp):Prop where
 frames:A.frames=some outer
 mod:Mod K mg base
 bs:∀b o,base.get? b=some o->s.heap.get? b=some o/\H b=none
 bsz:base.objs.size<=s.heap.objs.size
 funs:s.heap.FunFrames base outer
 frf:∀b∈eY outer,H b=none
 hok:Dn P w H s.heap
 bare:uf s.gens
inductive CE(outer:List Env)(P:bj)(w:cb)(H:Hp)(s:ag)(Q:VK)(u:af)(s':ag):Prop
 |mk (v:_) (H':_) (h0:s'.os=s.os) (h1:uf s'.gens) (h2:Un (eY outer) [] H H' s.heap s'.heap) (h3:Dn P w H' s'.heap) (h4:RelV v u) (h5:Q v H'):CE outer P w H s Q u s'
def CR(CX:lX)(outer:List Env)(P:bj)(w:cb)(H:Hp)(s:ag)(Q:VK)(E:XK)(r:xm)(s':ag):Prop:=
 match r with
 |.ok (.ret u)=>CE outer P w H s Q u s'
 |.ok _=>False
 |.error e=>CX outer H s E e s'
structure Cg(P:bj)(w:cb)(K:ar)(mg:Str->Option af)(base:cq)(CX:lX)(k:Nat)(f:ai)(fd:bq)(ps:Br)(sp:Sp):Prop where
 len:∀vs H Q E,sp vs H Q E->vs.length=ps.length
 run:∀(A:bx)(outer:List Env)(s:ag)(H:Hp)(args:Args)(us:List af)(vs:List V)(Q:VK)(E:XK),Cv k A->Hb P w K mg base A outer s H->yh s fd args (ps.zip us)->Cc vs us->sp vs H Q E->
  codeAny (model P w) A (.call (.ref f) args) (CR CX outer P w H s Q E) s
theorem Cg.imp{P:bj}{w:cb}{K:ar}{mg:Str->Option af}{base:cq}{CX:lX}{k:Nat}{f:ai}{fd:bq}{ps:Br}{sp sp':Sp}(F:Cg P w K mg base CX k f fd ps sp)(h:∀vs H Q E,sp' vs H Q E->sp vs H Q E):Cg P w K mg base CX k f fd ps sp':=
 ⟨λvs H Q E q=>F.len vs H Q E (h _ _ _ _ q),λA outer s H args us vs Q E hr he hb hv hs=>F.run A outer s H args us vs Q E hr he hb hv (h _ _ _ _ hs)⟩
section
variable{X:Cx}{pins:List (ai×Obj)}{σ:St}{H:Hp}{s s':ag}
theorem Inv.env0(I:Inv X pins σ H s):Hb X.prog X.w X.K X.mg X.base X.A X.stack s H:=⟨I.ok.frames,I.ok.mod,I.bs,df I.ok.bsz I.sz,I.stack,I.stkFree,I.hok,I.bare⟩
theorem Inv.after{Q:VK}{u:af}(I:Inv X pins σ H s)(h:CE X.stack X.prog X.w H s Q u s'):EP X pins σ Q u s':=by obtain⟨v,H',os,bare,un,hok,r,q⟩:=h;obtain⟨hh,g,d,t,os'⟩:=s';obtain rfl:os'=s.os:=os;exact⟨v,H',I.call (h':=hh) (g':=g) (d':=d) (t':=t) (ch:=[]) un hok bare (λb z=>absurd z (by simp)),r,q⟩
end
def TX(sp:Sp)(dvs:List V)(E:XK)(t:TA):TE:=λσ H Q=>t σ H λvs H1=>sp (vs++dvs) H1 Q E
def Binds(K:ar)(fd:bq)(ps:Br)(ds:List af):Prop:=∀(s:ag)(us:List af),K.In s.heap->(us++ds).length=ps.length->yh s fd ⟨us,[]⟩ (ps.zip (us++ds))
theorem Binds.all{K:ar}{fd:bq}{ps:Br}(h:∀us:List af,us.length=ps.length->bindArgs fd ⟨us,[]⟩=pure (ps.zip us)):Binds K fd ps []:=λs us _ hl=>by rw[om]at hl⊢;exact .of_eq (h us hl)
def BG(CX:lX)(X:Cx)(E:XK):Prop:=∀(pins:List (ai×Obj))(σ:St)(H:Hp)(s:ag)(e:af)(s':ag),Inv X pins σ H s->CX X.stack H s E e s'->X.xe e s'
section
variable{X:Cx}{CX:lX}{k:Nat}{f C:ai}{fd:bq}{ps:Br}{sp:Sp}{dvs:List V}{ds:List af}{E:XK}{x m:Str}{p pos apos:Pos}{e o:bp}{es:List bp}{ta:TE}{t:TA}
theorem TY{pins:List (ai×Obj)}{σ:St}{H:Hp}{s:ag}{Q:VK}{us:List af}{vs:List V}(F:Cg X.prog X.w X.K X.mg X.base CX k f fd ps sp)(hr:Cv k X.A)(hb:Binds X.K fd ps ds)(hd:Cc dvs ds)(hx:BG CX X E)(I:Inv X pins σ H s)(r:Cc vs us)(h:sp (vs++dvs) H Q E):wpAny (model X.prog X.w) X.A (call (.ref f) us) (EP X pins σ Q) X.xe s:=by
 have r2:Cc (vs++dvs) (us++ds):=r.append hd;have hl:(us++ds).length=ps.length:=by rw[<-r2.length];exact F.len _ _ _ _ h
 refine Am (pz (F.run X.A X.stack s H ⟨us,[]⟩ (us++ds) (vs++dvs) Q E hr I.env0 (hb s us I.kIn hl) r2 h) λr s' hq=>?_)
 cases r with
 |error e=>exact hx pins σ H s e s' I hq
 |ok fl=>
  cases fl with
  |ret u=>exact I.after hq
  |next=>exact ja hq
  |brk=>exact ja hq
  |cont=>exact ja hq
theorem TZ(F:Cg X.prog X.w X.K X.mg X.base CX k f fd ps sp)(hr:Cv k X.A)(hg:Gl X x)(hm:X.mg x=some (.ref f))(hk:qv X.K (.ref f)=true)(hb:Binds X.K fd ps ds)(hd:Cc dvs ds)(hx:BG CX X E)(ha:PA X (e::es) t)(Ft:(x==Ib)=false:=by decide)(he:aq (e::es) X.env=(false,eval e X.env)::aq es X.env:=by rfl)(Dp:(backTo pos (aq es X.env)).any (·.1)=false:=by rfl):
  PE X (.Call (.Name x p) (e::es) [] pos) (TX sp dvs E t):=by
 intro pins s σ H Q I h;refine ph (tK I hg hm ?_ Ft);refine An (h₀:=X.base) I.ok.mod.kin hk (bQ (ha pos pins s σ H _ I h) λus s1⟨vs,H1,I1,r,q⟩=>⟨I1.kIn,?_⟩) he Dp;exact TY F hr hb hd hx I1 r q
end
structure Cb(N P:Br)(sc:fy):Prop where
 kind:sc.kind=.function
 co:sc.isCoroutine=false
 gen:sc.isGenerator=false
 nd:N.Nodup
 pre:N.take P.length=P
 par:∀x∈P,sc.names.lookup x=some .local∨sc.names.lookup x=some .cell
 nofree:∀y∈sc.names,y.2≠.free
theorem HX{kindOf:Str->Option mq}{x:Str}:∀{binds:List (Str×af)}{m:Str->Option af},(∀v,(x,v)∉binds)->bindL kindOf binds m x=m x
 |[],_,_=>rfl
 |(n,v)::r,m,h=>by
  unfold bindL;rw[HX λw hw=>h w (ax _ hw)]
  split
  ·have:x≠n:=by rintro rfl;exact h v bh
   simp[this]
  ·rfl
theorem HY{kindOf:Str->Option mq}{x:Str}:∀{binds:List (Str×af)}{m:Str->Option af},(∀v,(x,v)∉binds)->bindC kindOf binds m x=m x
 |[],_,_=>rfl
 |(n,v)::r,m,h=>by
  unfold bindC;rw[HY λw hw=>h w (ax _ hw)]
  split
  ·rfl
  ·have:x≠n:=by rintro rfl;exact h v bh
   simp[this]
theorem HZ{kindOf:Str->Option mq}{x:Str}{v:af}:∀{P:Br}{vs:List af}{i:Nat}{m:Str->Option af},P.Nodup->P[i]?=some x->vs[i]?=some v->kindOf x=some .local->
  bindL kindOf (P.zip vs) m x=some v
 |[],_,_,_,_,h,_,_=>by simp at h
 |_::_,[],_,_,_,_,h,_=>by simp at h
 |p::P,w::vs,0,m,nd,h1,h2,hk=>by simp at h1 h2;subst h1;subst h2;show bindL kindOf ((p,w)::P.zip vs) m p=_;unfold bindL;rw[HX λv hv=>(jw.mp nd).1 (yb hv).1,if_pos hk];simp
 |p::P,w::vs,i+1,m,nd,h1,h2,hk=>by show bindL kindOf ((p,w)::P.zip vs) m x=_;unfold bindL;exact HZ (i:=i) (jw.mp nd).2 (by simpa using h1) (by simpa using h2) hk
theorem IA{kindOf:Str->Option mq}{x:Str}{v:af}:∀{P:Br}{vs:List af}{i:Nat}{m:Str->Option af},P.Nodup->P[i]?=some x->vs[i]?=some v->kindOf x≠some .local->
  bindC kindOf (P.zip vs) m x=some v
 |[],_,_,_,_,h,_,_=>by simp at h
 |_::_,[],_,_,_,_,h,_=>by simp at h
 |p::P,w::vs,0,m,nd,h1,h2,hk=>by simp at h1 h2;subst h1;subst h2;show bindC kindOf ((p,w)::P.zip vs) m p=_;unfold bindC;rw[HY λv hv=>(jw.mp nd).1 (yb hv).1,if_neg hk];simp
 |p::P,w::vs,i+1,m,nd,h1,h2,hk=>by show bindC kindOf ((p,w)::P.zip vs) m x=_;unfold bindC;exact IA (i:=i) (jw.mp nd).2 (by simpa using h1) (by simpa using h2) hk
def start(N:Br)(vs:List V):St:=vs.map some++bu (N.length-vs.length) none
def gU(CX:lX)(P:bj)(w:cb)(K:ar)(mg:Str->Option af)(base:cq)(N:Br)(qual:Str)(scope:fy)(f:ai)(cd:af)(A:bx)(outer:List Env)(s:ag)(H:Hp)(E:XK):Cx where
 prog:=P
 w:=w
 K:=K
 mg:=mg
 base:=base
 A:=A.deeper (envOfC qual scope s.heap.objs.size f cd)
 N:=N
 s₀:=s
 H₀:=H
 env:=envOfC qual scope s.heap.objs.size f cd
 outer:=outer
 stack:=envOfC qual scope s.heap.objs.size f cd::outer
 ex:=[]
 calm:=true
 fn:=λ_=>true
 pn:=[]
 xe:=λe s'=>wpAny (model P w) (A.deeper (envOfC qual scope s.heap.objs.size f cd)) (leaving (envOfC qual scope s.heap.objs.size f cd) e) (λ_ s''=>CX outer H s E e s'') (λe' s''=>CX outer H s E e' s'') s'
theorem IB{sc:fy}{n:Nat}{x:Str}(h:sc.names.lookup x=some .cell):∃c,(cellsFrom n sc.names []).lookup x=some c:=by have q:=zg sc.names n [] (.inl h);exact yx.mp q
theorem T1{CX:lX}{P:bj}{w:cb}{K:ar}{mg:Str->Option af}{base:cq}{N ps:Br}{qual:Str}{scope:fy}{f:ai}{cd:af}{A:bx}{outer:List Env}{s s1:ag}{H:Hp}{E:XK}{us:List af}{vs:List V}(S:Cb N ps scope)(hd:A.handled=none)(e0:Hb P w K mg base A outer s H)(hl:vs.length=ps.length)(r:Cc vs us)(x:InCallC s s.heap.objs.size (bindL (envOfC qual scope s.heap.objs.size f cd).kindOf (ps.zip us) λ_=>none) (cellsFrom (s.heap.objs.size+1) scope.names []) (bindC (envOfC qual scope s.heap.objs.size f cd).kindOf (ps.zip us) λ_=>none) s1):
  Inv (gU CX P w K mg base N qual scope f cd A outer s H E) [] (start N vs) H s1:=by
 have Dp:ps.length<=N.length:=by have:=congrArg ow S.pre;rw[jo]at this;lia
 obtain⟨h1,tk,rfl,hk⟩:=x.done;have noA:∀b:ai,b∉(gU CX P w K mg base N qual scope f cd A outer s H E).ex:=λb z=>absurd (show b∈([]:List ai) from z) (by simp);refine⟨⟨e0.mod,S.kind,rfl,rfl,ao _,λy z c h1 h2=>?_,λy hy=>?_,λy c _ h=>?_,λ_=>hd,Ac e0.frames,.inr ⟨rfl,rfl⟩,λb z=>absurd z (noA b),e0.bs,e0.bsz,λb _ _=>noA b,λb z=>absurd z (noA b),e0.funs,e0.frf⟩,
  rfl,e0.bare,Un.kept hk,⟨_,x.toInCall.ns,λi y v h1 h2 h3=>?_⟩,λy c h=>⟨_,x.cell y c h⟩,e0.hok.fresh (ao _),λy c h=>?_,λp hp=>absurd (show p∈([]:List (ai×Obj)) from hp) (by simp),e0.hok.kept hk,?_⟩
 ·exact name_of_addr x.apart (gb h1) (gb h2)
 ·have hy:scope.names.lookup y=some .cell∨scope.names.lookup y=some .free:=hy
  rcases hy with hy|hy
  ·exact IB hy
  ·exact absurd rfl (S.nofree _ (gb hy))
 ·exact gh (x.above y c (gb h))
 ·have hi:i<vs.length:=by
   unfold start at h2
   by_cases hi:i<vs.length
   ·exact hi
   ·rw[gj (by simpa using hi)]at h2;rw[tu]at h2
    split at h2<;>cases h2
  have ha:vs[i]?=some v:=by
   unfold start at h2;rw[ed (by simpa using hi),dm]at h2
   cases e:vs[i]? with
   |none=>rw[e]at h2;cases h2
   |some a=>rw[e]at h2;cases h2;rfl
  obtain⟨u,hu,rv⟩:=r.get ha;have hp:ps[i]?=some y:=by rw[<-S.pre,zt (by lia)];exact h1
  have ndP:ps.Nodup:=by rw[<-S.pre];exact S.nd.sublist (List.take_sublist _ _)
  refine⟨u,rv,?_⟩
  rcases S.par y (cx hp)with k|k
  ·exact .inl ⟨k,HZ ndP hp hu k⟩
  ·obtain⟨c,e⟩:=IB (n:=s.heap.objs.size+1) k;refine .inr ⟨.inl k,c,e,?_⟩;have q:=x.cell y c e;rw[IA ndP hp hu (by show scope.names.lookup y≠_;rw[k];decide)]at q;exact q
 ·exact e0.hok.fresh (gh (x.above y c (gb h)))
 ·unfold start;show _=N.length;rw[cz,bf,List.length_replicate]
  lia
theorem BH{CX:lX}{P:bj}{w:cb}{K:ar}{mg:Str->Option af}{base:cq}{k:Nat}{f:ai}{name qual:Str}{params:ju}{body:List iq}{scope:fy}{dV kV doc pm cdv ct oc:af}{an od:Option ai}{osl:Array (Option af)}{N ps:Br}{sp:Sp}(lk:K.lookup f=some ⟨oc,od,.func (qk name qual params body scope dV kV doc pm an cdv ct),osl⟩)(hcd:xq K cdv qual=true)(S:Cb N ps scope)(len:∀vs H Q E,sp vs H Q E->vs.length=ps.length)(Cz:∀(A:bx)(outer:List Env)(s:ag)(H:Hp)(vs:List V)(Q:VK)(E:XK),Cv k (A.deeper (envOfC qual scope s.heap.objs.size f cdv))->sp vs H Q E->
   ∃t,Ha (gU CX P w K mg base N qual scope f cdv A outer s H E) body t/\t {nx:=λ_ H'=>Q .non H',rt:=Q} (start N vs) H):
  Cg P w K mg base CX (k+1) f (qk name qual params body scope dV kV doc pm an cdv ct) ps sp:=by
 refine⟨len,λA outer s H args us vs Q E hr e0 hb r hsp=>?_⟩;have hl:=len _ _ _ _ hsp;have KX:K.In s.heap:=e0.mod.kin.keeps λb o e=>(e0.bs b o e).1;have lim:s.heap.NoLimit:=e0.mod.nolimit.keeps λb o e=>(e0.bs b o e).1;have Eg:∀y∈ps.zip us,scope.names.lookup y.1=some .local∨(scope.names.lookup y.1=some .cell/\((cellsFrom (s.heap.objs.size+1) scope.names []).lookup y.1).isSome=true):=λ⟨n,v⟩hy=>by
  rcases S.par n (yb hy).1 with q|q
  ·exact .inl q
  ·exact .inr ⟨q,zg _ _ _ (.inl q)⟩
 refine codeAny_call_function hr.depth (KX _ _ lk) rfl S.co S.gen rfl (PySem.W.codeRec_of KX hcd) (hb _ _ _ _ ?_);refine wpAny_newFunctionEnv_cells S.kind Eg λenv he s1 x=>?_;subst he;refine⟨lim.keeps x.toInCall.keep,codeAny_func ?_⟩;obtain⟨t,ht,hq⟩:=Cz A outer s H vs Q E (hr.deeper _) hsp;have I:Inv (gU CX P w K mg base N qual scope f cdv A outer s H E) [] (start N vs) H s1:=T1 S hr.hd e0 hl r x;refine kz (ht [] s1 (start N vs) H _ I hq) (λfl s' hs=>?_) λe s' hs=>hs;have fin:∀{σ':St}{H':Hp}{v:V}{u:af},Inv (gU CX P w K mg base N qual scope f cdv A outer s H E) [] σ' H' s'->RelV v u->Q v H'->CE outer P w H s Q u s':=λ{σ' H' v u}J rv q=>⟨v,H',J.os,J.bare,J.base,J.hok,rv,q⟩
 cases fl with
 |ret u=>obtain⟨v,σ',H',J,rv,q⟩:=hs;exact fin J rv q
 |next=>obtain⟨σ',H',J,q⟩:=hs;exact fin (v:=V.non) (u:=jn) J rfl q
 |brk=>obtain⟨_,_,_,q⟩:=hs;exact ja q
 |cont=>obtain⟨_,_,_,q⟩:=hs;exact ja q
section
variable{X:Cx}{x:Str}{p pos:Pos}{e:bp}{es:List bp}{t:TA}{id T:String}{r:List V->Hp->VK->Prop}
def wN(r:List V->Hp->VK->Prop)(t:TA):TE:=λσ H Q=>t σ H λvs H1=>r vs H1 Q
theorem qZ(hc:Cf X (.builtin id) r)(hg:Gl X x)(hm:X.mg x=none)(hv:dk x=some (.builtin id))(ha:PA X (e::es) t)(hn:x≠"__name__":=by decide)(Ft:(x==Ib)=false:=by decide)(he:aq (e::es) X.env=(false,eval e X.env)::aq es X.env:=by rfl)(Dp:(backTo pos (aq es X.env)).any (·.1)=false:=by rfl):PE X (.Call (.Name x p) (e::es) [] pos) (wN r t):=by
 intro pins s σ H Q I h;refine ph (qW I hg hm hv ?_ hn Ft);exact PyProof.Rows.callWith_builtin1 (bQ (ha pos pins s σ H _ I h) λus s1⟨vs,H1,I1,r1,q1⟩=>hc pins s1 σ H1 vs us Q I1 r1 q1) he Dp
theorem rA(hc:Cf X (.type T) r)(hg:Gl X x)(hm:X.mg x=none)(hv:dk x=some (.type T))(ha:PA X (e::es) t)(hn:x≠"__name__":=by decide)(Ft:(x==Ib)=false:=by decide)(he:aq (e::es) X.env=(false,eval e X.env)::aq es X.env:=by rfl)(Dp:(backTo pos (aq es X.env)).any (·.1)=false:=by rfl):PE X (.Call (.Name x p) (e::es) [] pos) (wN r t):=by
 intro pins s σ H Q I h;refine ph (qW I hg hm hv ?_ hn Ft);exact lb (bQ (ha pos pins s σ H _ I h) λus s1⟨vs,H1,I1,r1,q1⟩=>hc pins s1 σ H1 vs us Q I1 r1 q1) he Dp
end
end L2
abbrev Ic:=List L2.V
open L2.V renaming int->Hi,ref->Hz
open L2.Ct renaming of->Hk
open L2.Dj renaming of->Hr
namespace HT
open PySem PyProof.Rows
def lexLt:y'->y'->Bool
 |[],[]=>false
 |[],_::_=>true
 |_::_,[]=>false
 |x::xs,y::ys=>if x=y then lexLt xs ys else decide (x<y)
theorem lexLt_cons(x y:Int)(xs ys:y'):lexLt (x::xs) (y::ys)=if x=y then lexLt xs ys else decide (x<y):=rfl
theorem T3:lexLt [] []=false:=rfl
theorem T4(y:Int)(ys:y'):lexLt [] (y::ys)=true:=rfl
theorem T5(x:Int)(xs:y'):lexLt (x::xs) []=false:=rfl
theorem T6(A:bx)(s:ag)(a:Int)(t:Tok)(c:Int)(u:Tok):∃e,lr A s (.int a t) (.int c u) e/\(e=true↔a=c):=⟨(a==c),SeqAt.EqAt.int_int a t c u,by simp⟩
theorem T7(A:bx)(s:ag)(a:Int)(t:Tok)(c:Int)(u:Tok)(prog:bj)(w:cb)(E:af->ag->Prop)(Q:af->ag->Prop)(h:Q (.bool (decide (a<c))) s):
  wpAny (model prog w) A (richCompare .Lt (.int a t) (.int c u)) Q E s:=
 (yi h:wpAny (model prog w) A (compareOp .Lt (.int a t) (.int c u)) Q E s)
section
open PySem.SeqAt
open PySem.AutoSeq1 (wpAny_loadPart')
open PySem.MeetsSeq PySem.MeetsSeq2 PySem.MeetsSeq3
theorem T9(l b:ai)(items Dg:Array af)(n n2:Nat)(dd dd2:Option ai)(sl sl2:Array (Option af))(ns ms:y')(hi:mn items.toList ns)(hj:mn Dg.toList ms):
  Meets (my.«tuple.__lt__» ⟨[.ref l,.ref b],[]⟩)
   (λ_ R s=>s.heap.get? l=some {cls:=.type "tuple",dict:=dd,data:=.seq items n,slots:=sl}/\s.heap.get? b=some {cls:=.type "tuple",dict:=dd2,data:=.seq Dg n2,slots:=sl2}/\
    R (.ok (.ret (.bool (lexLt ns ms)))) s):=
 .of_wp λprog w A R s h=>by
  obtain⟨hp,g,d,tk,os⟩:=s;obtain⟨hl,hb,h⟩:=h;have f2:=AutoSeq1.sub_tuple_tuple;have z1:items.size=ns.length:=by rw[<-hi.length];simp
  have z2:Dg.size=ms.length:=by rw[<-hj.length];simp
  wp_walk using wpAny_loadPart' hl,wpAny_loadPart' hb,ux _ (λrest b s'=>b.1=none/\s'=⟨hp,g,d,tk,os⟩/\∃(vs ws:List af)(Ek ms':y'),rest=vs.zip ws/\
   mn vs Ek/\mn ws ms'/\Ek.length+Dg.size=ms'.length+items.size/\R (.ok (.ret (.bool (lexLt Ek ms')))) ⟨hp,g,d,tk,os⟩) _
  case turn=>
   rintro ⟨y,x⟩ rest b s' ⟨hb',rfl,vs,ws,Ek,ms',hz,hvi,hwi,hlen,hR⟩
   cases hvi with
   |nil=>rw[List.zip_nil_left]at hz;cases hz
   |cons a t hvi'=>
    cases hwi with
    |nil=>rw[List.zip_nil_right]at hz;cases hz
    |cons c u hwi'=>
     rw[List.zip_cons_cons]at hz;injection hz with hyx hrest;injection hyx with hy hx;subst hy hx;rw[lexLt_cons]at hR;simp only[cm]at hlen;obtain⟨e,he,hiff⟩:=T6 A.in1 ⟨hp,g,d,tk,os⟩ a t c u;refine ae (he prog w _ _ ?_)
     cases e with
     |true=>
      rw[if_pos (hiff.mp rfl)]at hR
      wp_walk
      exact⟨rfl,rfl,_,_,_,_,hrest,hvi',hwi',by lia,hR⟩
     |false=>
      rw[if_neg (λq=>absurd (hiff.mpr q) gu)]at hR;have hri:=T7 A.in1 ⟨hp,g,d,tk,os⟩ a t c u prog w
      wp_walk using hri
      exact⟨_,rfl,by simpa using hR⟩
  case fin=>
   rintro ⟨b1,b2⟩ s' ⟨hb',rfl,vs,ws,Ek,ms',hz,hvi,hwi,hlen,hR⟩
   simp only at hb';subst hb';have hv:lexLt Ek ms'=decide (items.size<Dg.size):=by
    cases hvi with
    |nil=>
     cases hwi with
     |nil=>simp only[oq]at hlen;rw[T3];exact(decide_eq_false (by lia)).symm
     |cons c u hw=>simp only[oq,cm]at hlen;rw[T4];exact(decide_eq_true (by lia)).symm
    |cons a t hv=>
     cases hwi with
     |nil=>simp only[oq,cm]at hlen;rw[T5];exact(decide_eq_false (by lia)).symm
     |cons c u hw=>rw[List.zip_cons_cons]at hz;cases hz
   rw[hv]at hR
   wp_walk
   exact⟨_,rfl,by simpa[Builtin.Tuple.tupleCompareSizes]using hR⟩
  case h=>exact⟨rfl,rfl,items.toList,Dg.toList,ns,ms,rfl,hi,hj,by lia,h⟩
end
section
variable{prog:bj}{w:cb}{A:bx}{E:af->ag->Prop}{s:ag}
theorem lt_tupInts{l b:ai}{items Dg:Array af}{ns ms:y'}{Q:af->ag->Prop}(hl:Aj s.heap l items)(hb:Aj s.heap b Dg)(hi:mn items.toList ns)(hj:mn Dg.toList ms)(hu:A.units<cLine)(h:Q (.bool (lexLt ns ms)) s):wpAny (model prog w) A (compareOp .Lt (.ref l) (.ref b)) Q E s:=by
 obtain⟨⟨cls,dd,data,sl⟩,ho,hc,n,hd⟩:=id hl;obtain⟨⟨cls2,dd2,data2,sl2⟩,Fv,hc2,n2,hd2⟩:=id hb;simp only at hc hd hc2 hd2;subst hc hd hc2 hd2;exact richCompare_meets_room (op:=.Lt) ⟨_,ho,rfl⟩ ⟨_,Fv,rfl⟩ PySem.F.slot_tuple_lt PySem.F.entry_tuple_lt (PySem.F.args_tuple_lt_2 _ _) (T9 l b items Dg n n2 dd dd2 sl sl2 ns ms hi hj)
  ⟨ho,Fv,show vn (lexLt ns ms)≠Value.notImplemented/\Q (.bool (lexLt ns ms)) s from⟨(λx=>nomatch x),h⟩⟩ hu
theorem cat_tup{t b:ai}{vs ws:List af}{Q:af->ag->Prop}(ht:Aj s.heap t vs.toArray)(hb:Aj s.heap b ws.toArray)(hv:vs≠[])(h1:ws=[]->Q (.ref t) s)(h2:ws≠[]->Q (.ref s.heap.objs.size) {s with heap:=s.heap.push {cls:=.type "tuple",data:=.seq (vs++ws).toArray} })(hsz:vs.length+ws.length<=cp):wpAny (model prog w) A (binaryOp .Add (.ref t) (.ref b)) Q E s:=by
 obtain⟨⟨cls,dd,data,sl⟩,ho,hc,n,hd⟩:=id ht;obtain⟨⟨cls2,dd2,data2,sl2⟩,Fv,hc2,n2,hd2⟩:=id hb;simp only at hc hd hc2 hd2;subst hc hd hc2 hd2;have e:vs.toArray++ws.toArray=(vs++ws).toArray:=by simp
 by_cases hw:ws=[]
 ·exact concat_meets ⟨_,ho,rfl⟩ ⟨_,Fv,rfl⟩ zh Bk tm sh (rj _ _)
   (tuple_addW1 t b vs.toArray ws.toArray n n2 dd dd2 sl sl2 (by simpa using hv) (by simp[hw])) ⟨ho,Fv,h1 hw⟩
 ·refine concat_meets ⟨_,ho,rfl⟩ ⟨_,Fv,rfl⟩ zh Bk tm sh (rj _ _)
   (tuple_addW2 t b vs.toArray ws.toArray n n2 dd dd2 sl sl2 (by simpa using hv) (by simpa using hw) (by rw[bg,bg];exact hsz)) ⟨ho,Fv,?_⟩
  rw[e];exact h2 hw
def sIx(n d:Nat):Option Int->Nat
 |none=>d
 |some v=>if v<0 then(v+(n:Int)).toNat else min v.toNat n
theorem sIx_none(n d:Nat):sIx n d none=d:=rfl
theorem sIx_nat(n d k:Nat):sIx n d (some (k:Int))=min k n:=by show(if(k:Int)<0 then((k:Int)+(n:Int)).toNat else min (k:Int).toNat n)=min k n;rw[if_neg (by lia),dh]
theorem UA(n d:Nat)(hd:d<=n)(o:Option Int):sIx n d o<=n:=by
 cases o with
 |none=>exact hd
 |some v=>
  show(if v<0 then(v+(n:Int)).toNat else min v.toNat n)<=n
  by_cases hv:v<0
  ·rw[if_pos hv];lia
  ·rw[if_neg hv];exact Nat.min_le_right _ _
theorem IC(v:Int)(n d:Nat):(if v<0 then max (v+(n:Int)) 0 else min v (n:Int))=((sIx n d (some v):Nat):Int):=by
 show(if v<0 then max (v+(n:Int)) 0 else min v (n:Int))=(((if v<0 then(v+(n:Int)).toNat else min v.toNat n):Nat):Int)
 by_cases hv:v<0
 ·simp only[if_pos hv];lia
 ·simp only[if_neg hv];lia
theorem UB(lo hi:Option Int)(n:Nat):qc lo hi 1 (n:Int)=(((sIx n 0 lo:Nat):Int),((sIx n n hi:Nat):Int)):=by
 have h1:¬((1:Int)<0):=by lia
 unfold qc;simp only[h1,if_false];refine Prod.ext ?_ ?_
 ·cases lo with
  |none=>rfl
  |some v=>exact IC v n 0
 ·cases hi with
  |none=>rfl
  |some v=>exact IC v n n
theorem UC(i j:Nat):mw (i:Int) (j:Int) 1=j-i:=by
 unfold mw;have h1:(1:Int)>0:=by lia
 simp only[h1,if_true,Int.ediv_one]
 split<;>lia
theorem ID{v:af}{o:Option Int}{Q:Option Int->ag->Prop}(p:wa v o)(h:Q o s):wpAny (model prog w) A (Builtin.Slice.slicePartIndex v) Q E s:=by
 cases p with
 |none=>exact slicePart_none h
 |int i t=>exact slicePart_int h
theorem sliceApplied_gen{sl:ai}{vl vu:af}{lo hi:Option Int}{n:Nat}{Q:Int×Int×Nat->ag->Prop}(hs:s.heap.IsSliceOf sl vl vu .none)(pl:wa vl lo)(pu:wa vu hi)(h:Q (((sIx n 0 lo:Nat):Int),1,sIx n n hi-sIx n 0 lo) s):wpAny (model prog w) A (vt (.ref sl) (pure (n:Int))) Q E s:=by
 obtain⟨os,hos,hcs,hds⟩:=id hs;unfold vt Builtin.Slice.sliceFields;refine ae (ae (gw hos hds (x:=vl) rfl (ae (gw hos hds (x:=vu) rfl (ae (gw hos hds (x:=.none) rfl (aj ?_)))))));refine ae (slicePart_none ?_);show wpAny _ _ (if((1:Int)==0)=true then _ else _) _ _ s;rw[if_neg (by decide)];refine ae (ID pl (ae (ID pu (ae (aj ?_)))));show wpAny _ _ (match qc lo hi 1 (n:Int)with|(lo,hi)=>pure (lo,(1:Int),mw lo hi 1)) _ _ s;rw[UB lo hi n];show wpAny _ _ (pure (((sIx n 0 lo:Nat):Int),(1:Int),mw ((sIx n 0 lo:Nat):Int) ((sIx n n hi:Nat):Int) 1)) _ _ s;rw[UC];exact aj h
theorem UD(xs:Array af)(i k:Nat):((az k).filterMap λ(m:Nat)=>xs[((i:Int)+(m:Int)*1).toNat]?).toArray=((xs.toList.drop i).take k).toArray:=by
 have e:(λ(m:Nat)=>xs[((i:Int)+(m:Int)*1).toNat]?)=λm=>xs[i+m]?:=by
  funext m
  have:((i:Int)+(m:Int)*1).toNat=i+m:=by lia
  rw[this]
 rw[e];have:=pick_run xs i k;rw[List.filterMap_map]at this;have e2:((λx=>xs[x]?)∘λx=>i+x)=λm=>xs[i+m]?:=rfl;rw[e2]at this;rw[this]
theorem getItem_tuple_cut{t sl:ai}{items:Array af}{vl vu:af}{lo hi:Option Int}{Q:af->ag->Prop}(ht:Aj s.heap t items)(hs:s.heap.IsSliceOf sl vl vu .none)(pl:wa vl lo)(pu:wa vu hi)(hw:¬(sIx items.size 0 lo=0/\sIx items.size items.size hi=items.size))(h:Q (.ref s.heap.objs.size) {s with heap:=s.heap.push {cls:=.type "tuple",data:=.seq ((items.toList.drop (sIx items.size 0 lo)).take (sIx items.size items.size hi-sIx items.size 0 lo)).toArray} })(hsz:items.size<=cp):wpAny (model prog w) A (getItem (.ref t) (.ref sl)) Q E s:=by
 have htake:sizeOk (.seq ((items.toList.drop (sIx items.size 0 lo)).take (sIx items.size items.size hi-sIx items.size 0 lo)).toArray):=by
  show((items.toList.drop (sIx items.size 0 lo)).take (sIx items.size items.size hi-sIx items.size 0 lo)).toArray.size<=cp;rw[bg,jo,pv,jx]
  lia
 have hj:sIx items.size items.size hi<=items.size:=UA _ _ (ao _) hi;obtain⟨os,hos,hcs,hds⟩:=id hs;have hTs:s.TypeIs (.ref sl) "slice":=⟨os,hos,hcs⟩;unfold getItem
 try with_reducible refine ff ?_
 first|refine ae (aj ?_)|skip
 refine ae (wpAny_sequenceKey ht.typeIs (by decide) ?_);refine ae (gr (name:=mr "__getitem__") ht.typeIs ic
  (fe ic ht.typeIs entry_tuple_getitem ?_ (args_tuple_getitem _ _)))
 show wpAny _ _ (Builtin.Tuple.tupleItemsOf (.ref t) >>=_) _ _ s;refine ae (tupleItemsOf_ ht ?_);refine ae (qd hTs ?_);rw[if_pos (by decide)];refine ae (sliceApplied_gen hs pl pu ?_);have hno:¬((((sIx items.size 0 lo:Nat):Int)==0&&(1:Int)==1&&(sIx items.size items.size hi-sIx items.size 0 lo)==items.size)=true):=by intro q;rw[fg,fg]at q;have q1:((sIx items.size 0 lo:Nat):Int)=0:=eq_of_beq q.1.1;have q2:sIx items.size items.size hi-sIx items.size 0 lo=items.size:=eq_of_beq q.2;exact hw ⟨by lia,by lia⟩
 show wpAny _ _ (if(((sIx items.size 0 lo:Nat):Int)==0&&(1:Int)==1&&(sIx items.size items.size hi-sIx items.size 0 lo)==items.size)=true then _ else _) _ _ s;rw[if_neg hno,UD]
 first
  |exact ae (m:=mz _) (fh (aj ⟨_,rfl,aj h⟩) htake)
  |exact ae (m:=mz _) (fh (ae (aj (aj ⟨_,rfl,aj h⟩))) htake)
  |exact ae (ae (m:=mz _) (fh (aj (aj ⟨_,rfl,aj h⟩)) htake))
  |exact ae (ae (m:=mz _) (fh (aj ⟨_,rfl,aj h⟩) htake))
end
end HT
namespace L2
abbrev TO:=St->Hp->(Option Int->Hp->Prop)->Prop
def PO(X:Cx)(e:Option bp)(t:TO):Prop:=
 ∀(pins:List (ai×Obj))(s:ag)(σ:St)(H:Hp)(Q:Option Int->Hp->Prop),Inv X pins σ H s->t σ H Q->
  wpAny (model X.prog X.w) X.A (evalPart e X.env) (λu s'=>∃o H',Inv X pins σ H' s'/\wa u o/\Q o H') X.xe s
def UE:TO:=λ_ H Q=>Q none H
def UG(t:TE):TO:=λσ H Q=>t σ H λx H1=>∃i,x=.int i/\Q (some i) H1
theorem IE{ns:y'}:∀{us:List af},Cc (ns.map Hi) us->mn us ns:=by
 induction ns with
 |nil=>intro us r;rw[List.map_nil]at r;cases r;exact .nil
 |cons n ns ih=>
  intro us r;rw[cy]at r
  cases r with
  |cons r1 r2=>obtain⟨t,e⟩:=r1;subst e;exact .cons n t (ih r2)
section
variable{X:Cx}{e:bp}{te:TE}{lo hi:Option bp}{tl th:TO}{pos p2:Pos}
theorem UH:PO X none UE:=by intro pins s σ H Q I h;rw[evalPart_none];exact aj ⟨none,H,I,.none,h⟩
theorem UI(h:PE X e te):PO X (some e) (UG te):=by intro pins s σ H Q I hw;rw[evalPart_some];refine bQ (h pins s σ H _ I hw) λu s1⟨x,H1,I1,r1,q1⟩=>?_;obtain⟨i,rfl,q⟩:=q1;obtain⟨t,rfl⟩:=r1;exact⟨some i,H1,I1,.int i t,q⟩
def SlR(X:Cx)(r:V->Option Int->Option Int->Hp->VK->Prop):Prop:=
 ∀(pins:List (ai×Obj))(s:ag)(σ:St)(H:Hp)(x:V)(v vl vu:af)(lo hi:Option Int)(sl:ai)(Q:VK),Inv X pins σ H s->RelV x v->s.heap.IsSliceOf sl vl vu .none->wa vl lo->wa vu hi->r x lo hi H Q->
  ∃T id,typeLookup (.type T) "__getitem__"=pure (some (.builtin id))/\s.TypeIs v T/\wpAny (model X.prog X.w) X.A (getItem v (.ref sl)) (EP X pins σ Q) X.xe s
theorem SlR.or{r r':V->Option Int->Option Int->Hp->VK->Prop}(h:SlR X r)(h':SlR X r'):SlR X (λx lo hi H Q=>r x lo hi H Q∨r' x lo hi H Q):=by
 intro pins s σ H x v vl vu lo hi sl Q I rx hs pl pu q
 rcases q with q|q
 ·exact h pins s σ H x v vl vu lo hi sl Q I rx hs pl pu q
 ·exact h' pins s σ H x v vl vu lo hi sl Q I rx hs pl pu q
def UJ(r:V->Option Int->Option Int->Hp->VK->Prop)(te:TE)(tl th:TO):TE:=λσ H Q=>te σ H λx H1=>tl σ H1 λl H2=>th σ H2 λu H3=>r x l u H3 Q
theorem UK{r:V->Option Int->Option Int->Hp->VK->Prop}(hr:SlR X r)(he:PE X e te)(hl:PO X lo tl)(hu:PO X hi th):PE X (.Subscript e (.Slice lo hi none p2) pos) (UJ r te tl th):=by intro pins s σ H Q I h;refine Subscript_ (bQ (he pins s σ H _ I h) λv s1⟨x,H1,I1,r1,q1⟩=>?_);refine wpAny_Slice (bQ (hl pins s1 σ H1 _ I1 q1) λvl s2⟨l,H2,I2,pl,q2⟩=>bQ (hu pins s2 σ H2 _ I2 q2) λvu s3⟨u,H3,I3,pu,q3⟩=>?_);rw[evalPart_none];refine aj ?_;have I4:Inv X pins σ H3 {s3 with heap:=s3.heap.push {cls:=.type "slice",data:=.fields #[vl,vu,.none]} }:=I3.kept (t':=s3.toks) λb ob q=>ak _ q;obtain⟨T,id,hT,ht,hg⟩:=hr pins {s3 with heap:=s3.heap.push {cls:=.type "slice",data:=.fields #[vl,vu,.none]} } σ H3 x v vl vu l u s3.heap.objs.size Q I4 r1 (Heap.IsSliceOf.new ..) pl pu q3;show wpAny (model X.prog X.w) X.A (subscriptTail e (.Slice lo hi none p2) v (.ref s3.heap.objs.size)) (EP X pins σ Q) X.xe {s3 with heap:=s3.heap.push {cls:=.type "slice",data:=.fields #[vl,vu,.none]} };exact tail_any (ops:=[.ref s3.heap.objs.size,v]) ht hT hg (by with_unfolding_all rfl)
def nX(xs:Ic)(lo hi:Option Int):Ic:=(xs.drop (HT.sIx xs.length 0 lo)).take (HT.sIx xs.length xs.length hi-HT.sIx xs.length 0 lo)
theorem IF(xs:Ic)(lo hi:Option Int):(nX xs lo hi).length<=xs.length:=by
 unfold nX;rw[jo,pv]
 lia
def UL(K:ar):V->Option Int->Option Int->Hp->VK->Prop:=λx lo hi H Q=>∃a xs,x=.ref a/\Ct K H a xs/\
 ¬(HT.sIx xs.length 0 lo=0/\HT.sIx xs.length xs.length hi=xs.length)/\∀p,H p=none->Q (.ref p) (aV H p (.tup (nX xs lo hi)))
theorem UM:SlR X (UL X.K):=by
 intro pins s σ H x v vl vu lo hi sl Q I rx hs pl pu h;obtain⟨a,xs,rfl,hx,hw,q⟩:=h;cases rx;obtain⟨its,r,ht,hz⟩:=I.tuple hx;have hlen:its.toArray.size=xs.length:=by rw[bg];exact r.length.symm
 refine⟨"tuple",_,ic.lookup,ht.typeIs,?_⟩;refine HT.getItem_tuple_cut ht hs pl pu (by rw[hlen];exact hw) ?_ (by rw[hlen];exact hz);rw[hlen];refine⟨.ref s.heap.objs.size,_,I.laid (t':=s.toks) (o:=.tup (nX xs lo hi)) (λb ob q=>ak _ q) (ao _) ?_,rfl,q _ (I.hok.fresh (ao _))⟩;exact⟨df (IF xs lo hi) hz,_,(r.drop (HT.sIx xs.length 0 lo)).take (HT.sIx xs.length xs.length hi-HT.sIx xs.length 0 lo),Dc.new _ _⟩
def IG(K:ar):R2:=λx y H Q=>∃a b ns ms,x=.ref a/\y=.ref b/\Ct K H a (ns.map Hi)/\Ct K H b (ms.map Hi)/\Q (.bl (HT.lexLt ns ms)) H
theorem IH(hu:X.A.units<cLine):Cw X (compareOp .Lt) (IG X.K):=by intro pins s σ H x y v u Q I rx ry h;obtain⟨a,b,ns,ms,rfl,rfl,ha,hb,q⟩:=h;cases rx;cases ry;obtain⟨its,r1,p1,_⟩:=I.tuple ha;obtain⟨El,r2,p2,_⟩:=I.tuple hb;have i1:mn its.toArray.toList ns:=IE r1;have i2:mn El.toArray.toList ms:=IE r2;exact HT.lt_tupInts p1 p2 i1 i2 hu ⟨.bl (HT.lexLt ns ms),H,I,rfl,q⟩
def II(K:ar):R2:=λx y H Q=>∃a b xs ys,x=.ref a/\y=.ref b/\Ct K H a xs/\Ct K H b ys/\xs≠[]/\xs.length+ys.length<=cp/\
 (ys=[]->Q (.ref a) H)/\(ys≠[]->∀p,H p=none->Q (.ref p) (aV H p (.tup (xs++ys))))
theorem Cc.nil_iff{xs:Ic}{us:List af}(r:Cc xs us):us=[]↔xs=[]:=by
 cases r with
 |nil=>simp
 |cons _ _=>simp
theorem UN:Cw X (binaryOp .Add) (II X.K):=by intro pins s σ H x y v u Q I rx ry h;obtain⟨a,b,xs,ys,rfl,rfl,ha,hb,hx,hz,q1,q2⟩:=h;cases rx;cases ry;obtain⟨its,r1,p1,_⟩:=I.tuple ha;obtain⟨El,r2,p2,_⟩:=I.tuple hb;refine HT.cat_tup p1 p2 (λz=>hx (r1.nil_iff.mp z)) (λz=>⟨.ref a,H,I,rfl,q1 (r2.nil_iff.mp z)⟩) (λz=>?_) (by rw[<-r1.length,<-r2.length];exact hz);refine⟨.ref s.heap.objs.size,_,I.laid (t':=s.toks) (o:=.tup (xs++ys)) (λb ob q=>ak _ q) (ao _) ?_,rfl,q2 (λw=>z (r2.nil_iff.mpr w)) _ (I.hok.fresh (ao _))⟩;exact⟨by rw[cz];exact hz,_,r1.append r2,Dc.new _ _⟩
end
def dS(n:Nat)(i:Int):Option Nat:=if 0<=i then(if i<n then some i.toNat else none)else if -(n:Int)<=i then some (i+n).toNat else none
def dU{α:Type}(xs:List α)(i:Int):Option α:=(dS xs.length i).bind λj=>xs[j]?
theorem BI{n:Nat}{i:Int}{j:Nat}(h:dS n i=some j):seqIndex? i n=some j/\j<n/\-(n:Int)<=i/\i<n:=by
 unfold dS at h
 by_cases h0:0<=i
 ·rw[if_pos h0]at h
  by_cases h1:i<n
  ·rw[if_pos h1]at h;have e:i.toNat=j:=cn h;exact⟨by rw[seqIndex_of h0 h1,e],by lia,by lia,h1⟩
  ·rw[if_neg h1]at h;cases h
 ·rw[if_neg h0]at h
  by_cases h1:-(n:Int)<=i
  ·rw[if_pos h1]at h;have e:(i+n).toNat=j:=cn h;exact⟨by rw[seqIndex_neg (by lia) h1,e],by lia,h1,by lia⟩
  ·rw[if_neg h1]at h;cases h
theorem BJ{α:Type}{xs:List α}{i:Int}{v:α}(h:dU xs i=some v):∃j,seqIndex? i xs.length=some j/\xs[j]?=some v/\j<xs.length/\-(xs.length:Int)<=i/\i<xs.length:=by
 unfold dU at h
 cases e:dS xs.length i with
 |none=>rw[e]at h;cases h
 |some j=>rw[e]at h;obtain⟨h1,h2,h3,h4⟩:=BI e;exact⟨j,h1,h,h2,h3,h4⟩
def wO(b:bp):Prop:=∀o i,subscripted b false o i=operate [o,i] (getItem o i)
def IxR(X:Cx)(r:R2):Prop:=
 ∀(value slice:bp)(pins:List (ai×Obj))(s:ag)(σ:St)(H:Hp)(x y:V)(v u:af)(Q:VK),Inv X pins σ H s->RelV x v->RelV y u->r x y H Q->
  subscripted slice false v u=operate [v,u] (getItem v u)->wpAny (model X.prog X.w) X.A (subscriptTail value slice v u) (EP X pins σ Q) X.xe s
def UO(X:Cx)(id:String)(r:V->Ic->Hp->VK->Prop):Prop:=
 ∀(pins:List (ai×Obj))(s:ag)(σ:St)(H:Hp)(x:V)(xs:Ic)(v:af)(us:List af)(Q:VK),Inv X pins σ H s->RelV x v->Cc xs us->r x xs H Q->
  wpAny (model X.prog X.w) X.A (call (.builtin id) (v::us)) (EP X pins σ Q) X.xe s
section
variable{X:Cx}{a b:bp}{ta tb:TE}{pos:Pos}
theorem IxR.or{r r':R2}(h:IxR X r)(h':IxR X r'):IxR X (λx y H Q=>r x y H Q∨r' x y H Q):=by
 intro value slice pins s σ H x y v u Q I rx ry q hs
 rcases q with q|q
 ·exact h value slice pins s σ H x y v u Q I rx ry q hs
 ·exact h' value slice pins s σ H x y v u Q I rx ry q hs
theorem BK{r:R2}(hr:IxR X r)(ha:PE X a ta)(hb:PE X b tb)(hs:wO b):PE X (.Subscript a b pos) (tN r ta tb):=by intro pins s σ H Q I h;exact Subscript_ (BD ha hb I h λv u s2 x y H2 I2 rx ry q=>hr a b pins s2 σ H2 x y v u Q I2 rx ry q (hs _ _))
def IJ(K:ar):R2:=λx y H Q=>∃p xs i v,x=.ref p/\y=.int i/\Dj K H p xs/\dU xs i=some v/\Q v H
def IK(K:ar):R2:=λx y H Q=>∃p xs i v,x=.ref p/\y=.int i/\Ct K H p xs/\dU xs i=some v/\Q v H
def IL:R2:=λx y H Q=>∃z i c,x=.str z/\y=.int i/\z.length<=cp/\dU z.cps.toList i=some c/\Q (.str ⟨#[c]⟩) H
theorem ix_list:IxR X (IJ X.K):=by
 intro value slice pins s σ H x y v u Q I rx ry h hs;obtain⟨p,xs,i,z,rfl,rfl,hq,he,q⟩:=h;cases rx;obtain⟨t,rfl⟩:=ry;obtain⟨its,r,pl,hz⟩:=I.list hq;obtain⟨j,h1,h2,h3,h4,h5⟩:=BJ he;obtain⟨w,ew,rw'⟩:=r.get h2;have hl:=r.length;have hn:=qY;have fin:EP X pins σ Q w s:=⟨z,H,I,rw',q⟩
 by_cases h0:0<=i
 ·have hj:i.toNat=j:=by rw[seqIndex_of h0 h5]at h1;exact cn h1
  exact item_listR pl.isList h0 (by lia) (by rw[hj];simpa using ew) fin hs
 ·have hj:(i+(its.toArray.size:Int)).toNat=j:=by rw[seqIndex_neg (by lia) h4]at h1;rw[bg,<-hl];exact cn h1
  exact subscriptTail_builtinR (x:=w) pl.isList.typeIs slot_list_getitem.lookup
   (wpAny_getItem_list_neg (Q:=λr s'=>r=w/\EP X pins σ Q r s') pl.isList (by lia) (by rw[bg]<;>lia) (by lia) (by rw[hj];simpa using ew) ⟨rfl,fin⟩) hs
theorem ix_tup:IxR X (IK X.K):=by
 intro value slice pins s σ H x y v u Q I rx ry h hs;obtain⟨p,xs,i,z,rfl,rfl,hq,he,q⟩:=h;cases rx;obtain⟨t,rfl⟩:=ry;obtain⟨its,r,pl,hz⟩:=I.tuple hq;obtain⟨j,h1,h2,h3,h4,h5⟩:=BJ he;obtain⟨w,ew,rw'⟩:=r.get h2;have hl:=r.length;have hn:=qY;have fin:EP X pins σ Q w s:=⟨z,H,I,rw',q⟩
 exact subscriptTail_builtinR (x:=w) pl.typeIs slot_tuple_getitem.lookup
  (getItem_tuple (j:=j) (Q:=λr s'=>r=w/\EP X pins σ Q r s') pl (by lia) (by lia) (by rw[bg,<-hl];exact h1) (by simpa using ew) ⟨rfl,fin⟩) hs
theorem UP:IxR X IL:=by
 intro value slice pins s σ H x y v u Q I rx ry h hs;obtain⟨z,i,c,rfl,rfl,hz,he,q⟩:=h;obtain⟨t,rfl⟩:=rx;obtain⟨t',rfl⟩:=ry;obtain⟨j,h1,h2,h3,h4,h5⟩:=BJ he;have hl:z.cps.toList.length=z.length:=by simp[Str.length]
 rw[hl]at h1 h4 h5;have hn:=qY;exact tail_any (typeIs_str s z t) slot_str_getitem.lookup (getItem_str (c:=c) (by have e1:decide (i < -(2^63:Int))=false:=decide_eq_false (by lia);have e2:decide (i>=2^63)=false:=decide_eq_false (by lia);rw[e1,e2,Bool.or_false]) (by rw[h1];simpa using h2) ⟨.str ⟨#[c]⟩,H,I.tok _,⟨_,rfl⟩,q⟩) hs
def BL(K:ar):R2:=λx y H Q=>IJ K x y H Q∨IK K x y H Q∨IL x y H Q
theorem IM:IxR X (BL X.K):=ix_list.or (ix_tup.or UP)
theorem UQ(its:List af)(n j:Nat)(u:af):qe (·.setIfInBounds j u) {cls:=.type "list",data:=.seq its.toArray n}={cls:=.type "list",data:=.seq (its.set j u).toArray n}:=by simp[qe]
theorem Inv.lst{pins:List (ai×Obj)}{σ:St}{H:Hp}{s:ag}{p:ai}{xs:Ic}(I:Inv X pins σ H s)(h:H p=some (.lst xs)):
  ∃(its:List af)(n:Nat),Cc xs its/\s.heap.get? p=some {cls:=.type "list",data:=.seq its.toArray n}/\xs.length<=cp:=by
 obtain⟨z,its,n,r,e⟩:=I.hok p _ h;exact⟨its,n,r,e,z⟩
theorem Inv.lstUpd{pins:List (ai×Obj)}{σ:St}{H:Hp}{s:ag}{p:ai}{xs ys:Ic}{its its':List af}{n n':Nat}{f:Obj->Obj}(I:Inv X pins σ H s)(h:H p=some (.lst xs))(ho:s.heap.get? p=some {cls:=.type "list",data:=.seq its.toArray n})(hf:f {cls:=.type "list",data:=.seq its.toArray n}={cls:=.type "list",data:=.seq its'.toArray n'})(r:Cc ys its')(hz:ys.length<=cp)(t:Nat):
  Inv X pins σ (aV H p (.lst ys)) {s with heap:=s.heap.update p f,toks:=t}:=by
 have e:(s.heap.update p f).get? p=some {cls:=.type "list",data:=.seq its'.toArray n'}:=by rw[pq f ho (by rw[hf]<;>rfl),hf]
 refine I.write (x:=p) (e:=p) (by rw[h];trivial) (.inl rfl) (λb u hb q=>(pg _ _ (dg hb)).trans q) ⟨_,e⟩ ?_;exact⟨hz,its',n',r,e⟩
def BM:V->V->V->Hp->(Hp->Prop)->Prop:=λo i v H Q=>∃p xs k j,o=.ref p/\i=.int k/\H p=some (.lst xs)/\dS xs.length k=some j/\Q (aV H p (.lst (xs.set j v)))
theorem UR:A5 X BM:=by
 intro pins s σ H o i v ov iv u Q I ro ri rv h;obtain⟨p,xs,k,j,rfl,rfl,hp,hj,q⟩:=h;cases ro;obtain⟨t,rfl⟩:=ri;obtain⟨its,n,r,ho,hz⟩:=I.lst hp;obtain⟨h1,h2,h3,h4⟩:=BI hj;have hl:=r.length;have hn:=qY;have I':Inv X pins σ (aV H p (.lst (xs.set j v))) {s with heap:=s.heap.update p (qe (·.setIfInBounds j u))}:=I.lstUpd hp ho (UQ its n j u) (r.set rv j) (by rw[kr];exact hz) s.toks
 by_cases h0:0<=k
 ·have hk:k.toNat=j:=by rw[seqIndex_of h0 h4]at h1;exact cn h1
  exact PySem.W.ki_setAt ho h0 (by lia) (by rw[bg,<-hl];exact h4) (by rw[hk];exact⟨_,I',q⟩)
 ·have hk:(k+(its.toArray.size:Int)).toNat=j:=by rw[seqIndex_neg (by lia) h3]at h1;rw[bg,<-hl];exact cn h1
  exact PySem.W.ki_setBack ho (by lia) (by rw[bg,<-hl];exact h3) (by lia) (by rw[hk];exact⟨_,I',q⟩)
theorem US(lo hi:Option Int)(n:Nat):(sliceBounds lo hi none n).1=((HT.sIx n 0 lo:Nat):Int)/\(sliceBounds lo hi none n).2.1=((HT.sIx n n hi:Nat):Int)/\(sliceBounds lo hi none n).2.2=1:=by
 refine⟨?_,?_,rfl⟩
 ·cases lo with
  |none=>simp[sliceBounds,HT.sIx]
  |some i=>
   simp only[sliceBounds,HT.sIx,Option.getD_none,show(1:Int)>0 by decide,if_true]
   by_cases h:i<0
   ·simp only[h,if_true]<;>lia
   ·simp only[h,if_false]<;>lia
 ·cases hi with
  |none=>simp[sliceBounds,HT.sIx]
  |some i=>
   simp only[sliceBounds,HT.sIx,Option.getD_none,show(1:Int)>0 by decide,if_true]
   by_cases h:i<0
   ·simp only[h,if_true]<;>lia
   ·simp only[h,if_false]<;>lia
theorem UT(its:List af)(lo hi:Option Int):slicePick its.toArray lo hi none=((its.drop (HT.sIx its.length 0 lo)).take (HT.sIx its.length its.length hi-HT.sIx its.length 0 lo)).toArray:=by obtain⟨h1,h2,h3⟩:=US lo hi its.toArray.size;unfold slicePick;rw[h1,h2,h3];simp only[sliceRange_one,pick_run,bg]<;>rfl
def UU(K:ar):V->Option Int->Option Int->Hp->VK->Prop:=λx lo hi H Q=>∃a xs,x=.ref a/\Dj K H a xs/\∀p,H p=none->Q (.ref p) (aV H p (.lst (nX xs lo hi)))
theorem UW:SlR X (UU X.K):=by intro pins s σ H x v vl vu lo hi sl Q I rx hs pl pu h;obtain⟨a,xs,rfl,hx,q⟩:=h;cases rx;obtain⟨its,r,ht,hz⟩:=I.list hx;have hlen:=r.length;refine⟨"list",_,slot_list_getitem.lookup,ht.isList.typeIs,?_⟩;refine wpAny_getItem_list_slice ht.isList hs pl pu .none (by simp) ?_ (by rw[bg]<;>lia);rw[UT,<-hlen];refine⟨.ref s.heap.objs.size,_,I.laid (t':=s.toks) (o:=.lst (nX xs lo hi)) (λb ob q=>ak _ q) (ao _) ?_,rfl,q _ (I.hok.fresh (ao _))⟩;exact⟨df (IF xs lo hi) hz,_,0,(r.drop (HT.sIx xs.length 0 lo)).take (HT.sIx xs.length xs.length hi-HT.sIx xs.length 0 lo),aw _ rfl⟩
theorem IP:Cf X (.builtin "len") (λxs H Q=>∃p ys,xs=[.ref p]/\(Dj X.K H p ys∨Ct X.K H p ys)/\Q (.int ys.length) H):=by
 intro pins s σ H xs us Q I r h;obtain⟨p,ys,rfl,hq,q⟩:=h;obtain⟨u,rfl,rx⟩:=iW r;cases rx;have hn:=qY
 rcases hq with hq|hq
 ·obtain⟨its,r',pl,hz⟩:=I.list hq;have hlen:=r'.length;exact Calls.call_len_list pl.isList (by simp only[bg]<;>lia) ⟨.int ys.length,H,I.tok _,⟨s.toks+1,by rw[bg,hlen]⟩,q⟩
 ·obtain⟨its,r',pl,hz⟩:=I.tuple hq;have hlen:=r'.length;exact len_tuple pl (by simp only[bg]<;>lia) ⟨.int ys.length,H,I.tok _,⟨s.toks+1,by rw[bg,hlen]⟩,q⟩
theorem UX:Cf X (.type "list") (λxs H Q=>∃p ys,xs=[.ref p]/\(Dj X.K H p ys∨Ct X.K H p ys)/\∀l,H l=none->Q (.ref l) (aV H l (.lst ys))):=by
 intro pins s σ H xs us Q I r h;obtain⟨p,ys,rfl,hq,q⟩:=h;obtain⟨u,rfl,rx⟩:=iW r;cases rx;have fin:∀(its:List af),Cc ys its->ys.length<=cp->∀(h':cq)(c':Nat),(∀b o',s.heap.get? b=some o'->h'.get? b=some o')->
   h'.get? s.heap.objs.size=some {cls:=.type "list",dict:=none,data:=.seq its.toArray c',slots:=#[]}->EP X pins σ Q (.ref s.heap.objs.size) {s with heap:=h'}:=λits r' hz h' c' kp e=>
  ⟨.ref s.heap.objs.size,_,I.laid (t':=s.toks) kp (ao _) (show Ce X.prog X.w _ h' _ (.lst ys) from⟨hz,its,c',r',e⟩),rfl,q _ (I.hok.fresh (ao _))⟩
 rcases hq with hq|hq
 ·obtain⟨its,r',pl,hz⟩:=I.list hq;have hlen:=r'.length;obtain⟨o,ho,hc,n,hd⟩:=pl.isList;exact call_list_seq p (.inl rfl) ho hc hd (λh' c' kp e=>fin its r' hz h' c' kp e) (by simp only[bg]<;>lia)
 ·obtain⟨its,r',pl,hz⟩:=I.tuple hq;have hlen:=r'.length;obtain⟨o,ho,hc,n,hd⟩:=pl;exact call_list_seq p (.inr rfl) ho hc hd (λh' c' kp e=>fin its r' hz h' c' kp e) (by simp only[bg]<;>lia)
theorem IQ:Cf X (.type "tuple") (λxs H Q=>∃p ys,xs=[.ref p]/\((Dj X.K H p ys/\∀l,H l=none->Q (.ref l) (aV H l (.tup ys)))∨(Ct X.K H p ys/\Q (.ref p) H))):=by
 intro pins s σ H xs us Q I r h;obtain⟨p,ys,rfl,h⟩:=h;obtain⟨u,rfl,rx⟩:=iW r;cases rx
 rcases h with⟨hq,q⟩|⟨hq,q⟩
 ·obtain⟨its,r',pl,hz⟩:=I.list hq;have hlen:=r'.length;refine call_tuple_list pl.isList (λh' kp=>?_) (by simp only[bg]<;>lia);have I1:Inv X pins σ H {s with heap:=h'}:=I.kept (t':=s.toks) kp;have I2:Inv X pins σ (aV H h'.objs.size (.tup ys)) {s with heap:=h'.push {cls:=.type "tuple",data:=.seq its.toArray} }:=I1.laid (t':=s.toks) (λb o e=>ak _ e) (ao _) (show Ce X.prog X.w _ _ _ (.tup ys) from⟨hz,its,r',Dc.new _ _⟩);exact⟨.ref h'.objs.size,_,I2,rfl,q _ (I1.hok.fresh (ao _))⟩
 ·obtain⟨its,r',pl,hz⟩:=I.tuple hq;exact call_tuple_same pl ⟨.ref p,H,I,rfl,q⟩
def wQ(K:ar)(T:String)(x:V)(H:Hp):Prop:=match x with
 |.str _=>T="str"
 |.int _=>T="int"
 |.ref p=>(T="list"/\∃xs,Dj K H p xs)∨(T="tuple"/\∃o,K.lookup p=some o/\o.cls=.type "tuple"/\o.dict=none) ∨
   (T="dict"/\((∃kvs,H p=some (.dK kvs))∨∃kvs,H p=some (.dT kvs)))∨(T="set"/\∃S n,H p=some (.set S n))
 |_=>False
theorem UY{pins:List (ai×Obj)}{σ:St}{H:Hp}{s:ag}{T:String}{x:V}{v:af}(I:Inv X pins σ H s)(r:RelV x v)(ty:wQ X.K T x H):
  s.TypeIs v T/\∀a,v=.ref a->∃ob,s.heap.get? a=some ob/\ob.dict=none:=by
 cases x with
 |str z=>
  obtain⟨t,rfl⟩:=r
  cases (show T="str" from ty)
  exact⟨typeIs_str s z t,λ_ e=>nomatch e⟩
 |int i=>
  obtain⟨t,rfl⟩:=r
  cases (show T="int" from ty)
  exact⟨typeIs_int s i t,λ_ e=>nomatch e⟩
 |ref p=>
  cases r
  rcases ty with⟨rfl,xs,hq⟩|⟨rfl,o,hk,hc,hd⟩|⟨rfl,hk⟩|⟨rfl,S,n,hk⟩
  ·obtain⟨its,_,pl,_⟩:=I.list hq;refine⟨pl.isList.typeIs,λa e=>?_⟩;cases e;obtain⟨o,n,e,c,hd,_⟩:=pl;exact⟨o,e,hd⟩
  ·refine⟨⟨o,I.kIn p o hk,hc⟩,λa e=>?_⟩;cases e;exact⟨o,I.kIn _ o hk,hd⟩
  ·have z:∃o,s.heap.get? p=some o/\o.ExactDict:=by
    rcases hk with⟨kvs,hk⟩|⟨kvs,hk⟩
    ·obtain⟨_,_,_,_,o,_,_,e,ex,_⟩:=I.hok p _ hk;exact⟨o,e,ex⟩
    ·obtain⟨_,_,_,_,o,_,_,e,ex,_⟩:=I.hok p _ hk;exact⟨o,e,ex⟩
   obtain⟨o,e,ex⟩:=z;refine⟨⟨o,e,ex.1⟩,λa e2=>?_⟩;cases e2;exact⟨o,e,ex.2.1⟩
  ·obtain⟨o,_,_,_,e,ex,_⟩:=I.hok p _ hk;refine⟨⟨o,e,ex.1⟩,λa e2=>?_⟩;cases e2;exact⟨o,e,ex.2.1⟩
 |_=>exact ja ty
def UZ(K:ar)(T:String)(r:V->Ic->Hp->VK->Prop)(to:TE)(t:TA):TE:=λσ H Q=>to σ H λx H1=>wQ K T x H1/\t σ H1 λxs H2=>r x xs H2 Q
variable{o e:bp}{es:List bp}{to:TE}{t:TA}{name:Str}{apos cpos:Pos}{T id:String}{r:V->Ic->Hp->VK->Prop}
theorem BN(pa:PlainAttrs T)(slot:Slot T name id)(hty:typeOf (.builtin id)=pure (.type "method_descriptor"))(hm:UO X id r)(ho:PE X o to)(ha:PA X (e::es) t)(hbase:attributeBase o name X.env (eval o X.env)=eval o X.env:=by rfl)(hfew:((backTo cpos (aq (e::es) X.env)).all (λx=>!x.1)&&(backToKw cpos (keywordEach [] X.env)).all (λx=>x.1.isSome)
   && decide ((e::es).length+([]:List Keyword).length+(if([]:List Keyword).isEmpty then 0 else 1)<30))=true:=by rfl)(hline:(apos.endLine==cpos.line)=true:=by rfl)(hs:aq (e::es) X.env=(false,eval e X.env)::aq es X.env:=by rfl)(hplain:(backTo cpos (aq es X.env)).any (·.1)=false:=by rfl):
  PE X (.Call (.Attribute o name apos) (e::es) [] cpos) (UZ X.K T r to t):=by
 intro pins s σ H Q I h;refine wpAny_Call_method_late hbase hfew hline rfl (bQ (ho pins s σ H _ I h) λv s1⟨x,H1,I1,r1,ty,q1⟩=>?_);obtain⟨h1,h2⟩:=UY I1 r1 ty;refine⟨T,id,pa,slot,hty,h1,h2,?_⟩;have hA:=ha cpos pins s1 σ H1 _ I1 q1;rw[hs]at hA⊢;refine Calls.callWith_builtin (by show(false||(backTo cpos (aq es X.env)).any (·.1))=false;rw[hplain]<;>rfl) (Ao ?_);exact bQ hA λus s2⟨vs,H2,I2,r2,q2⟩=>hm pins s2 σ H2 x vs v us Q I2 r1 r2 q2
end
def IS(X:Cx)(id:String)(r:V->Ic->Hp->VK->Prop):Prop:=
 ∀(pins:List (ai×Obj))(s:ag)(σ:St)(H:Hp)(x:V)(xs:Ic)(v:af)(us:List af)(Q:VK),Inv X pins σ H s->RelV x v->Cc xs us->r x xs H Q->
  wpAny (model X.prog X.w) X.A (call (.builtin id) (v::us)) (EP X pins σ Q) X.xe s
theorem Cc.one:∀{x:V}{us:List af},Cc [x] us->∃u,us=[u]/\RelV x u
 |_,_,.cons r .nil=>⟨_,rfl,r⟩
theorem Cc.eraseIdx:∀{xs:Ic}{us:List af}(i:Nat),Cc xs us->Cc (xs.eraseIdx i) (us.eraseIdx i)
 |_,_,_,.nil=>.nil
 |_,_,0,.cons _ t=>t
 |_,_,i+1,.cons r t=>.cons r (Cc.eraseIdx i t)
theorem Cc.rep{xs:Ic}{us:List af}(h:Cc xs us):∀k:Nat,Cc (bu k xs).flatten (bu k us).flatten
 |0=>.nil
 |k+1=>by rw[jb,jb,jv,jv];exact Cc.append h (Cc.rep h k)
theorem IT{α:Type}:∀(l:List α)(i:Nat),(l.eraseIdx i).length<=l.length
 |[],_=>ao _
 |_::_,0=>Nat.le_succ _
 |_::r,i+1=>Nat.succ_le_succ (IT r i)
theorem IU(its:List af):∀(k:Nat)(acc:List af),
  List.foldl (λx1 x2=>x1++x2) acc.toArray (bu k its.toArray)=(acc++(bu k its).flatten).toArray
 |0,acc=>by simp
 |k+1,acc=>by
  have e:acc.toArray++its.toArray=(acc++its).toArray:=by simp
  have e2:(acc++its)++(bu k its).flatten=acc++(bu (k+1) its).flatten:=by rw[jb,jv,nc]
  rw[<-e2,<-IU its k (acc++its),<-e,jb,List.foldl_cons]
section
variable{X:Cx}{pins:List (ai×Obj)}{σ:St}{H:Hp}{s:ag}{l b:ai}{xs ys zs:Ic}
theorem Inv.lset{its its':List af}{n:Nat}{f:Array af->Array af}{t':Nat}(I:Inv X pins σ H s)(hH:H l=some (.lst xs))(e:s.heap.get? l=some {cls:=.type "list",data:=.seq its.toArray n})(hf:f its.toArray=its'.toArray)(hv:Cc ys its')(hz:ys.length<=cp):
  Inv X pins σ (aV H l (.lst ys)) {s with heap:=s.heap.update l (qe f),toks:=t'}:=by
 have q:=Ap e f;rw[hf]at q;refine I.write (x:=l) (e:=l) (by rw[hH];exact trivial) (.inl rfl) (λb' u hb hu=>(pg s.heap (qe f) (dg hb)).trans hu) ⟨_,q⟩ ?_;exact⟨hz,its',_,hv,q⟩
theorem Inv.lnew{its:List af}{t':Nat}(I:Inv X pins σ H s)(hv:Cc ys its)(hz:ys.length<=cp):
  Inv X pins σ (aV H s.heap.objs.size (.lst ys)) {s with heap:=s.heap.push {cls:=.type "list",data:=.seq its.toArray},toks:=t'}:=
 I.laid (λ_ _ q=>ak _ q) (ao _) ⟨hz,its,0,hv,aw _ rfl⟩
theorem Inv.fresh(I:Inv X pins σ H s):H s.heap.objs.size=none:=I.hok.fresh (ao _)
theorem Inv.lstM(I:Inv X pins σ H s)(hH:H l=some (.lst xs)):xs.length<=cp/\∃(its:List af)(n:Nat),Cc xs its/\xs.length=its.length/\s.heap.get? l=some {cls:=.type "list",data:=.seq its.toArray n}:=by obtain⟨z,its,n,r,e⟩:=I.hok l _ hH;exact⟨z,its,n,r,r.length,e⟩
theorem VA{n:Nat}(h:n<=cp):ql n=false:=by unfold ql;exact decide_eq_false (by lia)
end
section
variable{X:Cx}
def VB:V->Ic->Hp->VK->Prop:=λx vs H Q=>∃l xs y,x=.ref l/\vs=[y]/\H l=some (.lst xs)/\xs.length<cp/\Q .non (aV H l (.lst (xs++[y])))
theorem IV:IS X "list.append" VB:=by
 intro pins s σ H x vs v us Q I rx rv h;obtain⟨l,xs,y,rfl,rfl,hH,hz,q⟩:=h;cases rx;obtain⟨u,rfl,ru⟩:=rv.one;obtain⟨z,its,n,r,hl,e⟩:=I.lstM hH;refine xr F.slot_list_append ⟨_,e,rfl⟩ F.entry_list_append (F.args_list_append_2 _ _) (PySem.list_append l its.toArray n u (by rw[bg];lia)) ⟨e,?_⟩;refine⟨.non,_,I.lset (its':=its++[u]) hH e (by simp) (r.append (.cons ru .nil)) ?_,rfl,q⟩;rw[cz,Aq]
 lia
def VC:V->Ic->Hp->VK->Prop:=λx vs H Q=>∃l xs i k y,x=.ref l/\vs=[.int i]/\H l=some (.lst xs)/\-(2^63)<=i/\i<2^63/\seqIndex? i xs.length=some k/\xs[k]?=some y/\Q y (aV H l (.lst (xs.eraseIdx k)))
theorem VD:IS X "list.pop" VC:=by
 intro pins s σ H x vs v us Q I rx rv h;obtain⟨l,xs,i,k,y,rfl,rfl,hH,h1,h2,hk,hy,q⟩:=h;cases rx;obtain⟨u,rfl,ru⟩:=rv.one;obtain⟨t,rfl⟩:=ru;obtain⟨z,its,n,r,hl,e⟩:=I.lstM hH;obtain⟨w,hw,rw'⟩:=r.get hy;refine xr F.slot_list_pop ⟨_,e,rfl⟩ F.entry_list_pop (F.args_list_pop_2 _ _)
  (MeetsSeq.list_pop_at l its.toArray n i t k w (fitsIndex_both h1 h2) (by rw[bg,<-hl];exact hk) (by rw[<-jk];exact hw) (by rw[bg];lia)) ⟨e,?_⟩
 refine⟨y,_,I.lset (its':=its.eraseIdx k) hH e ?_ (r.eraseIdx k) ?_,rw',q⟩
 ·show its.toArray.eraseIdxIfInBounds k=(its.eraseIdx k).toArray;rw[List.eraseIdxIfInBounds_toArray]
 ·have:=IT xs k
  lia
def IW:R2:=λx y H Q=>∃l b xs zs,x=.ref l/\y=.ref b/\H l=some (.lst xs)/\H b=some (.lst zs)/\xs.length+zs.length<=cp/\∀p,H p=none->Q (.ref p) (aV H p (.lst (xs++zs)))
theorem op_cat:Cw X (binaryOp .Add) IW:=by
 intro pins s σ H x y v u Q I rx ry h;obtain⟨l,b,xs,zs,rfl,rfl,hH,hB,hz,q⟩:=h;cases rx;cases ry;obtain⟨z,its,n,r,hl,e⟩:=I.lstM hH;obtain⟨z2,El,n2,r2,hl2,e2⟩:=I.lstM hB;refine PySem.P.add_list e e2 ?_ (by rw[bg,bg];lia);have ea:its.toArray++El.toArray=(its++El).toArray:=by simp
 rw[ea];exact⟨.ref _,_,I.lnew (t':=s.toks) (r.append r2) (by rw[cz];lia),rfl,q _ I.fresh⟩
def IX:R2:=λx y H Q=>∃l k xs,x=.ref l/\y=.int k/\H l=some (.lst xs)/\-(2^63)<=k/\k<2^63/\xs.length*k.toNat<=cp/\
 ∀p,H p=none->Q (.ref p) (aV H p (.lst (bu k.toNat xs).flatten))
theorem VE{α:Type}(xs:List α)(k:Nat):(bu k xs).flatten.length=k*xs.length:=by
 induction k with
 |zero=>simp
 |succ k ih=>rw[jb,jv,cz,ih,As,Nat.add_comm]
theorem VF:Cw X (binaryOp .Mult) IX:=by
 intro pins s σ H x y v u Q I rx ry h;obtain⟨l,k,xs,rfl,rfl,hH,h1,h2,hz,q⟩:=h;cases rx;obtain⟨t,rfl⟩:=ry;obtain⟨z,its,n,r,hl,e⟩:=I.lstM hH;have hlen:its.toArray.size*k.toNat<=cp:=by rw[bg,<-hl];exact hz
 have Gg:¬its.toArray.size*k.toNat>(2^63-1)/8:=by
  have:(cp:Nat)<=(2^63-1)/8:=by decide
  lia
 have hfit:¬(!Builtin.List.listFitsIndex k)=true:=by rw[fitsIndex_both h1 h2];exact gu
 have hlong:¬ql (its.toArray.size*k.toNat)=true:=by rw[VA hlen];exact gu
 have Fo:List.foldl (λx1 x2=>x1++x2) #[] (bu (if its.toArray.isEmpty=true then 0 else k.toNat) its.toArray)=(bu k.toNat its).flatten.toArray:=by
  have f0:∀m:Nat,List.foldl (λx1 x2=>x1++x2) #[] (bu m its.toArray)=(bu m its).flatten.toArray:=λm=>by have:=IU its m [];rw[yc]at this;exact this
  rw[f0]
  cases its with
  |nil=>simp
  |cons a r'=>rw[if_neg (by simp)]
 refine wpAny_binaryOp_repeat_ref (T:="list") (U:="int") (by decide) ⟨_,e,rfl⟩ (λs'=>typeIs_int s' k t) noFill_list_mul F.fills_int_mul F.slot_int_rmul repeat_list F.slot_int_index.lookup
  (xr F.slot_int_rmul (typeIs_int s k t) F.entry_int_rmul (F.args_int_rmul_2 _ _) (int___rmul___int_list k t l its.toArray n)
   ⟨e,rfl,⟨_,e,rfl⟩,xr F.slot_list_mul ⟨_,e,rfl⟩ F.entry_list_mul (F.args_list_mul_2 _ _) (AutoListH.list___mul___list_int_3 l its.toArray n k t hfit Gg hlong) ⟨e,?_⟩⟩)
 rw[Fo];exact⟨.ref _,_,I.lnew (t':=s.toks) (r.rep k.toNat) (by rw[VE,Nat.mul_comm];exact hz),rfl,q _ I.fresh⟩
end
section
variable{prog:bj}{w:cb}{A:bx}{E:af->ag->Prop}{s:ag}
set_option maxRecDepth 100000 in
end
end L2
namespace Att
open PySem PySem.W PySem.Calls PyProof.Rows
theorem VG{P:Params}{h:cq}:∀(ns:y')(vs:List af),WellAll P h vs (ns.map WData.int)->mn vs ns:=by
 intro ns
 induction ns with
 |nil=>intro vs w;rw[List.map_nil]at w;cases w;exact .nil
 |cons n ns ih=>
  intro vs w;rw[cy]at w
  cases w with
  |cons a b=>cases a;exact .cons _ _ (ih _ b)
theorem VH{l:OpenLaw}{n:Nat}(hn:l.most=some n){P:Params}{h:cq}{args:List WData}{vals:List af}(hpre:l.row.toRowW.claim.pre args=true)(hwl:WellAll P h vals args):
  ∃a vs ns,vals=[jd a]/\args=[WData.list (ns.map WData.int)]/\h.get? a=some {cls:=.type "list",data:=.seq vs.toArray}/\mn vs ns/\ns.length<=n:=by
 have hsh:WShape.hasAll [] args [.list .int]=true:=(pre_splitW hpre).1;have hc:l.pre.holds [] {args:=args}=true:=(pre_splitW hpre).2;obtain⟨d,r,rfl,h1,h2⟩:=hasAllW_cons hsh;obtain rfl:=hasAllW_nil h2;obtain⟨xs,rfl,h3⟩:=hasW_list h1;obtain⟨ns,rfl⟩:=items_int h3;have hlen:ns.length<=n:=by
  unfold OpenLaw.pre at hc;have h4:(WTm.not (.lt (.lit (.int (n:Int))) (.len (.arg 0)))).holds [] {args:=[.list (ns.map .int)]}=true:=by have h4:=(holds_andW hc).1;rw[hn]at h4;exact h4
  have h5:=condW_of h4 (w_not (w_lt w_lit (w_len_list (w_arg rfl))));rw[bf]at h5;refine Nat.le_of_not_lt λq=>?_;have q':(n:Int)<((ns.length:Nat):Int):=by lia
  first
   |(rw[decide_eq_true q']at h5;exact absurd h5 (by decide))
   |(simp at h5;lia)
 cases hwl with
 |cons w1 w2=>
  cases w2
  cases w1 with
  |list ho hall=>exact⟨_,_,ns,rfl,rfl,ho,VG ns _ hall,hlen⟩
theorem VI(l:OpenLaw)(args:List WData):l.row.toRowW.claim.post args (.bool true) args=true:=
 postW_of (r:=l.row.toRowW) (X:=(true==true))
  (show WShape.has [] (.bool true) .bool=true by first|rfl|decide|simp[WShape.has,WShape.arms,WShape.armsAll])
  (show(WTm.eq .res (.lit (.bool true))).value [] {args:=args,res:=some (.bool true),after:=args}=some (.bool (true==true)) from w_eq_bool (w_res rfl) w_lit) rfl
theorem attach_call{l:OpenLaw}{n:Nat}{q:bj}{loose:Br}{XP:(Str->Option af)->cq->Prop}{YP:cb->cq->Prop}{d:Au}(hn:l.most=some n)(hdf:d.params.defaults=[])(call:∀(w:cb)(s₀ s₁:ag)(mg mb:Str->Option af)(fa:ai)(o:Obj)(pm cd doc:af)(a:ai)(vs:List af)(ns:y'),
   Ground q loose [] XP w s₀ mg mb s₁.heap->YP w s₁.heap->
   s₁.heap.get? fa=some o->o.data=.func (docDef d.name d.params d.body d.scope pm cd doc)->s₁.heap.CodeRec cd d.name->mg d.name=some (.ref fa)->
   s₁.heap.get? a=some {cls:=.type "list",data:=.seq vs.toArray}->mn vs ns->ns.length<=n->s₁.gens=#[]->
   codeAny (model l.prog w) callerA (.call (.ref fa) ⟨[.ref a],[]⟩) (λr s'=>r=.ok (.ret (.bool true))/\OldK s₁.heap s'.heap/\s'.os=s₁.os/\uf s'.gens) s₁):
  WalkO q loose XP YP l.row.toRowW d [] (λf vs=>yj f vs):=by
 intro w s₀ s₁ mg mb G Y fa o pm cd doc dV kV ho hd hcd hD hmg hg args vals as hpre hlay hrd hwl hlo;obtain rfl:dV=.none:=Dflts.none hD hdf;obtain rfl:kV=.none:=Dflts.noKw hD;obtain⟨a,vs,ns,rfl,rfl,Gx,hints,hlen⟩:=VH hn hpre hwl;refine enter_call (pz (call w s₀ s₁ mg mb fa o pm cd doc a vs ns G Y ho (fd_plain hd) hcd hmg Gx hints hlen hg) λr s' hq=>?_);obtain⟨rfl,h2,h3,h4⟩:=hq;exact⟨.inl ⟨.bool true,.bool true,[],rfl,λ_=>rfl,.bool true,VI l _,λ_=>⟨uk,λ_ hm=>(nomatch hm)⟩⟩,h2,h3,h4⟩
end Att
namespace L2
theorem pG:∀{vs:List af}{ns:y'},mn vs ns->Cc (ns.map Hi) vs
 |_,_,.nil=>.nil
 |_,_,.cons n t h=>.cons ⟨t,rfl⟩ (pG h)
def nY(s:iq):ju:=match s with
 |.FunctionDef _ a _ _ _ _ _ _ _ _=>a
 |_=>{posonlyargs:=[],args:=[],vararg:=none,kwonlyargs:=[],kw_defaults:=[],kwarg:=none,defaults:=[]}
def jV(s:iq):List iq:=match s with
 |.FunctionDef _ _ b _ _ _ _ _ _ _=>b
 |_=>[]
def bJ(s:iq):fy:=match s with
 |.FunctionDef _ _ _ _ _ _ sc _ _ _=>sc
 |_=>{kind:=.function,names:=[],isGenerator:=false,isCoroutine:=false}
abbrev E0:XK:=λ_ _ _=>False
structure Fun(K:ar)(x qual:Str)(st:iq)(f:ai)(fd:bq):Prop where
 ex:∃(oc:af)(od:Option ai)(kV doc pm:af)(an:Option ai)(cdv ct:af)(osl:Array (Option af)),
  fd=qk x qual (nY st) (jV st) (bJ st) .none kV doc pm an cdv ct/\K.lookup f=some ⟨oc,od,.func fd,osl⟩/\xq K cdv qual=true
 kp:qv K (.ref f)=true
section
variable{P:bj}{w:cb}{K:ar}{mg:Str->Option af}{base:cq}
theorem Fun.binds{x qual:Str}{st:iq}{f:ai}{fd:bq}{ps:Br}(F:Fun K x qual st f fd)(h:∀(kV doc pm:af)(an:Option ai)(cdv ct:af)(us:List af),us.length=ps.length->bindArgs (qk x qual (nY st) (jV st) (bJ st) .none kV doc pm an cdv ct) ⟨us,[]⟩=pure (ps.zip us)):Binds K fd ps []:=by
 obtain⟨oc,od,kV,doc,pm,an,cdv,ct,osl,rfl,lk,hcd⟩:=F.ex;exact .all (h kV doc pm an cdv ct)
theorem IY{x qual:Str}{st:iq}{f:ai}{oc:af}{od an:Option ai}{osl:Array (Option af)}{kV doc pm cdv ct:af}(l:K.lookup f=some ⟨oc,od,.func (qk x qual (nY st) (jV st) (bJ st) .none kV doc pm an cdv ct),osl⟩)(c:xq K cdv qual=true)(k:qv K (.ref f)=true):Fun K x qual st f (qk x qual (nY st) (jV st) (bJ st) .none kV doc pm an cdv ct):=⟨⟨oc,od,kV,doc,pm,an,cdv,ct,osl,rfl,l,c⟩,k⟩
end
theorem IZ{A B:Prop}(h:B):if false=true then A else B:=by rw[if_neg gu];exact h
theorem I0{A B:Prop}(h:A):if true=true then A else B:=by rw[if_pos rfl];exact h
def Dw(H H':Hp):Prop:=∀b o,H b=some o->H' b=some o
theorem Dw.refl(H:Hp):Dw H H:=λ_ _ h=>h
theorem wR{β:Type}(x y:Str)(c:β)(acc:List (Str×β)):((y,c)::acc).lookup x=if x=y then some c else acc.lookup x:=by
 rw[gi]
 by_cases e:x=y
 ·have hb:(x==y)=true:=beq_iff_eq.mpr e;rw[hb,if_pos e]
 ·have hb:(x==y)=false:=beq_eq_false_iff_ne.mpr e;rw[hb,if_neg e]
def eE(env:Env):List (Str×mq)->List (Str×ai)->List (Str×ai)
 |[],acc=>acc
 |(x,k)::r,acc=>eE env r (if k==.free then(x,(env.cells.lookup x).getD 0)::acc else acc)
theorem BO{env:Env}:∀(l:List (Str×mq))(acc:List (Str×ai)),(∀x,(x,ck)∈l->∃c,env.cells.lookup x=some c)->
  (forIn l acc (λ(x:Str×mq)(r:List (Str×ai))=>match x with
   |(name,kind)=>if(kind==ck)=true then(do let a <-cellOf env name;pure (sr ((name,a)::r)))else(pure (sr r):Sem (ForInStep (List (Str×ai))))))=(pure (eE env l acc):Sem (List (Str×ai)))
 |[],acc,_=>rfl
 |(x,k)::l,acc,h=>by
  rw[qo];dsimp only
  cases hk:k==ck with
  |true=>
   have e:k=.free:=by cases k<;>first|rfl|cases hk
   subst e;obtain⟨c,hc⟩:=h x (bh ..);rw[if_pos rfl,show eE env ((x,ck)::l) acc=eE env l ((x,c)::acc)by rw[eE,if_pos hk,hc];rfl,<-BO l ((x,c)::acc) λy hy=>h y (ax _ hy)];unfold cellOf;rw[hc];rfl
  |false=>rw[if_neg (by simp),show eE env ((x,k)::l) acc=eE env l acc by rw[eE,hk];rfl,<-BO l acc λy hy=>h y (ax _ hy)];rfl
theorem BP{env:Env}{scope:fy}(h:∀x,(x,ck)∈scope.names->∃c,env.cells.lookup x=some c):closureFor scope env=pure (eE env scope.names []):=by unfold closureFor;have:=BO (env:=env) scope.names [] h;show(forIn scope.names [] _ >>=λcs=>pure cs)=_;exact(congrArg (λ(m:Sem (List (Str×ai)))=>m >>=λcs=>pure cs) this)
theorem tQ{env:Env}{x:Str}:∀(l:List (Str×mq))(acc:List (Str×ai)),((x,ck)∈l∨acc.lookup x=some ((env.cells.lookup x).getD 0))->(eE env l acc).lookup x=some ((env.cells.lookup x).getD 0)
 |[],acc,h=>h.elim (λz=>nomatch z) id
 |(y,k)::l,acc,h=>by
  rw[eE]
  cases hk:k==ck with
  |true=>
   refine tQ l _ ?_;rw[if_pos rfl]
   by_cases e:x=y
   ·subst e;right;rw[wR,if_pos rfl]
   ·rcases h with h|h
    ·rcases bc.mp h with h|h
     ·cases h;exact absurd rfl e
     ·exact .inl h
    ·right;rw[wR,if_neg e];exact h
  |false=>
   refine tQ l _ ?_
   rcases h with h|h
   ·rcases bc.mp h with h|h
    ·cases h;simp at hk
    ·exact .inl h
   ·exact .inr h
structure BlkCells(h h':cq)(names:List (Str×mq))(acc cs:List (Str×ai)):Prop where
 cases:∀x c,cs.lookup x=some c->acc.lookup x=some c∨(h.objs.size<=c/\h'.IsCell c none/\(x,dy)∈names)
 own:∀x,(x,dy)∈names->∃c,cs.lookup x=some c
 old:∀x,(x,dy)∉names->cs.lookup x=acc.lookup x
 inj:(∀x y c,acc.lookup x=some c->acc.lookup y=some c->x=y)->(∀x c,acc.lookup x=some c->c<h.objs.size)->∀x y c,cs.lookup x=some c->cs.lookup y=some c->x=y
theorem tS:∀(names:List (Str×mq))(h:cq)(acc:List (Str×ai)),BlkCells h (pushCells h names) names acc (cellsFrom h.objs.size names acc)
 |[],h,acc=>{cases:=λ_ _ e=>.inl e,own:=λ_ z=>(nomatch z),old:=λ_ _=>rfl,inj:=λa _=>a}
 |(y,k)::r,h,acc=>by
  cases hk:k==dy with
  |true=>
   have ek:k=.cell:=by cases k<;>first|rfl|cases hk
   subst ek;have ih:=tS r (h.push {cls:=.type "cell",data:=.cell none}) ((y,h.objs.size)::acc);have e1:pushCells h ((y,dy)::r)=pushCells (h.push {cls:=.type "cell",data:=.cell none}) r:=rfl;have e2:cellsFrom h.objs.size ((y,dy)::r) acc=cellsFrom (h.push {cls:=.type "cell",data:=.cell none}).objs.size r ((y,h.objs.size)::acc):=by rw[fw];rfl
   rw[e1,e2];have look:∀x,((y,h.objs.size)::acc).lookup x=if x=y then some h.objs.size else acc.lookup x:=λx=>wR ..
   refine⟨λx c e=>?_,λx hx=>?_,λx hx=>?_,λh1 h2 x z c ex ez=>?_⟩
   ·rcases ih.cases x c e with q|⟨q1,q2,q3⟩
    ·rw[look]at q
     by_cases exy:x=y
     ·rw[if_pos exy]at q;cases q;refine .inr ⟨ao _,⟨_,rp r _ _ _ (aw _ rfl),rfl⟩,by rw[exy];exact bh ..⟩
     ·rw[if_neg exy]at q;exact .inl q
    ·rw[fw]at q1;exact .inr ⟨Nat.le_of_succ_le q1,q2,ax _ q3⟩
   ·by_cases hr:(x,dy)∈r
    ·exact ih.own x hr
    ·rw[ih.old x hr,look]
     rcases bc.mp hx with z|z
     ·cases z;exact⟨_,if_pos rfl⟩
     ·exact absurd z hr
   ·rw[ih.old x λz=>hx (ax _ z),look,if_neg]
    rintro rfl
    exact hx (bh ..)
   ·refine ih.inj ?_ ?_ x z c ex ez
    ·intro a b c ea eb;rw[look]at ea eb
     by_cases qa:a=y
     ·rw[if_pos qa]at ea;cases ea
      by_cases qb:b=y
      ·exact qa.trans qb.symm
      ·rw[if_neg qb]at eb;exact absurd (h2 b _ eb) (iu _)
     ·rw[if_neg qa]at ea
      by_cases qb:b=y
      ·rw[if_pos qb]at eb;cases eb;exact absurd (h2 a _ ea) (iu _)
      ·rw[if_neg qb]at eb;exact h1 a b c ea eb
    ·intro a c ea;rw[fw];rw[look]at ea
     by_cases qa:a=y
     ·rw[if_pos qa]at ea;cases ea;exact lg _
     ·rw[if_neg qa]at ea;exact ji (h2 a c ea)
  |false=>
   have ih:=tS r h acc;have e1:pushCells h ((y,k)::r)=pushCells h r:=by rw[pushCells,hk];rfl
   have e2:cellsFrom h.objs.size ((y,k)::r) acc=cellsFrom h.objs.size r acc:=by rw[cellsFrom,hk];rfl
   rw[e1,e2];have nk:∀x,(x,dy)∈(y,k)::r->(x,dy)∈r:=λx z=>by
    rcases bc.mp z with z|z
    ·cases z;simp at hk
    ·exact z
   exact⟨λx c e=>(ih.cases x c e).imp id λ⟨a,b,c⟩=>⟨a,b,ax _ c⟩,λx hx=>ih.own x (nk x hx),λx hx=>ih.old x λz=>hx (ax _ z),ih.inj⟩
def JA(scope:fy)(env:Env)(L:ai):Env:={scope:=relabel scope env,locals:=L,globals:=env.globals,cells:=cellsFrom (L+1) scope.names (eE env scope.names []),qual:=env.qual,func:=none,code:=env.code,frame:=env.frame,builtins:=env.builtins}
theorem VJ{M:yf}{A:bx}{E:af->ag->Prop}{s:ag}{scope:fy}{env:Env}{cl:List (Str×ai)}{qual:Str}{g:ai}{Q:Env->ag->Prop}(h:Q {scope:=scope,locals:=s.heap.objs.size,globals:=g,cells:=cellsFrom (s.heap.objs.size+1) scope.names cl,qual:=qual,func:=none,code:=env.code,frame:=env.frame,builtins:=env.builtins}
   {s with heap:=pushCells (s.heap.push {cls:=.type "dict",data:=.dict #[]}) scope.names}):
  wpAny M A (newFunctionEnv scope g cl [] qual none .none (some env)) Q E s:=by
 simp only[newFunctionEnv,Option.isSome_some,if_true];refine ae (wpAny_alloc ?_);refine ae (wpAny_layCells _ (λname kind cells=>by cases hkc:kind==dy<;>simp[hkc]) _ _ _ _ ?_);rw[show({s with heap:=s.heap.push {cls:=.type "dict",data:=.dict #[]} }:ag).heap.objs.size=s.heap.objs.size+1 from fw ..];exact ae (aj (aj h))
def cF(X:Cx)(scope:fy)(N:Br)(s:ag)(H:Hp)(ex:List ai):Cx:={X with N:=N,s₀:=s,H₀:=H,env:=JA scope X.env s.heap.objs.size,outer:=X.stack,stack:=X.stack,ex:=ex,fn:=λx=>scope.names.lookup x==some .cell,xe:=λ_ _=>False}
def rB(cap:List (Option Nat))(σ:St):St:=cap.map λo=>match o with|some j=>(σ[j]?).getD none|none=>none
structure Df(X:Cx)(scope:fy)(N:Br)(cap:List (Option Nat)):Prop where
 kind:scope.kind=.function
 nd:∀x∈scope.names,x.2=.local->scope.names.lookup x.1=some .local
 len:cap.length=N.length
 free:∀x,(x,ck)∈scope.names->X.env.kindOf x=some .cell∨X.env.kindOf x=some .free
 apart:∀x,(x,ck)∈scope.names->(x,dy)∉scope.names
 cap:∀(i j:Nat)(x:Str),cap[i]?=some (some j)->N[i]?=some x->X.N[j]?=some x/\(x,ck)∈scope.names/\(relabel scope X.env).names.lookup x≠some .local
theorem BQ{scope:fy}{env:Env}{x:Str}:∀{l:List (Str×mq)}{k:mq},(l.map λ(n,k)=>if(k==ck&&env.scope.kind==.function&&env.kindOf n==some .cell)then(n,dy)else(n,k)).lookup x=some k->
  (x,k)∈l∨(k=.cell/\(x,ck)∈l)
 |[],_,h=>by simp at h
 |(n,q)::r,k,h=>by
  have ih:=@BQ scope env x r k;rw[cy]at h
  by_cases hc:(q==ck&&env.scope.kind==.function&&env.kindOf n==some .cell)=true
  ·have hq:q=.free:=by
    have:(q==ck)=true:=by
     cases z:q==ck with
     |true=>rfl
     |false=>rw[z]at hc;simp at hc
    cases q<;>first|rfl|cases this
   dsimp only at h;rw[if_pos hc,gi]at h
   cases e:x==n with
   |true=>rw[e]at h;have h':dy=k:=cn h;subst h';have ex:=beq_iff_eq.mp e;subst ex;subst hq;exact .inr ⟨rfl,bh ..⟩
   |false=>rw[e]at h;exact(ih h).imp (ax _) λ⟨a,b⟩=>⟨a,ax _ b⟩
  ·dsimp only at h;rw[if_neg hc,gi]at h
   cases e:x==n with
   |true=>rw[e]at h;have h':q=k:=cn h;subst h';have ex:=beq_iff_eq.mp e;subst ex;exact .inl (bh ..)
   |false=>rw[e]at h;exact(ih h).imp (ax _) λ⟨a,b⟩=>⟨a,ax _ b⟩
theorem wU{env:Env}{x:Str}{c:ai}:∀(l:List (Str×mq))(acc:List (Str×ai)),(eE env l acc).lookup x=some c->acc.lookup x=some c∨((x,ck)∈l/\c=(env.cells.lookup x).getD 0)
 |[],acc,h=>.inl h
 |(y,k)::l,acc,h=>by
  rw[eE]at h
  cases hk:k==ck with
  |true=>
   have ek:k=.free:=by cases k<;>first|rfl|cases hk
   subst ek;rw[if_pos hk]at h
   rcases wU l _ h with q|⟨q1,q2⟩
   ·rw[wR]at q
    by_cases e:x=y
    ·rw[if_pos e]at q;subst e;exact .inr ⟨bh ..,(cn q).symm⟩
    ·rw[if_neg e]at q;exact .inl q
   ·exact .inr ⟨ax _ q1,q2⟩
  |false=>rw[if_neg (by rw[hk];exact gu)]at h;exact(wU l _ h).imp id λ⟨a,b⟩=>⟨ax _ a,b⟩
section
variable{X:Cx}{pins:List (ai×Obj)}{σ:St}{H:Hp}{s:ag}{scope:fy}{N:Br}{cap:List (Option Nat)}{ex:List ai}
theorem wV(I:Inv X pins σ H s)(C:Df X scope N cap){x:Str}{c:ai}(e:(eE X.env scope.names []).lookup x=some c):(x,ck)∈scope.names/\X.env.cells.lookup x=some c:=by
 rcases wU _ _ e with q|⟨q1,q2⟩
 ·cases q
 ·obtain⟨c',h'⟩:=I.ok.has x (C.free x q1);rw[h']at q2;subst q2;exact⟨q1,h'⟩
theorem wW(I:Inv X pins σ H s)(C:Df X scope N cap){x:Str}{c:ai}(e:(JA scope X.env s.heap.objs.size).cells.lookup x=some c):
  (X.env.cells.lookup x=some c/\(x,ck)∈scope.names)∨(s.heap.objs.size<c/\(pushCells (s.heap.push {cls:=.type "dict",data:=.dict #[]}) scope.names).IsCell c none/\(x,dy)∈scope.names):=by
 have B:=tS scope.names (s.heap.push {cls:=.type "dict",data:=.dict #[]}) (eE X.env scope.names []);rw[fw]at B
 rcases B.cases x c e with q|⟨q1,q2,q3⟩
 ·obtain⟨a,b⟩:=wV I C q;exact .inl ⟨b,a⟩
 ·rw[fw]at q1;exact .inr ⟨q1,q2,q3⟩
theorem JB(I:Inv X pins σ H s)(C:Df X scope N cap)(hex:∀b∈ex,eN X pins H b/\b<s.heap.objs.size):(cF X scope N s H ex).Ok:=by
 have B:=tS scope.names (s.heap.push {cls:=.type "dict",data:=.dict #[]}) (eE X.env scope.names []);rw[fw]at B;have kf:∀x,(x,ck)∈scope.names->∃c,X.env.cells.lookup x=some c:=λx hx=>I.ok.has x (C.free x hx);refine⟨I.ok.mod,C.kind,I.ok.glob,I.ok.blt,ao _,?_,?_,?_,I.ok.hd,I.ok.frames,.inl rfl,?_,I.bs,df I.ok.bsz I.sz,?_,?_,I.stack,I.stkFree⟩
 ·refine B.inj (λx y c e1 e2=>?_) λx c e=>?_
  ·exact I.ok.inj x y c (wV I C e1).2 (wV I C e2).2
  ·obtain⟨v,q⟩:=I.cell x c (wV I C e).2;rw[fw];exact ji q.lt
 ·intro x hx;have hx':(relabel scope X.env).names.lookup x=some .cell∨(relabel scope X.env).names.lookup x=some .free:=hx;have mem:(x,dy)∈scope.names∨(x,ck)∈scope.names:=by
   rcases hx' with h|h
   ·rcases BQ (scope:=scope) h with q|⟨_,q⟩
    ·exact .inl q
    ·exact .inr q
   ·rcases BQ (scope:=scope) h with q|⟨z,q⟩
    ·exact .inr q
    ·exact .inr q
  by_cases hc:(x,dy)∈scope.names
  ·exact B.own x hc
  ·rcases mem with h|h
   ·exact absurd h hc
   ·exact⟨_,(B.old x hc).trans (tQ _ _ (.inl h))⟩
 ·intro x c hf e;have hf':(scope.names.lookup x==some .cell)=true:=hf;have hm:(x,dy)∈scope.names:=gb (eq_of_beq hf')
  rcases wW I C e with⟨_,q⟩|⟨q,_⟩
  ·exact absurd hm (C.apart x q)
  ·exact gh q
 ·intro b hb;obtain⟨⟨f0,f1,f2,f3,f4,f5⟩,hlt⟩:=hex b hb;refine⟨ay hlt,λx c e z=>?_⟩
  rcases wW I C e with⟨q,_⟩|⟨q,_⟩
  ·exact f4 x c q z
  ·subst z;exact iu _ (Av q hlt)
 ·intro b o e hb;obtain⟨⟨f0,f1,f2,f3,f4,f5⟩,hlt⟩:=hex b hb
  rcases f3 with q|q
  ·exact I.ok.noex b o e q
  ·exact iu _ (av (au e) (df I.ok.bsz q))
 ·intro b hb z;obtain⟨⟨f0,f1,f2,f3,f4,f5⟩,hlt⟩:=hex b hb
  rcases bc.mp (I.stkSub b z)with q|q
  ·exact f1 q
  ·exact f2 q
theorem VL(I:Inv X pins σ H s)(C:Df X scope N cap)(hex:∀b∈ex,eN X pins H b/\b<s.heap.objs.size):
  Inv (cF X scope N s H ex) pins (rB cap σ) H {s with heap:=pushCells (s.heap.push {cls:=.type "dict",data:=.dict #[]}) scope.names}:=by
 have B:=tS scope.names (s.heap.push {cls:=.type "dict",data:=.dict #[]}) (eE X.env scope.names []);rw[fw]at B;have kp:∀b o,s.heap.get? b=some o->(pushCells (s.heap.push {cls:=.type "dict",data:=.dict #[]}) scope.names).get? b=some o:=λb o e=>rp _ _ _ _ (ak _ e);have ns:(pushCells (s.heap.push {cls:=.type "dict",data:=.dict #[]}) scope.names).Ns s.heap.objs.size (λ_=>none):=⟨_,#[],_,rp _ _ _ _ (aw _ rfl),rfl,(λe he=>absurd he (by simp)),λ_=>rfl⟩
 obtain⟨m,hn,hl⟩:=I.loc;refine⟨JB I C hex,rfl,I.bare,Un.kept kp,⟨_,ns,λi x v h1 h2 h3=>?_⟩,λx c e=>?_,I.hok.fresh (ao _),λx c e=>?_,λp hp=>?_,I.hok.kept kp,?_⟩
 ·have h2':(cap.map λo=>match o with|some j=>(σ[j]?).getD none|none=>none)[i]?=some (some v):=h2;rw[dm]at h2'
  cases q:cap[i]? with
  |none=>rw[q]at h2';cases h2'
  |some o=>
   rw[q]at h2'
   cases o with
   |none=>cases h2'
   |some j=>
    have e1:(σ[j]?).getD none=some v:=cn h2';have e2:σ[j]?=some (some v):=by
     cases z:σ[j]? with
     |none=>rw[z]at e1;cases e1
     |some w=>rw[z]at e1;exact congrArg some e1
    obtain⟨c1,c2,c3⟩:=C.cap i j x q h1;have vis:pF X.env.scope x:=by
     rcases C.free x c2 with z|z
     ·exact .inr (.inl z)
     ·exact .inr (.inr z)
    obtain⟨u,r,l⟩:=hl j x v c1 e2 vis;refine⟨u,r,?_⟩
    rcases l with⟨hk,hm⟩|⟨hk,c,hc,hcell⟩
    ·rcases C.free x c2 with z|z
     ·rw[z]at hk;cases hk
     ·rw[z]at hk;cases hk
    ·refine .inr ⟨?_,c,?_,?_⟩
     ·have h3':pF (relabel scope X.env) x:=h3
      rcases h3' with z|z|z
      ·exact absurd z c3
      ·exact .inl z
      ·exact .inr z
     ·have:=(B.old x (C.apart x c2)).trans (tQ _ _ (.inl c2));rw[hc]at this;exact this
     ·obtain⟨o,ho,hd⟩:=hcell;exact⟨o,kp _ _ ho,hd⟩
 ·rcases wW I C e with⟨q,_⟩|⟨_,q,_⟩
  ·obtain⟨v,o,ho,hd⟩:=I.cell x c q;exact⟨v,o,kp _ _ ho,hd⟩
  ·exact⟨none,q⟩
 ·rcases wW I C e with⟨q,_⟩|⟨q,_⟩
  ·exact I.freeC x c q
  ·exact I.hok.fresh (gh q)
 ·obtain⟨a1,a2,a3,a4,a5⟩:=I.pin p hp;refine⟨kp _ _ a1,a2,ay (au a1),λz=>?_,a5⟩
  rcases bc.mp (I.stkSub _ z)with q|q
  ·exact a3 q
  ·exact a4 q
 ·show(cap.map _).length=N.length;rw[bf];exact C.len
theorem VM(I:Inv X pins σ H s)(C:Df X scope N cap)(hex:∀b∈ex,eN X pins H b/\b<s.heap.objs.size):∀b∈ex,eN (cF X scope N s H ex) pins H b:=by intro b hb;obtain⟨⟨f0,f1,f2,f3,f4,f5⟩,hlt⟩:=hex b hb;have ok:=JB (N:=N) I C hex;exact⟨f0,(ok.exf b hb).1,ok.exfs b hb,.inl hb,(ok.exf b hb).2,f5⟩
theorem VN{σ':St}{H':Hp}{s':ag}{h':cq}(I:Inv X pins σ H s)(hex:∀b∈ex,eN X pins H b/\b<s.heap.objs.size)(I':Inv (cF X scope N s H ex) pins σ' H' s')(hh:ig s.heap.objs.size s'.heap h'):
  Inv X pins σ H' {s' with heap:=h'}:=by
 have u:Un (eY X.stack) ex H H' s.heap s'.heap:=I'.base;have up:∀b o o',s.heap.get? b=some o->s'.heap.get? b=some o'->h'.get? b=some o':=λb o o' e e'=>(hh.2 b (ay (au e))).trans e';have hL:H' s.heap.objs.size=none:=I'.free;refine I.call' (s':={s' with heap:=h'}) (ch:=ex) I'.os ⟨λb o q n hb hx=>up b o o q (u.keep b o q n hb hx),λb o q n hb hx=>?_,u.free,λb o q hx=>?_,u.tups,u.frzs,u.tbls⟩ (λb o e=>?_) I'.bare λb hb=>?_
 ·obtain⟨sl,e⟩:=u.slot b o q n hb hx;exact⟨sl,up b o _ q e⟩
 ·obtain⟨o',e⟩:=u.there b o q hx;exact⟨o',up b o _ q e⟩
 ·refine(I'.hok b o e).stay (λc v hc q=>(hh.2 c ?_).trans q) (λ_ q=>q) λ_ _ q=>q
  rcases hc with z|z
  ·rw[z];rintro rfl;rw[hL]at e;cases e
  ·rintro rfl;rw[hL]at z;cases z
 ·obtain⟨⟨f0,f1,f2,f3,f4,f5⟩,hlt⟩:=hex b hb;exact⟨f3,f1,f4,f5⟩
theorem Inv.adopt{a:ai}{o:HO}(I:Inv X pins σ H s)(f:eN X pins H a)(ha:X.s₀.heap.objs.size<=a)(new:Ce X.prog X.w (aV H a o) s.heap a o):Inv X pins σ (aV H a o) s:=by
 obtain⟨f0,f1,f2,f3,f4,f5⟩:=f;have ne0:∀b ob,X.s₀.heap.get? b=some ob->b≠a:=λb ob e z=>by subst z;exact iu _ (av (au e) ha)
 refine⟨I.ok,I.os,I.bare,⟨I.base.keep,I.base.slot,λb ob e n hx=>by rw[cB (ne0 b ob e)];exact I.base.free b ob e n hx,I.base.there,λb xs e=>?_,λb ob u e=>?_,λb ps e=>?_⟩,I.loc,I.cell,by rw[cB (dg f1)];exact I.free,
  λx c e=>by rw[cB (f4 x c e)];exact I.freeC x c e,λp hp=>?_,λb u e=>?_,I.len⟩
 ·have:=I.base.tups b xs e;rw[cB (gL this f0)];exact this
 ·have:=I.base.frzs b ob u e;rw[cB (gL this f0)];exact this
 ·obtain⟨more,this⟩:=I.base.tbls b ps e;exact⟨more,by rw[cB (gL this f0)];exact this⟩
 ·obtain⟨a1,a2,a3,a4,a5⟩:=I.pin p hp;exact⟨a1,by rw[cB (f5 p hp)];exact a2,a3,a4,a5⟩
 ·by_cases hb:b=a
  ·subst hb;rw[dR]at e;cases e;exact new
  ·rw[cB hb]at e;exact(I.hok b u e).stay (λ_ _ _ q=>q) (λc q=>by rw[cB (gL q f0)];exact q) λc xs q=>by rw[cB (gL q f0)];exact q
end
def AccAt(s:ag)(D:ai)(xs:Ic):Prop:=xs.length<=cp/\∃(its:List af)(n:Nat),Cc xs its/\s.heap.get? D=some {cls:=.type "list",data:=.seq its.toArray n}
abbrev TC:=St->Hp->Ic->(St->Hp->Ic->Prop)->Prop
def Ga(X:Cx)(D:ai)(m:Sem Unit)(t:TC):Prop:=
 ∀(pins:List (ai×Obj))(s:ag)(σ:St)(H:Hp)(xs:Ic)(K:St->Hp->Ic->Prop),Inv X pins σ H s->AccAt s D xs->eN X pins H D->t σ H xs K->
  wpAny (model X.prog X.w) X.A m (λ_ s'=>∃σ' H' xs',Inv X pins σ' H' s'/\AccAt s' D xs'/\H' D=none/\K σ' H' xs') X.xe s
section
variable{X:Cx}{D:ai}
theorem AccAt.obj{s:ag}{xs:Ic}(a:AccAt s D xs):∃o,s.heap.get? D=some o/\∀v,o.data≠.cell v:=by obtain⟨_,its,n,_,e⟩:=a;exact⟨_,e,λv z=>nomatch z⟩
theorem Inv.pinD{pins:List (ai×Obj)}{s:ag}{σ:St}{H:Hp}{xs:Ic}(I:Inv X pins σ H s)(a:AccAt s D xs)(f:eN X pins H D):Inv X (pins++kF [D] s.heap) σ H s:=
 I.pinned (λb hb=>by (have e:b=D:=by simpa using hb);subst e;exact f) λb hb=>by
  have e:b=D:=by simpa using hb
  subst e;exact a.obj
theorem Inv.atD{pins:List (ai×Obj)}{s s':ag}{σ':St}{H':Hp}{xs:Ic}(a:AccAt s D xs)(I:Inv X (pins++kF [D] s.heap) σ' H' s'):AccAt s' D xs/\H' D=none:=by obtain⟨z,its,n,r,e⟩:=a;have:=I.pin (D,_) (cw _ (cw _ (qX (by simp) e)));exact⟨⟨z,its,n,r,this.1⟩,this.2.1⟩
def JC(te:TE):TC:=λσ H xs K=>te σ H λv H1=>xs.length<cp/\K σ H1 (xs++[v])
theorem wX{elt:bp}{te:TE}(he:PE X elt te):Ga X D (do let x <-eval elt X.env;let _ <-call (.builtin "list.append") [.ref D,x];pure ()) (JC te):=by
 intro pins s σ H xs K I a f h;refine ae (bQ (he _ s σ H _ (I.pinD a f) h) λu s1⟨v,H1,I1,r1,hz,q1⟩=>?_);obtain⟨a1,n1⟩:=Inv.atD a I1;have I1':=I1.unpinned;obtain⟨z,its,n,r,e⟩:=a1;have hl:=r.length;refine ae (xr F.slot_list_append ⟨_,e,rfl⟩ F.entry_list_append (F.args_list_append_2 _ _) (PySem.list_append D its.toArray n u (by rw[bg];lia)) ⟨e,?_⟩);have q:=Ap e (·.push u);have e2:its.toArray.push u=(its++[u]).toArray:=by simp
 rw[e2]at q;refine aj ⟨σ,H1,xs++[v],?_,⟨by rw[cz,Aq];lia,its++[u],_,r.append (.cons r1 .nil),q⟩,n1,q1⟩;obtain⟨f0,f1,f2,f3,f4,f5⟩:=f;exact I1'.turned (t':=s1.toks) (λb o hb z=>(pg s1.heap _ (dg hb)).trans z) n1 f1 f3 f4 f5
def JD(ifs:List bp)(env:Env):Sem Bool:=forIn ifs true λc r=>if r=true then do let ok <-isTrue c env (eval c env);pure (sr ok)else pure (sr r)
def PTs(X:Cx)(ifs:List bp)(t:TT):Prop:=∀(pins:List (ai×Obj))(s:ag)(σ:St)(H:Hp)(Q:Bool->Hp->Prop),Inv X pins σ H s->t σ H Q->wpAny (model X.prog X.w) X.A (JD ifs X.env) (TP X pins σ Q) X.xe s
def VO:TT:=λ_ H Q=>Q true H
theorem VP:PTs X [] VO:=λpins s σ H Q I h=>wpAny_tests_nil ⟨H,I,h⟩
theorem VQ{c:bp}{t:TT}(h:PT X c t):PTs X [c] t:=λpins s σ H Q I q=>wpAny_tests_one (h pins s σ H Q I q)
def iX(p:Pos)(it:af)(tg:bp)(ifs:List bp)(env:Env)(inner:Sem Unit)(c:Code):Sem PySem.Fin:=do
 standAt p
 match <-pyNext it with
 |none=>pure (.done .next)
 |some v=>do
  letOwnedTupleGo tg it v
  assign tg env v
  let ok <-JD ifs env
  if ok=true then do inner;again c
  else again c
def tT(J:It)(g:TG)(tt:TT)(inner:TC)(K:St->Hp->Ic->Prop)(σ:St)(H:Hp)(xs:Ic):Prop:=
 ∃W:Nat->Nat->St->Hp->Ic->Prop,(∃m,W 0 m σ H xs)/\∀i m σ H xs,W i m σ H xs->
  (J.stop i H/\K σ H xs)∨(J.go i H/\∃N:St->Hp->Ic->Prop,(∀σ' H' xs',N σ' H' xs'->∃m',m'<m/\W (i+1) m' σ' H' xs')/\
   ∀x H',J.yld i H x H'->g x σ H' λσ2 H2=>tt σ2 H2 λb H3=>if b=true then inner σ2 H3 xs N else N σ2 H3 xs)
theorem JE{elt:bp}{gens:List lh}{sc:fy}{ps:Pos}{d:Nat}{it:ai}{tg:bp}{ifs:List bp}{p:Pos}{inner:Sem Unit}{g:TG}{tt:TT}{ti:TC}{J:It}{fp:List ai}{tn:Nat->cq->Prop}(hx:X.xe=λ_ _=>False)(hc:X.calm=true)(ht:compTurn (.ListComp elt gens sc ps) d (.ref it) (.ref D) X.env=iX p (.ref it) tg ifs X.env inner (.compLoop (.ListComp elt gens sc ps) d (.ref it) (.ref D) X.env))(hg:PG X tg g)(Gd:PTs X ifs tt)(hi:Ga X D inner ti)(T:Turn X.prog X.w X.K tg J fp it tn){pins:List (ai×Obj)}{s:ag}{σ:St}{H:Hp}{xs:Ic}{K:St->Hp->Ic->Prop}{R:xm->ag->Prop}(I:Inv X pins σ H s)(a:AccAt s D xs)(f:eN X pins H D)(st:tn 0 s.heap)(hf:∀b∈fp,eN X pins H b)(hD:D∉fp)(h:tT J g tt ti K σ H xs)(hR:∀σ' H' xs' s',Inv X pins σ' H' s'->AccAt s' D xs'->H' D=none->K σ' H' xs'->R (.ok .next) s'):
  codeAny (model X.prog X.w) X.A (.compLoop (.ListComp elt gens sc ps) d (.ref it) (.ref D) X.env) R s:=by
 obtain⟨W,⟨m0,w0⟩,turn⟩:=h;have stat:∀{H':Hp},(∀b∈fp,H' b=none)->∀b∈fp,eN X pins H' b:=λhn b hb=>⟨hn b hb,(hf b hb).2⟩
 have statD:∀{H':Hp},H' D=none->eN X pins H' D:=λhn=>⟨hn,f.2⟩
 refine codeAny_loop rfl (λn s'=>∃i σ' H' xs',Inv X pins σ' H' s'/\AccAt s' D xs'/\H' D=none/\tn i s'.heap/\(∀b∈fp,H' b=none)/\W i n σ' H' xs') ?_ m0 ⟨0,σ,H,xs,I,a,f.1,st,λb hb=>(hf b hb).1,w0⟩
 rintro n s3 ⟨i,σ3,H3,xs3,I3,a3,n3,st3,fr3,w3⟩
 show wpAny _ X.A ((compTurn (.ListComp elt gens sc ps) d (.ref it) (.ref D) X.env).onRaise (λx=>do noteFrame x X.env;theTreesLotGoes x)) _ _ s3;rw[ht];refine um (kz (Q:=λfin s'=>match fin with|.done f=>R (.ok f) s'|.again c'=>c'=.compLoop (.ListComp elt gens sc ps) d (.ref it) (.ref D) X.env/\∃m,m<n/\∃i σ' H' xs',Inv X pins σ' H' s'/\AccAt s' D xs'/\H' D=none/\tn i s'.heap/\(∀b∈fp,H' b=none)/\W i m σ' H' xs') (E:=λ_ _=>False) ?_ (λ_ _ z=>z) λ_ _ z=>z.elim);unfold iX;refine ae (uj (ae ?_));have xe':∀{α:Type}{m:Sem α}{Q:α->ag->Prop}{s:ag},wpAny (model X.prog X.w) X.A m Q X.xe s->wpAny (model X.prog X.w) X.A m Q (λ_ _=>False) s:=λ{α m Q s}z=>by rw[hx]at z;exact z
 have I3':=I3.pinD a3 (statD n3);have fr3':∀b∈fp,eN X (pins++kF [D] s3.heap) H3 b:=λb hb=>by
  obtain⟨g0,g1,g2,g3,g4,g5⟩:=stat fr3 b hb;refine⟨g0,g1,g2,g3,g4,λp hp=>?_⟩
  rcases fq.mp hp with z|z
  ·exact g5 p (jt _ z)
  ·rcases fq.mp z with z|z
   ·exact g5 p (cw _ z)
   ·have:=(BC z).1;have e:p.1=D:=by simpa using this
    rw[e];rintro rfl;exact hD hb
 rcases turn i n σ3 H3 xs3 w3 with⟨stop,qn⟩|⟨go,N,hN,step⟩
 ·refine bQ (T.done X rfl rfl rfl hc i _ s3 σ3 H3 (λ_ _=>False) I3' fr3' st3 stop) λr s4⟨hr,I4⟩=>?_;subst hr;obtain⟨a4,n4⟩:=Inv.atD a3 I4;exact aj (hR σ3 H3 xs3 s4 I4.unpinned a4 n4 qn)
 ·refine bQ (T.item X rfl rfl rfl hc i _ s3 σ3 H3 (λ_ _=>False) I3' fr3' st3 go) λr s4⟨u,hr,h4⟩=>?_;subst hr;refine ae (bQ h4 λ_ s5⟨x,H5,I5,r5,y5,st5,fr5⟩=>?_);obtain⟨a5,n5⟩:=Inv.atD a3 I5;have I5u:=I5.unpinned;have I5p:=I5u.pinned (stat fr5) (T.obj _ _ st5);have fD5:eN X (pins++kF fp s5.heap) H5 D:=by
   obtain⟨g0,g1,g2,g3,g4,g5⟩:=statD n5;refine⟨g0,g1,g2,g3,g4,λp hp=>?_⟩
   rcases fq.mp hp with z|z
   ·exact g5 p (jt _ z)
   ·rcases fq.mp z with z|z
    ·exact g5 p (cw _ z)
    ·rintro rfl;exact hD (BC z).1
  have I5':=I5p.pinD a5 fD5;refine ae (xe' (bQ (hg _ s5 σ3 H5 x u _ I5' r5 (step x H5 y5)) λ_ s6⟨σ6,H6,I6,q6⟩=>?_));obtain⟨a6,n6⟩:=Inv.atD a5 I6;have pin':∀{s σ H},Inv X (pins++kF fp s5.heap) σ H s->tn (i+1) s.heap/\∀b∈fp,H b=none:=λ{s σ H}J=>by refine⟨T.keep _ _ _ st5 λb hb o e=>(J.pin (b,o) (cw _ (cw _ (qX hb e)))).1,λb hb=>?_⟩;obtain⟨o,e,d⟩:=T.obj _ _ st5 b hb;exact(J.pin (b,o) (cw _ (cw _ (qX hb e)))).2.1
  have fD6:eN X (pins++kF fp s5.heap) H6 D:=⟨n6,fD5.2⟩
  have I6u:=I6.unpinned;have I6p:=I6u.pinD a6 fD6;refine ae (xe' (bQ (Gd _ s6 σ6 H6 _ I6p q6) λb s7⟨H7,I7,q7⟩=>?_));obtain⟨a7,n7⟩:=Inv.atD a6 I7;have I7u:=I7.unpinned;have fin:∀{s8 σ8 H8 xs8},Inv X (pins++kF fp s5.heap) σ8 H8 s8->AccAt s8 D xs8->H8 D=none->N σ8 H8 xs8->
    ∃m,m<n/\∃i σ' H' xs',Inv X pins σ' H' s8/\AccAt s8 D xs'/\H' D=none/\tn i s8.heap/\(∀b∈fp,H' b=none)/\W i m σ' H' xs':=λ{s8 σ8 H8 xs8}J a8 n8 q8=>by
   obtain⟨m',hm,w8⟩:=hN σ8 H8 xs8 q8;obtain⟨t8,fr8⟩:=pin' J;exact⟨m',hm,i+1,σ8,H8,xs8,J.unpinned,a8,n8,t8,fr8,w8⟩
  cases b with
  |true=>
   rw[if_pos rfl]at q7⊢;have fD7:eN X (pins++kF fp s5.heap) H7 D:=⟨n7,fD5.2⟩
   refine ae (xe' (bQ (hi _ s7 σ6 H7 xs3 N I7u a7 fD7 q7) λ_ s8⟨σ8,H8,xs8,I8,a8,n8,q8⟩=>?_));exact aj ⟨rfl,fin I8 a8 n8 q8⟩
  |false=>rw[if_neg gu]at q7⊢;exact aj ⟨rfl,fin I7u a7 n7 q7⟩
end
theorem JF(elt tg iter:bp)(ifs:List bp)(sc:fy)(ps:Pos)(it:af)(D:ai)(env:Env):
  compTurn (.ListComp elt [⟨tg,iter,ifs,0⟩] sc ps) 0 it (.ref D) env=
   iX iter.pos it tg ifs env (do let x <-eval elt env;let _ <-call (.builtin "list.append") [.ref D,x];pure ()) (.compLoop (.ListComp elt [⟨tg,iter,ifs,0⟩] sc ps) 0 it (.ref D) env):=by rfl
def kX(iter:bp)(e:bp)(d:Nat)(D:ai)(env:Env):Sem Unit:=do
 let x <-eval iter env
 standAt iter.pos
 let x <-foldedSetIterable iter env x
 let it <-holding [x] (pyIter x)
 let _ <-runOwn (.compStart e d it (.ref D) env) env
 pure ()
theorem VR(elt tg iter Dh Cd:bp)(ifs Co:List bp)(sc:fy)(ps:Pos)(it:af)(D:ai)(env:Env):
  compTurn (.ListComp elt [⟨tg,iter,ifs,0⟩,⟨Dh,Cd,Co,0⟩] sc ps) 0 it (.ref D) env=
   iX iter.pos it tg ifs env (kX Cd (.ListComp elt [⟨tg,iter,ifs,0⟩,⟨Dh,Cd,Co,0⟩] sc ps) 1 D env) (.compLoop (.ListComp elt [⟨tg,iter,ifs,0⟩,⟨Dh,Cd,Co,0⟩] sc ps) 0 it (.ref D) env):=by
 unfold iX kX;simp only[bind_assoc,pure_bind];rfl
theorem VS(elt tg iter Dh Cd:bp)(ifs Co:List bp)(sc:fy)(ps:Pos)(it:af)(D:ai)(env:Env):
  compTurn (.ListComp elt [⟨tg,iter,ifs,0⟩,⟨Dh,Cd,Co,0⟩] sc ps) 1 it (.ref D) env=
   iX Cd.pos it Dh Co env (do let x <-eval elt env;let _ <-call (.builtin "list.append") [.ref D,x];pure ()) (.compLoop (.ListComp elt [⟨tg,iter,ifs,0⟩,⟨Dh,Cd,Co,0⟩] sc ps) 1 it (.ref D) env):=by rfl
section
variable{X:Cx}{D:ai}
theorem JG{prog:bj}{w:cb}{A:bx}{R:xm->ag->Prop}{s:ag}{elt:bp}{gens:List lh}{sc:fy}{ps:Pos}{d:Nat}{it acc:af}{env:Env}(ha:((gens)[d]?).elim false (·.is_async !=0)=false)(h0:codeAny (model prog w) A (.compLoop (.ListComp elt gens sc ps) d it acc env) R s)(h:wpAny (model prog w) A (pyIter it) (λit' s'=>codeAny (model prog w) A (.compLoop (.ListComp elt gens sc ps) d it' acc env) R s') (λ_ _=>False) s):
  codeAny (model prog w) A (.compStart (.ListComp elt gens sc ps) d it acc env) R s:=by
 refine codeAny_of_tree ?_;show wpAny _ _ ((compStart (.ListComp elt gens sc ps) d it acc env).onRaise (λx=>do noteFrame x env;standAt theWindowsPlace)) _ _ s;refine wpAny_notedAt (kz (E:=λ_ _=>False) ?_ (λ_ _ z=>z) λ_ _ z=>z.elim);unfold compStart;rw[show((clausesOf (.ListComp elt gens sc ps))[d]?).elim false (·.is_async !=0)=false from ha];simp only[cf,if_false];refine ae (ou (wpAny_ite ?_))
 split
 ·first
   |exact ae (aj (aj (And.intro rfl h0)))
   |exact aj (And.intro rfl h0)
 ·have fin:∀s:ag,wpAny (model prog w) A (pyIter it) (λit' s'=>codeAny (model prog w) A (.compLoop (.ListComp elt gens sc ps) d it' acc env) R s') (λ_ _=>False) s->
    wpAny (model prog w) A (do let it' <-pyIter it;again (.compLoop (.ListComp elt gens sc ps) d it' acc env)) (λfin s'=>match fin with|.done f=>R (.ok f) s'|.again c=>c.quiet=true/\codeAny (model prog w) A c R s') (λ_ _=>False) s:=λs h=>ae (kz h (λit' s' h'=>aj ⟨rfl,h'⟩) λ_ _ x=>x)
  refine ae (tq ?_);have ec:clausesOf (.ListComp elt gens sc ps)=gens:=rfl;rw[ec]
  cases q:gens[d]? with
  |none=>exact fin s h
  |some g=>exact ae (uj (fin s h))
def JH(wi:TI)(g:TG)(tt:TT)(inner:TC):TC:=λσ H xs K=>wi σ H λJ H1=>tT J g tt inner K σ H1 xs
theorem BR{elt:bp}{gens:List lh}{sc:fy}{ps:Pos}{d:Nat}{tg iter:bp}{ifs:List bp}{inner:Sem Unit}{wi:TI}{g:TG}{tt:TT}{ti:TC}(hx:X.xe=λ_ _=>False)(hc:X.calm=true)(ha:((gens)[d]?).elim false (·.is_async !=0)=false)(ht:∀it,compTurn (.ListComp elt gens sc ps) d (.ref it) (.ref D) X.env=iX iter.pos (.ref it) tg ifs X.env inner (.compLoop (.ListComp elt gens sc ps) d (.ref it) (.ref D) X.env))(hi:PI X tg iter wi)(hg:PG X tg g)(Gd:PTs X ifs tt)(Dm:Ga X D inner ti)(hs:∀x,foldedSetIterable iter X.env x=pure x):
  Ga X D (kX iter (.ListComp elt gens sc ps) d D X.env) (JH wi g tt ti):=by
 intro pins s σ H xs K I a f h;unfold kX;refine ae (bQ (hi _ s σ H _ (I.pinD a f) h) λv s1 h1=>ae (uj (ae (wb (hs v) (ae (ff (bQ h1 λitv s2 h2=>?_)))))));obtain⟨it,fp,tn,J,H2,e,I2,T,Gb,f2,lp⟩:=h2;subst e;obtain⟨a2,n2⟩:=Inv.atD a I2;have I2u:=I2.unpinned;have hpD:∀b∈fp,b≠D:=λb hb z=>by subst z;obtain⟨_,its,n,_,eo⟩:=a;exact(f2 b hb).2.2.2.2.2 (b,_) (cw _ (cw _ (qX (by simp) eo))) rfl
 have f2u:∀b∈fp,eN X pins H2 b:=λb hb=>by
  obtain⟨g0,g1,g2,g3,g4,g5⟩:=f2 b hb;exact⟨g0,g1,g2,g3,g4,λp hp=>g5 p (by
   rcases fq.mp hp with z|z
   ·exact jt _ z
   ·exact cw _ (jt _ z))⟩
 have fD:eN X pins H2 D:=⟨n2,f.2⟩
 refine ae (wpAny_runOwn ?_);have loop:codeAny (model X.prog X.w) X.A (.compLoop (.ListComp elt gens sc ps) d (.ref it) (.ref D) X.env) (λr s'=>match r with
   |.ok f=>wpAny (model X.prog X.w) X.A (pure ():Sem Unit) (λ_ s'=>∃σ' H' xs',Inv X pins σ' H' s'/\AccAt s' D xs'/\H' D=none/\K σ' H' xs') X.xe s'
   |.error e=>cameBackBy (model X.prog X.w) X.A X.env X.xe e s') s2:=
  JE hx hc (ht it) hg Gd Dm T I2u a2 fD Gb f2u (λz=>hpD D z rfl) lp λσ' H' xs' s' I' a' n' k'=>aj ⟨σ',H',xs',I',a',n',k'⟩
 exact JG ha loop (T.self _ 0 s2 _ _ Gb loop)
end
def BS(wi:TI)(cap:List (Option Nat))(g:TG)(tt:TT)(inner:TC):TE:=λσ H Q=>wi σ H λJ H1=>tT J g tt inner (λ_ H' xs=>∀p,H' p=none->Q (.ref p) (aV H' p (.lst xs))) (rB cap σ) H1 []
section
variable{X:Cx}
theorem JI{elt:bp}{gens:List lh}{sc:fy}{ps:Pos}{tg iter:bp}{ifs:List bp}{rest:List lh}{inner:ai->Env->Sem Unit}{g:TG}{tt:TT}{ti:TC}{N:Br}{cap:List (Option Nat)}{E:af->ag->Prop}(hc:X.calm=true)(C:Df X sc N cap)(eg:gens=⟨tg,iter,ifs,0⟩::rest)(ht:∀it D env,compTurn (.ListComp elt gens sc ps) 0 (.ref it) (.ref D) env=iX iter.pos (.ref it) tg ifs env (inner D env) (.compLoop (.ListComp elt gens sc ps) 0 (.ref it) (.ref D) env))(hg:∀s H ex,PG (cF X sc N s H ex) tg g)(Gd:∀s H ex,PTs (cF X sc N s H ex) ifs tt){pins:List (ai×Obj)}{s2:ag}{σ:St}{H2:Hp}(Dm:∀s ex D,Inv X pins σ H2 s->(∀b∈ex,eN X pins H2 b/\b<s.heap.objs.size)->Ga (cF X sc N s H2 ex) D (inner D (cF X sc N s H2 ex).env) ti){K:St->Hp->Ic->Prop}{it:ai}{fp:List ai}{tn:Nat->cq->Prop}{J:It}(I2:Inv X pins σ H2 s2)(T:Turn X.prog X.w X.K tg J fp it tn)(Gb:tn 0 s2.heap)(f2:∀b∈fp,eN X pins H2 b)(lp:tT J g tt ti K (rB cap σ) H2 []){R:af->ai->xm->ag->Prop}(hR:∀σ' H' xs(s3 s':ag)(C D:ai),X.s₀.heap.objs.size<=D->C=s3.heap.objs.size->(∃m,s'.heap.Ns C m)->AccAt s' D xs->eN X pins H' D->eN X pins H' C->D<C->(∀h',ig C s'.heap h'->Inv X pins σ H' {s' with heap:=h'})->K σ' H' xs->R (.ref D) C (.ok .next) s'):
  wpAny (model X.prog X.w) X.A (newList []) (λacc s3=>wpAny (model X.prog X.w) X.A (newFunctionEnv sc X.env.globals (eE X.env sc.names []) [] X.env.qual none .none (some X.env)) (λcenv s4=>codeAny (model X.prog X.w) X.A (.compStart (.ListComp elt gens sc ps) 0 (.ref it) acc {cenv with scope:=relabel sc X.env}) (R acc cenv.locals) s4) E s3) E s2:=by
 refine fh (VJ ?_);dsimp only;generalize hs3:({s2 with heap:=s2.heap.push {cls:=.type "list",dict:=none,data:=.seq ([]:List af).toArray} }:ag)=s3;have kp:∀b o,s2.heap.get? b=some o->s3.heap.get? b=some o:=λb o e=>by rw[<-hs3];exact ak _ e
 have I3:Inv X pins σ H2 s3:=by rw[<-hs3];exact I2.kept (t':=s2.toks) λb o e=>ak _ e
 have eD:s3.heap.get? s2.heap.objs.size=some {cls:=.type "list",data:=.seq ([]:List af).toArray 0}:=by rw[<-hs3];exact aw _ rfl
 have nD:H2 s2.heap.objs.size=none:=I2.hok.fresh (ao _);have fD:eN X pins H2 s2.heap.objs.size:=I2.fpOk (ao _) nD;have hlt:s2.heap.objs.size<s3.heap.objs.size:=au eD;have hex:∀b∈s2.heap.objs.size::fp,eN X pins H2 b/\b<s3.heap.objs.size:=λb hb=>by
  rcases bc.mp hb with rfl|hb
  ·exact⟨fD,hlt⟩
  ·obtain⟨o,e,_⟩:=T.obj 0 _ Gb b hb;exact⟨f2 b hb,au (kp b o e)⟩
 have hDfp:s2.heap.objs.size∉fp:=λz=>by obtain⟨o,e,_⟩:=T.obj 0 _ Gb _ z;exact iu _ (au e)
 have I4:=VL (N:=N) (ex:=s2.heap.objs.size::fp) I3 C hex;have F4:=VM (N:=N) I3 C hex;have st4:tn 0 (pushCells (s3.heap.push {cls:=.type "dict",data:=.dict #[]}) sc.names):=T.keep 0 _ _ Gb λb hb o e=>rp _ _ _ _ (ak _ (kp b o e));have a4:AccAt {s3 with heap:=pushCells (s3.heap.push {cls:=.type "dict",data:=.dict #[]}) sc.names} s2.heap.objs.size []:=⟨gg _,[],0,.nil,rp _ _ _ _ (ak _ eD)⟩
 have loop:codeAny (model X.prog X.w) X.A (.compLoop (.ListComp elt gens sc ps) 0 (.ref it) (.ref s2.heap.objs.size) (cF X sc N s3 H2 (s2.heap.objs.size::fp)).env) (R (.ref s2.heap.objs.size) s3.heap.objs.size)
   {s3 with heap:=pushCells (s3.heap.push {cls:=.type "dict",data:=.dict #[]}) sc.names}:=by
  refine JE (X:=cF X sc N s3 H2 (s2.heap.objs.size::fp)) rfl hc (ht it _ _) (hg _ _ _) (Gd _ _ _) (Dm _ _ _ I3 hex) T I4 a4 (F4 _ (bh ..)) st4 (λb hb=>F4 b (ax _ hb)) hDfp lp λσ' H' xs' s' I' a' n' k'=>?_;obtain⟨m,hn,_⟩:=I'.loc;exact hR σ' H' xs' s3 s' _ _ (df I2.sz (ao _)) rfl ⟨m,hn⟩ a' ⟨n',fD.2⟩ (I3.fpOk (ao _) I'.free) hlt (λh' hh=>VN I3 hex I' hh) k'
 have ha:((gens)[0]?).elim false (·.is_async !=0)=false:=by rw[eg];rfl
 subst hs3;exact JG ha loop (T.self _ 0 _ _ _ st4 loop)
theorem JJ{elt:bp}{gens:List lh}{sc:fy}{ps:Pos}{tg iter:bp}{ifs:List bp}{rest:List lh}{inner:ai->Env->Sem Unit}{wi:TI}{g:TG}{tt:TT}{ti:TC}{N:Br}{cap:List (Option Nat)}(hc:X.calm=true)(C:Df X sc N cap)(eg:gens=⟨tg,iter,ifs,0⟩::rest)(ht:∀it D env,compTurn (.ListComp elt gens sc ps) 0 (.ref it) (.ref D) env=iX iter.pos (.ref it) tg ifs env (inner D env) (.compLoop (.ListComp elt gens sc ps) 0 (.ref it) (.ref D) env))(hi:PI X tg iter wi)(hg:∀s H ex,PG (cF X sc N s H ex) tg g)(Gd:∀s H ex,PTs (cF X sc N s H ex) ifs tt)(Dm:∀s H ex D,Ga (cF X sc N s H ex) D (inner D (cF X sc N s H ex).env) ti)(hs:∀x,foldedSetIterable iter X.env x=pure x):PE X (.ListComp elt gens sc ps) (BS wi cap g tt ti):=by
 intro pins s σ H Q I h;rw[eval_ListComp];have hcl:closureFor sc X.env=pure (eE X.env sc.names []):=BP λx hx=>I.ok.has x (C.free x hx);have e1:firstAsync gens=false:=by rw[eg];rfl
 have e2:firstIter gens X.env=eval iter X.env:=by rw[eg];rfl
 rw[e1,e2];refine Bl (use:=none) (g:=⟨tg,iter,ifs,0⟩) (gs:=rest) (by rw[eg];rfl) hs hcl C.kind C.nd (bQ (hi pins s σ H _ I h) λv s1 h1=>bQ h1 λitv s2 h2=>?_);obtain⟨it,fp,tn,J,H2,e,I2,T,Gb,f2,lp⟩:=h2;subst e;refine JI (N:=N) (inner:=inner) (R:=λacc C=>compPost (model X.prog X.w) X.A X.xe none (EP X pins σ Q) acc C) hc C eg ht hg Gd (λs ex D _ _=>Dm s _ ex D) I2 T Gb f2 lp ?_;intro σ' H' xs s3 s' C D hD0 hC hn a f fC hDC Dl k;obtain⟨m,hn⟩:=hn;refine⟨m,hn,λh' hh=>?_⟩;have I5:=Dl h' hh;obtain⟨hz,its,n,r,eD⟩:=a;have eD':h'.get? D=some {cls:=.type "list",data:=.seq its.toArray n}:=(hh.2 D (ay hDC)).trans eD;refine⟨.ref D,aV H' D (.lst xs),I5.adopt f hD0 ⟨hz,its,n,r,eD'⟩,rfl,k D f.1⟩
end
section
variable{X:Cx}
theorem JK{i:Nat}{x:Str}{px pos:Pos}{elt:bp}{gens:List lh}{sc:fy}{ps:Pos}{tg iter:bp}{ifs:List bp}{rest:List lh}{inner:ai->Env->Sem Unit}{wi:TI}{g:TG}{tt:TT}{ti:TC}{N:Br}{cap:List (Option Nat)}(hsw:swapsWith (.ListComp elt gens sc ps) (some (.Name x px)) pos.line X.env=pure true)(hN:X.N.Nodup)(hi':X.N[i]?=some x)(hx:X.env.scope.names.lookup x=some .local)(hc:X.calm=true)(C:Df X sc N cap)(eg:gens=⟨tg,iter,ifs,0⟩::rest)(ht:∀it D env,compTurn (.ListComp elt gens sc ps) 0 (.ref it) (.ref D) env=iX iter.pos (.ref it) tg ifs env (inner D env) (.compLoop (.ListComp elt gens sc ps) 0 (.ref it) (.ref D) env))(hi:PI X tg iter wi)(hg:∀s H ex,PG (cF X sc N s H ex) tg g)(Gd:∀s H ex,PTs (cF X sc N s H ex) ifs tt)(Dm:∀s H ex D,Ga (cF X sc N s H ex) D (inner D (cF X sc N s H ex).env) ti)(hs:∀x,foldedSetIterable iter X.env x=pure x):PS X (.Assign [.Name x px] (.ListComp elt gens sc ps) pos) (wI (BS wi cap g tt ti) (A7 i)):=by
 intro pins s σ H D I h;rw[exec_Assign_Name_used _ _ _ _ hsw];have hcl:closureFor sc X.env=pure (eE X.env sc.names []):=BP λx hx=>I.ok.has x (C.free x hx);have e1:firstAsync gens=false:=by rw[eg];rfl
 have e2:firstIter gens X.env=eval iter X.env:=by rw[eg];rfl
 refine ae (uj (ae ?_));show wpAny _ X.A (do let _ <-comprehension (.ListComp elt gens sc ps) sc X.env (firstIterPos gens ps) (newList []) (firstAsync gens) (firstIter gens X.env) (some (assign (.Name x px) X.env))) _ _ s;rw[e1,e2];refine ae (bQ (Bl (use:=some (assign (.Name x px) X.env)) (Q:=λ_ s'=>SP X pins D .next s') (g:=⟨tg,iter,ifs,0⟩) (gs:=rest) (by rw[eg];rfl) hs hcl C.kind C.nd (bQ (hi pins s σ H _ I h) λv s1 h1=>bQ h1 λitv s2 h2=>?_)) λ_ s' hq=>aj (aj hq));obtain⟨it,fp,tn,J,H2,e,I2,T,Gb,f2,lp⟩:=h2;subst e;refine JI (N:=N) (inner:=inner) (R:=λacc C=>compPost (model X.prog X.w) X.A X.xe (some (assign (.Name x px) X.env)) (λ_ s'=>SP X pins D .next s') acc C) hc C eg ht hg Gd (λs ex D _ _=>Dm s _ ex D) I2 T Gb f2 lp ?_;intro σ' H' xs s3 s' C D' hD0 hC hn a f fC hDC Dl k;obtain⟨m,hn⟩:=hn;have I5:Inv X pins σ H' s':=Dl s'.heap (oi ..);obtain⟨hz,its,n,r,eD⟩:=a;have I6:Inv X pins σ (aV H' D' (.lst xs)) s':=I5.adopt f hD0 ⟨hz,its,n,r,eD⟩;show wpAny _ X.A (assign (.Name x px) X.env (.ref D')) _ _ s';obtain⟨c0,c1,c2,c3,c4,c5⟩:=fC;have nC:aV H' D' (.lst xs) C=none:=by rw[cB (dg (ay hDC))];exact c0
 refine wpAny_assign_Name (HD (v:=Hz D') I6 hN hi' (.inl hx) rfl (λs'' I7⟨a,sb,ha⟩=>?_) (.inr hx));have hCa:C≠a:=by
  rcases ha with z|z
  ·rw[z];exact c1
  ·exact dg (c4 x a z)
 refine⟨m,hn.sameBut sb hCa,λh' hh=>?_⟩;have I8:Inv X pins (σ.set i (some (.ref D'))) (aV H' D' (.lst xs)) {s'' with heap:=h'}:=I7.turned (t':=s''.toks) (λb o hb e=>(hh.2 b hb).trans e) nC c1 c3 c4 c5;exact⟨_,_,I8,k D' f.1⟩
end
inductive Dt where
 |non|bl (b:Bool)|int (i:Int)|str (x:Str)|tup (xs:List Dt)|lst (xs:List Dt)|dct
mutual
def Den(P:ai->Prop)(H:Hp):Dt->V->Prop
 |.non,v=>v=.non
 |.bl b,v=>v=.bl b
 |.int i,v=>v=.int i
 |.str x,v=>v=.str x
 |.tup ds,v=>∃a vs,v=.ref a/\H a=some (.tup vs)/\Ci P H ds vs
 |.lst ds,v=>∃a vs,v=.ref a/\P a/\H a=some (.lst vs)/\Ci P H ds vs
 |.dct,v=>∃a,v=.ref a/\P a/\H a=some (.dK [])
def Ci(P:ai->Prop)(H:Hp):List Dt->Ic->Prop
 |[],vs=>vs=[]
 |d::ds,vs=>∃v r,vs=v::r/\Den P H d v/\Ci P H ds r
end
theorem Ci.length{P:ai->Prop}{H:Hp}:∀{ds:List Dt}{vs:Ic},Ci P H ds vs->vs.length=ds.length
 |[],vs,h=>by rw[Ci]at h;rw[h];rfl
 |d::ds,vs,h=>by rw[Ci]at h;obtain⟨v,r,rfl,_,h2⟩:=h;simp[Ci.length h2]
theorem Ci.get{P:ai->Prop}{H:Hp}:∀{ds:List Dt}{vs:Ic}{i:Nat}{v:V},Ci P H ds vs->vs[i]?=some v->∃d,ds[i]?=some d/\Den P H d v
 |[],vs,i,v,h,e=>by rw[Ci]at h;rw[h]at e;simp at e
 |d::ds,vs,i,v,h,e=>by
  rw[Ci]at h;obtain⟨w,r,rfl,h1,h2⟩:=h
  cases i with
  |zero=>simp at e;subst e;exact⟨d,rfl,h1⟩
  |succ i=>simp at e;exact Ci.get (i:=i) h2 e
theorem Ci.nil{P:ai->Prop}{H:Hp}:Ci P H [] []:=by rw[Ci]
theorem Ci.cons{P:ai->Prop}{H:Hp}{d:Dt}{v:V}{ds:List Dt}{vs:Ic}(h:Den P H d v)(t:Ci P H ds vs):Ci P H (d::ds) (v::vs):=by rw[Ci];exact⟨v,vs,rfl,h,t⟩
mutual
def bU:Dt->Dt->Bool
 |.non,.non=>true
 |.bl a,.bl b=>a==b
 |.bl a,.int j=>(if a then 1 else 0)==j
 |.int i,.bl b=>i==(if b then 1 else 0)
 |.int i,.int j=>i==j
 |.str x,.str y=>x==y
 |.tup xs,.tup ys=>fX xs ys
 |.lst xs,.lst ys=>fX xs ys
 |_,_=>false
def fX:List Dt->List Dt->Bool
 |[],[]=>true
 |x::xs,y::ys=>bU x y&&fX xs ys
 |_,_=>false
end
mutual
def fT:Dt->Nat
 |.tup xs=>mX xs+1
 |.lst xs=>mX xs+1
 |_=>0
def mX:List Dt->Nat
 |[]=>0
 |x::xs=>max (fT x) (mX xs)
end
mutual
def nod:Dt->Bool
 |.tup xs=>kY xs
 |.lst xs=>kY xs
 |.dct=>false
 |_=>true
def kY:List Dt->Bool
 |[]=>true
 |x::xs=>nod x&&kY xs
end
mutual
theorem BU:∀d:Dt,nod d=true->bU d d=true
 |.non,_=>rfl
 |.bl b,_=>by simp[bU]
 |.int i,_=>by simp[bU]
 |.str x,_=>by simp[bU]
 |.tup xs,h=>by rw[bU];exact BV xs (by rw[nod]at h;exact h)
 |.lst xs,h=>by rw[bU];exact BV xs (by rw[nod]at h;exact h)
 |.dct,h=>by simp[nod]at h
theorem BV:∀l:List Dt,kY l=true->fX l l=true
 |[],_=>rfl
 |x::xs,h=>by rw[kY,fg]at h;rw[fX,BU x h.1,BV xs h.2];rfl
end
theorem JL:∀{l:List Dt}{d:Dt},d∈l->fT d<=mX l
 |x::xs,d,h=>by
  rw[mX]
  rcases bc.mp h with rfl|h
  ·lia
  ·have:=JL h;lia
theorem BW:∀{l:List Dt}{d:Dt},kY l=true->d∈l->nod d=true
 |x::xs,d,h,hd=>by
  rw[kY,fg]at h
  rcases bc.mp hd with rfl|hd
  ·exact h.1
  ·exact BW h.2 hd
theorem tU:∀{xs ys:List Dt},xs.length=ys.length->fX xs ys=(az xs.length).all λi=>bU (xs.getD i .non) (ys.getD i .non)
 |[],[],_=>rfl
 |x::xs,y::ys,h=>by rw[fX,tU (xs:=xs) (ys:=ys) (by simpa using h),cm,Ae,List.all_cons,List.all_map];rfl
theorem tV:∀{xs ys:List Dt},xs.length≠ys.length->fX xs ys=false
 |[],[],h=>absurd rfl h
 |[],_::_,_=>rfl
 |_::_,[],_=>rfl
 |x::xs,y::ys,h=>by rw[fX,tV (xs:=xs) (ys:=ys) (by simpa using h),uz]
mutual
theorem Den.inj{P:ai->Prop}{H:Hp}:∀(d d':Dt)(v:V),Den P H d v->Den P H d' v->d=d'
 |.non,d',v,h,h'=>by
  rw[Den]at h;subst h
  cases d'<;>rw[Den]at h'<;>first|rfl|(obtain⟨_,_,e,_⟩:=h';cases e;done)|(obtain⟨_,e,_⟩:=h';cases e;done)|(cases h';done)
 |.bl b,d',v,h,h'=>by
  rw[Den]at h;subst h
  cases d'<;>rw[Den]at h'<;>first|(obtain⟨_,_,e,_⟩:=h';cases e;done)|(obtain⟨_,e,_⟩:=h';cases e;done)|(cases h';done)|(cases h';rfl)
 |.int b,d',v,h,h'=>by
  rw[Den]at h;subst h
  cases d'<;>rw[Den]at h'<;>first|(obtain⟨_,_,e,_⟩:=h';cases e;done)|(obtain⟨_,e,_⟩:=h';cases e;done)|(cases h';done)|(cases h';rfl)
 |.str b,d',v,h,h'=>by
  rw[Den]at h;subst h
  cases d'<;>rw[Den]at h'<;>first|(obtain⟨_,_,e,_⟩:=h';cases e;done)|(obtain⟨_,e,_⟩:=h';cases e;done)|(cases h';done)|(cases h';rfl)
 |.tup ds,d',v,h,h'=>by
  rw[Den]at h;obtain⟨a,vs,rfl,h1,h2⟩:=h
  cases d'<;>rw[Den]at h'<;>first|(cases h';done)|(obtain⟨_,_,e,_,q,_⟩:=h';cases e;rw[h1]at q;cases q;done)|(obtain⟨_,e,_,q⟩:=h';cases e;rw[h1]at q;cases q;done)|(obtain⟨_,_,e,q,g⟩:=h';cases e;rw[h1]at q;cases q;rw[Ci.inj ds _ vs h2 g])
 |.lst ds,d',v,h,h'=>by
  rw[Den]at h;obtain⟨a,vs,rfl,_,h1,h2⟩:=h
  cases d'<;>rw[Den]at h'<;>first|(cases h';done)|(obtain⟨_,_,e,q,_⟩:=h';cases e;rw[h1]at q;cases q;done)|(obtain⟨_,e,_,q⟩:=h';cases e;rw[h1]at q;cases q;done)|(obtain⟨_,_,e,_,q,g⟩:=h';cases e;rw[h1]at q;cases q;rw[Ci.inj ds _ vs h2 g])
 |.dct,d',v,h,h'=>by
  rw[Den]at h;obtain⟨a,rfl,_,h1⟩:=h
  cases d'<;>rw[Den]at h'<;>first|rfl|(cases h';done)|(obtain⟨_,_,e,q,_⟩:=h';cases e;rw[h1]at q;cases q;done)|(obtain⟨_,_,e,_,q,_⟩:=h';cases e;rw[h1]at q;cases q;done)
theorem Ci.inj{P:ai->Prop}{H:Hp}:∀(ds Dx:List Dt)(vs:Ic),Ci P H ds vs->Ci P H Dx vs->ds=Dx
 |[],Dx,vs,h,h'=>by
  rw[Ci]at h;subst h
  cases Dx with
  |nil=>rfl
  |cons d Dx=>rw[Ci]at h';obtain⟨_,_,e,_⟩:=h';cases e
 |d::ds,Dx,vs,h,h'=>by
  rw[Ci]at h;obtain⟨v,r,rfl,h1,h2⟩:=h
  cases Dx with
  |nil=>rw[Ci]at h';cases h'
  |cons d' Dx=>rw[Ci]at h';obtain⟨v',r',e,h1',h2'⟩:=h';cases e;rw[Den.inj d d' v h1 h1',Ci.inj ds Dx r h2 h2']
end
section
variable{Pg:bj}{w:cb}{P:ai->Prop}{H:Hp}{s:ag}
theorem VT(hok:Dn Pg w H s.heap){a:ai}{vs:Ic}(e:H a=some (.tup vs)):∃its:List af,Cc vs its/\s.heap.IsTuple a its.toArray:=by
 obtain⟨_,its,r,p⟩:=(show Ce Pg w H s.heap a (.tup vs) from hok a _ e)
 exact⟨its,r,p.tup⟩
theorem VU(hok:Dn Pg w H s.heap){a:ai}{vs:Ic}(e:H a=some (.lst vs)):∃its:List af,Cc vs its/\s.heap.IsList a its.toArray:=by
 obtain⟨_,its,n,r,p⟩:=(show Ce Pg w H s.heap a (.lst vs) from hok a _ e)
 exact⟨its,r,_,p,rfl,n,rfl⟩
theorem JM{vs:Ic}{its:List af}(r:Cc vs its){j:Nat}(h:j<its.toArray.size):∃v,vs[j]?=some v/\RelV v its.toArray[j]:=by
 have hl:=r.length;have h':j<its.length:=by simpa using h
 have hv:j<vs.length:=by lia
 obtain⟨u,e,q⟩:=r.get (i:=j) (x:=vs[j]) (bo hv);refine⟨vs[j],bo hv,?_⟩;have:its.toArray[j]=u:=by have:its[j]?=some its[j]:=bo h';rw[this]at e;simpa using e
 rw[this];exact q
inductive Vw(P:ai->Prop)(H:Hp)(s:ag):Dt->af->Prop
 |non:Vw P H s .non .none
 |bl {b:Bool}:Vw P H s (.bl b) (.bool b)
 |int {i:Int}{t:Tok}:Vw P H s (.int i) (.int i t)
 |str {x:Str}{t:Tok}:Vw P H s (.str x) (.str x t)
 |tup {ds:List Dt}{a:ai}{vs:Ic}{its:List af}(e:H a=some (.tup vs)) (g:Ci P H ds vs) (q:Cc vs its) (tp:s.heap.IsTuple a its.toArray):Vw P H s (.tup ds) (.ref a)
 |lst {ds:List Dt}{a:ai}{vs:Ic}{its:List af}(e:H a=some (.lst vs)) (g:Ci P H ds vs) (q:Cc vs its) (tp:s.heap.IsList a its.toArray):Vw P H s (.lst ds) (.ref a)
theorem vw(hok:Dn Pg w H s.heap){d:Dt}{v:V}{u:af}(n:nod d=true)(h:Den P H d v)(r:RelV v u):Vw P H s d u:=by
 cases d<;>rw[Den]at h
 case tup=>obtain⟨a,vs,rfl,e,g⟩:=h;cases r;obtain⟨its,q,tp⟩:=VT hok e;exact .tup e g q tp
 case lst=>obtain⟨a,vs,rfl,_,e,g⟩:=h;cases r;obtain⟨its,q,tp⟩:=VU hok e;exact .lst e g q tp
 case dct=>simp[nod]at n
 all_goals subst h
 case int=>obtain⟨t,rfl⟩:=r;exact .int
 case str=>obtain⟨t,rfl⟩:=r;exact .str
 all_goals cases r;constructor
theorem wY(hok:Dn Pg w H s.heap){A:bx}{n:Nat}(ih:∀(d d':Dt)(u u':af),fT d<=n->nod d=true->nod d'=true->Vw P H s d u->Vw P H s d' u'->lr A s u u' (bU d d')){vs Dr:Ic}{ds Dx:List Dt}{its its':List af}(hd:mX ds<=n)(m1:kY ds=true)(m2:kY Dx=true)(g:Ci P H ds vs)(g':Ci P H Dx Dr)(q:Cc vs its)(q':Cc Dr its')(j:Nat)(h1:j<its.toArray.size)(h2:j<its'.toArray.size):lr A s its.toArray[j] its'.toArray[j] (bU (ds.getD j .non) (Dx.getD j .non)):=by
 obtain⟨x,ex,rx⟩:=JM q h1;obtain⟨x',ex',rx'⟩:=JM q' h2;obtain⟨dx,edx,gx⟩:=g.get ex;obtain⟨dx',edx',gx'⟩:=g'.get ex';have e1:ds.getD j .non=dx:=by simp[pw,edx]
 have e2:Dx.getD j .non=dx':=by simp[pw,edx']
 rw[e1,e2];have hm:=cx edx;have k1:=BW m1 hm;have k2:=BW m2 (cx edx');exact ih dx dx' _ _ (df (JL hm) hd) k1 k2 (vw hok k1 gx rx) (vw hok k2 gx' rx')
theorem JN(hok:Dn Pg w H s.heap)(n:Nat)(ih:∀m,m+1=n->∀(A:bx)(d d':Dt)(u u':af),fT d<=m->A.units+m+1<cLine->nod d=true->nod d'=true->Vw P H s d u->Vw P H s d' u'->ud A s u u' (bU d d')/\lr A s u u' (bU d d'))(A:bx)(d d':Dt)(u u':af)(hn:fT d<=n)(hu:A.units+n+1<cLine)(n1:nod d=true)(n2:nod d'=true)(h:Vw P H s d u)(h':Vw P H s d' u'):ud A s u u' (bU d d')/\lr A s u u' (bU d d'):=by
 have Cs:A.units<cLine:=by lia
 have ok:∀{a1 a2:ai}{b:Bool},(ud A s (.ref a1) (.ref a2) b)->(a1=a2->b=true)->ud A s (.ref a1) (.ref a2) b/\lr A s (.ref a1) (.ref a2) b:=λ{a1 a2 b}key z=>⟨key,by
  by_cases Ez:a1=a2
  ·rw[z Ez,Ez];exact .same _
  ·exact .of_refs Ez key⟩
 have Dm:1<=n->∀(d d':Dt)(u u':af),fT d<=n-1->nod d=true->nod d'=true->Vw P H s d u->Vw P H s d' u'->lr A.in1 s u u' (bU d d'):=λhd d d' u u' a b c e f=>(ih (n-1) (by lia) A.in1 d d' u u' a (by show A.units+1+(n-1)+1<cLine;lia) b c e f).2
 cases h<;>cases h'
 case tup.tup ds a1 vs1 its1 e1 g1 q1 tp1 Dx a2 vs2 El e2 g2 q2 tp2=>
  rw[nod]at n1 n2;rw[fT]at hn;have hl1:=g1.length;have hl2:=g2.length;have hq1:=q1.length;have hq2:=q2.length;refine ok ?_ λEz=>?_
  ·rw[bU];have z:=SeqAt.RcAt.tuples (e:=λj=>bU (ds.getD j .non) (Dx.getD j .non)) tp1 tp2 Cs (wY hok (Dm (by lia)) (by lia) n1 n2 g1 g2 q1 q2);have s1:its1.toArray.size=ds.length:=by simp;lia
   have s2:El.toArray.size=Dx.length:=by simp;lia
   rw[s1,s2]at z
   by_cases hlen:ds.length=Dx.length
   ·rw[tU hlen];rw[<-hlen,Nat.min_self]at z;simpa using z
   ·rw[tV hlen];rw[show(ds.length==Dx.length)=false from beq_eq_false_iff_ne.mpr hlen,uz]at z;exact z
  ·subst Ez;rw[e1]at e2;cases e2;rw[Ci.inj ds Dx _ g1 g2,BU _ (by rw[nod];exact n2)]
 case lst.lst ds a1 vs1 its1 e1 g1 q1 tp1 Dx a2 vs2 El e2 g2 q2 tp2=>
  rw[nod]at n1 n2;rw[fT]at hn;have hl1:=g1.length;have hl2:=g2.length;have hq1:=q1.length;have hq2:=q2.length;refine ok ?_ λEz=>?_
  ·rw[bU]
   by_cases hlen:ds.length=Dx.length
   ·have z:=SeqAt.RcAt.lists (e:=λj=>bU (ds.getD j .non) (Dx.getD j .non)) tp1 tp2 (by simp;lia) Cs (wY hok (Dm (by lia)) (by lia) n1 n2 g1 g2 q1 q2);rw[tU hlen];simpa[hq1.symm,hl1]using z
   ·rw[tV hlen];exact SeqAt.RcAt.lists_lengths tp1 tp2 (by simp;lia) Cs
  ·subst Ez;rw[e1]at e2;cases e2;rw[Ci.inj ds Dx _ g1 g2,BU _ (by rw[nod];exact n2)]
 case non.non=>exact⟨.none_none,.same _⟩
 case non.bl=>exact⟨.none_bool _,.none_bool _⟩
 case non.int=>exact⟨.none_int _ _,.none_int _ _⟩
 case non.str=>exact⟨.none_str _ _,.none_str _ _⟩
 case non.tup=>exact⟨.none_tuple ‹_› Cs,.none_tuple ‹_› Cs⟩
 case non.lst=>exact⟨.none_list ‹_› Cs,.none_list ‹_› Cs⟩
 case bl.non=>exact⟨.bool_none _,.bool_none _⟩
 case bl.bl=>exact⟨.bool_bool _ _,.bool_bool _ _⟩
 case bl.int=>exact⟨.bool_int _ _ _,.bool_int _ _ _⟩
 case bl.str=>exact⟨.bool_str _ _ _,.bool_str _ _ _⟩
 case bl.tup=>exact⟨.bool_tuple _ ‹_› Cs,.bool_tuple _ ‹_› Cs⟩
 case bl.lst=>exact⟨.bool_list _ ‹_› Cs,.bool_list _ ‹_› Cs⟩
 case int.non=>exact⟨.int_none _ _,.int_none _ _⟩
 case int.bl=>exact⟨.int_bool _ _ _,.int_bool _ _ _⟩
 case int.int=>exact⟨.int_int _ _ _ _,.int_int _ _ _ _⟩
 case int.str=>exact⟨.int_str _ _ _ _,.int_str _ _ _ _⟩
 case int.tup=>exact⟨.int_tuple _ _ ‹_› Cs,.int_tuple _ _ ‹_› Cs⟩
 case int.lst=>exact⟨.int_list _ _ ‹_› Cs,.int_list _ _ ‹_› Cs⟩
 case str.non=>exact⟨.str_none _ _,.str_none _ _⟩
 case str.bl=>exact⟨.str_bool _ _ _,.str_bool _ _ _⟩
 case str.int=>exact⟨.str_int _ _ _ _,.str_int _ _ _ _⟩
 case str.str=>exact⟨.str_str _ _ _ _,.str_str _ _ _ _⟩
 case str.tup=>exact⟨.str_tuple _ _ ‹_› Cs,.str_tuple _ _ ‹_› Cs⟩
 case str.lst=>exact⟨.str_list _ _ ‹_› Cs,.str_list _ _ ‹_› Cs⟩
 case tup.non=>exact⟨.tuple_none ‹_› Cs,.tuple_none ‹_› Cs⟩
 case tup.bl=>exact⟨.tuple_bool _ ‹_› Cs,.tuple_bool _ ‹_› Cs⟩
 case tup.int=>exact⟨.tuple_int _ _ ‹_› Cs,.tuple_int _ _ ‹_› Cs⟩
 case tup.str=>exact⟨.tuple_str _ _ ‹_› Cs,.tuple_str _ _ ‹_› Cs⟩
 case tup.lst=>exact⟨.tuple_list ‹_› ‹_› Cs,.tuple_list ‹_› ‹_› Cs⟩
 case lst.non=>exact⟨.list_none ‹_› Cs,.list_none ‹_› Cs⟩
 case lst.bl=>exact⟨.list_bool _ ‹_› Cs,.list_bool _ ‹_› Cs⟩
 case lst.int=>exact⟨.list_int _ _ ‹_› Cs,.list_int _ _ ‹_› Cs⟩
 case lst.str=>exact⟨.list_str _ _ ‹_› Cs,.list_str _ _ ‹_› Cs⟩
 case lst.tup=>exact⟨.list_tuple ‹_› ‹_› Cs,.list_tuple ‹_› ‹_› Cs⟩
theorem BX(hok:Dn Pg w H s.heap):∀(n:Nat)(A:bx)(d d':Dt)(u u':af),fT d<=n->A.units+n+1<cLine->nod d=true->nod d'=true->Vw P H s d u->Vw P H s d' u'->ud A s u u' (bU d d')/\lr A s u u' (bU d d')
 |0=>JN hok 0 λ_ e=>by cases e
 |n+1=>JN hok _ λm e=>by cases e;exact BX hok n
theorem JO(hok:Dn Pg w H s.heap)(n:Nat)(A:bx)(d d':Dt)(v v':V)(u u':af)(a:fT d<=n)(b:A.units+n+1<cLine)(n1:nod d=true)(n2:nod d'=true)(h:Den P H d v)(h':Den P H d' v')(r:RelV v u)(r':RelV v' u'):
  ud A s u u' (bU d d')/\lr A s u u' (bU d d'):=BX hok n A d d' u u' a b n1 n2 (vw hok n1 h r) (vw hok n2 h' r')
end
end L2
open L2.Dt renaming int->Hv
namespace L2.Mr
inductive Dv where
 |non|bl (b:Bool)|int (i:Int)|str (x:Str)|tup (xs:List Dv)|ref (i:Nat)|edc|exc (c:Nat)|scr
inductive Ob where
 |lst (xs:List Dv)
 |clo (k t:Nat)
 |dct (ks:wt ⊕ wo)
abbrev Hs:=List Ob
abbrev Ev:=List (Option Dv)
inductive Rs(α:Type) where
 |ok (a:α) (h:Hs)|ex (c:Nat) (h:Hs)|bad
abbrev Bs:=List Dv->Hs->Rs Dv
abbrev Bt:=List Dv
abbrev Bu:=Option Dv
noncomputable def Rs.bind {α β:Type}(r:Rs α) (f:α->Hs->Rs β):Rs β:=match r with
 |.ok a h=>f a h
 |.ex c h=>.ex c h
 |.bad=>.bad
@[simp] theorem Rs.bind_ok {α β:Type}(a:α) (h:Hs) (f:α->Hs->Rs β):(Rs.ok a h).bind f=f a h:=rfl
@[simp] theorem Rs.bind_ex {α β:Type}(c:Nat) (h:Hs) (f:α->Hs->Rs β):(Rs.ex c h).bind f=.ex c h:=rfl
@[simp] theorem Rs.bind_bad {α β:Type}(f:α->Hs->Rs β):(Rs.bad).bind f=.bad:=rfl
abbrev M(α:Type):=Ev->Hs->Rs α
structure Cf0 where
 K:ar
 cl:Nat->ai
 scr:y'
 sa:ai
 tabs:ai->Option Str:=λ_=>none
 lq:Str:=Str.empty
def fF(C:af)(e T:ai)(a0:af)(h:cq):Prop:=∃oe vs,h.get? e=some oe/\oe.cls=C/\oe.data=.fields vs/\vs[0]?=some a0/\vs[1]?=some (.ref T)/\oe.dict=none
inductive FlyE(G:Cf0)(H:Hp)(c:Nat)(u:af):Prop
 |mk (e:_) (φ:_) (h0:u=.ref e) (h1:H e=some (.ext φ)) (h2:∀h,φ h->∃o,h.get? e=some o/\o.cls=.ref (G.cl c)):FlyE G H c u
def BY:HO->Prop
 |.tup _=>True
 |.dK kvs=>kvs=[]
 |.frz _ _=>True
 |_=>False
def FzL(K:ar)(H:Hp)(a:ai)(xs:Ic):Prop:=(∃o,H a=some (.frz o (.lst xs))) ∨
  ∃(o:Obj)(its:Array af)(n:Nat),K.lookup a=some o/\o.cls=.type "list"/\o.dict=none/\o.data=.seq its n/\its.size<=cp/\Cc xs its.toList
theorem FzL.sq{K:ar}{H:Hp}{a:ai}{xs:Ic}(h:FzL K H a xs):Dj K H a xs:=by
 rcases h with⟨o,h⟩|h
 ·exact .inl (.inr ⟨o,h⟩)
 ·exact .inr h
theorem FzL.keep{K:ar}{H H':Hp}{a:ai}{xs:Ic}(h:FzL K H a xs)(k:∀a o,BY o->H a=some o->H' a=some o):FzL K H' a xs:=by
 rcases h with⟨o,h⟩|h
 ·exact .inl ⟨o,k a _ trivial h⟩
 ·exact .inr h
mutual
def Ca(G:Cf0)(μ:Nat->ai)(n:Nat)(H:Hp):Dv->V->Prop
 |.non,v=>v=.non
 |.bl b,v=>v=.bl b
 |.int i,v=>v=.int i
 |.str x,v=>v=.str x
 |.tup ds,v=>∃a vs,v=.ref a/\H a=some (.tup vs)/\RelDL G μ n H ds vs
 |.ref i,v=>i<n/\v=.ref (μ i)
 |.edc,v=>∃a,v=.ref a/\H a=some (.dK [])
 |.exc c,v=>∃a o u,v=.ref a/\H a=some (.frz o u)/\o.cls=.ref (G.cl c)/\o.dict=none/\∃vs,o.data=.fields vs
 |.scr,v=>v=.ref G.sa/\FzL G.K H G.sa (G.scr.map Hi)
def RelDL(G:Cf0)(μ:Nat->ai)(n:Nat)(H:Hp):Bt->Ic->Prop
 |[],vs=>vs=[]
 |d::ds,vs=>∃v r,vs=v::r/\Ca G μ n H d v/\RelDL G μ n H ds r
end
structure Ext(μ:Nat->ai)(n:Nat)(H:Hp)(μ':Nat->ai)(n':Nat)(H':Hp):Prop where
 le:n<=n'
 mu:∀i,i<n->μ' i=μ i
 im:∀a o,BY o->H a=some o->H' a=some o
theorem Ext.refl{μ:Nat->ai}{n:Nat}{H:Hp}:Ext μ n H μ n H:=⟨ao _,λ_ _=>rfl,λ_ _ _ e=>e⟩
theorem Ext.trans{μ μ1 μ2:Nat->ai}{n n1 n2:Nat}{H H1 H2:Hp}(a:Ext μ n H μ1 n1 H1)(b:Ext μ1 n1 H1 μ2 n2 H2):Ext μ n H μ2 n2 H2:=⟨df a.le b.le,λi hi=>(b.mu i (av hi a.le)).trans (a.mu i hi),λc o i e=>b.im c o i (a.im c o i e)⟩
structure Cfg extends Cf0 where
 clo:(Nat->ai)->Nat->Hp->Nat->Nat->ai->Prop:=λ_ _ _ _ _ _=>True
 cloM:∀{μ μ':Nat->ai}{n n':Nat}{H H':Hp}{k t:Nat}{a:ai},Ext μ n H μ' n' H'->clo μ n H k t a->clo μ' n' H' k t a:=by intros;trivial
instance:Coe Cfg Cf0:=⟨Cfg.toCf0⟩
section
variable{G:Cf0}{μ μ':Nat->ai}{n n':Nat}{H H':Hp}
mutual
theorem Ca.mono(x:Ext μ n H μ' n' H'):∀(d:Dv)(v:V),Ca G μ n H d v->Ca G μ' n' H' d v
 |.non,v,h=>h
 |.bl b,v,h=>h
 |.int i,v,h=>h
 |.str s,v,h=>h
 |.tup ds,v,h=>by obtain⟨a,vs,e,h1,h2⟩:=h;exact⟨a,vs,e,x.im a _ trivial h1,RelDL.mono x ds vs h2⟩
 |.ref i,v,h=>by obtain⟨h1,h2⟩:=h;exact⟨av h1 x.le,by rw[x.mu i h1];exact h2⟩
 |.edc,v,h=>by obtain⟨a,e,h1⟩:=h;exact⟨a,e,x.im a _ rfl h1⟩
 |.exc c,v,h=>by obtain⟨a,o,u,e,h1,h2⟩:=h;exact⟨a,o,u,e,x.im a _ trivial h1,h2⟩
 |.scr,v,h=>by obtain⟨h1,h2⟩:=h;exact⟨h1,h2.keep x.im⟩
theorem RelDL.mono(x:Ext μ n H μ' n' H'):∀(ds:Bt)(vs:Ic),RelDL G μ n H ds vs->RelDL G μ' n' H' ds vs
 |[],vs,h=>h
 |d::ds,vs,h=>by obtain⟨v,r,e,h1,h2⟩:=h;exact⟨v,r,e,Ca.mono x d v h1,RelDL.mono x ds r h2⟩
end
theorem RelDL.length:∀{ds:Bt}{vs:Ic},RelDL G μ n H ds vs->vs.length=ds.length
 |[],_,h=>by rw[RelDL]at h;subst h;rfl
 |d::ds,_,h=>by rw[RelDL]at h;obtain⟨v,r,rfl,_,h2⟩:=h;rw[cm,cm,RelDL.length h2]
theorem RelDL.get:∀{ds:Bt}{vs:Ic}{i:Nat}{d:Dv},RelDL G μ n H ds vs->ds[i]?=some d->∃v,vs[i]?=some v/\Ca G μ n H d v
 |[],_,_,_,_,e=>by simp at e
 |d::ds,_,0,d',h,e=>by rw[RelDL]at h;obtain⟨v,r,rfl,h1,_⟩:=h;simp at e;subst e;exact⟨v,rfl,h1⟩
 |d::ds,_,i+1,d',h,e=>by rw[RelDL]at h;obtain⟨v,r,rfl,_,h2⟩:=h;obtain⟨u,e1,h3⟩:=RelDL.get (i:=i) h2 (by simpa using e);exact⟨u,by simpa using e1,h3⟩
theorem RelDL.nil:RelDL G μ n H [] []:=by rw[RelDL]
theorem RelDL.cons{d:Dv}{v:V}{ds:Bt}{vs:Ic}(h:Ca G μ n H d v)(t:RelDL G μ n H ds vs):RelDL G μ n H (d::ds) (v::vs):=by rw[RelDL];exact⟨v,vs,rfl,h,t⟩
theorem RelDL.append:∀{ds es:Bt}{vs ws:Ic},RelDL G μ n H ds vs->RelDL G μ n H es ws->RelDL G μ n H (ds++es) (vs++ws)
 |[],_,_,_,h,h'=>by rw[RelDL]at h;subst h;exact h'
 |d::ds,_,_,_,h,h'=>by rw[RelDL]at h;obtain⟨v,r,rfl,h1,h2⟩:=h;exact RelDL.cons h1 (RelDL.append h2 h')
theorem RelDL.take:∀{ds:Bt}{vs:Ic}(k:Nat),RelDL G μ n H ds vs->RelDL G μ n H (ds.take k) (vs.take k)
 |[],_,k,h=>by rw[RelDL]at h;subst h;simp[RelDL.nil]
 |d::ds,_,0,h=>by simp[RelDL.nil]
 |d::ds,_,k+1,h=>by rw[RelDL]at h;obtain⟨v,r,rfl,h1,h2⟩:=h;exact RelDL.cons h1 (RelDL.take k h2)
theorem RelDL.drop:∀{ds:Bt}{vs:Ic}(k:Nat),RelDL G μ n H ds vs->RelDL G μ n H (ds.drop k) (vs.drop k)
 |[],_,k,h=>by rw[RelDL]at h;subst h;simp[RelDL.nil]
 |d::ds,_,0,h=>h
 |d::ds,_,k+1,h=>by rw[RelDL]at h;obtain⟨v,r,rfl,h1,h2⟩:=h;exact RelDL.drop k h2
theorem RelDL.set{x:Dv}{u:V}(hx:Ca G μ n H x u):∀{ds:Bt}{vs:Ic}(i:Nat),RelDL G μ n H ds vs->RelDL G μ n H (ds.set i x) (vs.set i u)
 |[],_,_,h=>by rw[RelDL]at h;subst h;exact RelDL.nil
 |d::ds,_,0,h=>by rw[RelDL]at h;obtain⟨v,r,rfl,h1,h2⟩:=h;exact RelDL.cons hx h2
 |d::ds,_,i+1,h=>by rw[RelDL]at h;obtain⟨v,r,rfl,h1,h2⟩:=h;exact RelDL.cons h1 (RelDL.set hx i h2)
end
def VV(ks:wt):List (List eK×V):=ks.map λk=>(k.map ui,.bl true)
def pH(kvs:wo):List (eK×V):=kvs.map λp=>(ui p.1,.int p.2)
def dO:wt ⊕ wo->HO
 |.inl ks=>.dT (VV ks)
 |.inr []=>.dT []
 |.inr (p::kvs)=>.dK (pH (p::kvs))
theorem rD:∀d,(∃l,dO d=.dT l)∨∃l,dO d=.dK l/\l≠[]
 |.inl ks=>.inl ⟨_,rfl⟩
 |.inr []=>.inl ⟨_,rfl⟩
 |.inr (p::kvs)=>.inr ⟨_,rfl,by simp[pH]⟩
def ObR(G:Cfg)(μ:Nat->ai)(n:Nat)(H:Hp)(a:ai):Ob->Prop
 |.lst xs=>∃vs,H a=some (.lst vs)/\RelDL G μ n H xs vs
 |.clo k t=>t<n/\(∃o u,H a=some (.frz o u))/\G.clo μ n H k t a
 |.dct ks=>H a=some (dO ks)
theorem ObR.clo{G:Cfg}{μ μ':Nat->ai}{n n':Nat}{H H':Hp}{a:ai}{k t:Nat}(r:ObR G μ n H a (.clo k t))(x:Ext μ n H μ' n' H'):ObR G μ' n' H' a (.clo k t):=by obtain⟨h1,⟨o,u,h2⟩,h3⟩:=r;exact⟨av h1 x.le,⟨o,u,x.im _ _ trivial h2⟩,G.cloM x h3⟩
inductive Fh(q:Str)(oc:Obj):Prop
 |mk (vs:_) (t:_) (h0:oc.data=.fields vs) (h1:vs[1]?=some (.str q t)):Fh q oc
def Es(G:Cf0)(H:Hp):Prop:=∀P lq,G.tabs P=some lq->∃ps,H P=some (.tbl ps)/\wu ps.toList/\∀pos cv,codeAmong pos ps.toList=some cv->∃q oc,cv=.ref q/\H q=some (.frz oc (.own 0))/\Fh lq oc
theorem Es.keep{G:Cf0}{H H':Hp}(t:Es G H)(k:∀a o,(∀xs,o≠.lst xs)->(∀φ,o≠.ext φ)->H a=some o->H' a=some o):Es G H':=λP lq e=>by obtain⟨ps,h1,h2,h3⟩:=t P lq e;refine⟨ps,k P _ (λ_ z=>by cases z) (λ_ z=>by cases z) h1,h2,λpos cv q=>?_⟩;obtain⟨a,oc,e1,e2,e3⟩:=h3 pos cv q;exact⟨a,oc,e1,k a _ (λ_ z=>by cases z) (λ_ z=>by cases z) e2,e3⟩
structure Cm(G:Cfg)(μ:Nat->ai)(h:Hs)(H:Hp):Prop where
 inj:∀i j,i<h.length->j<h.length->μ i=μ j->i=j
 ob:∀(i:Nat)(o:Ob),h[i]?=some o->ObR G μ h.length H (μ i) o
 tab:Es G H
structure Cj(G:Cfg)(μ:Nat->ai)(n:Nat)(H:Hp)(ρ:Ev)(σ:St):Prop where
 len:ρ.length=σ.length
 at_:∀(i:Nat)(d:Dv),ρ[i]?=some (some d)->∃v,σ[i]?=some (some v)/\Ca G μ n H d v
theorem Cj.mono{G:Cfg}{μ μ':Nat->ai}{n n':Nat}{H H':Hp}{ρ:Ev}{σ:St}(r:Cj G μ n H ρ σ)(x:Ext μ n H μ' n' H'):Cj G μ' n' H' ρ σ:=⟨r.len,λi d e=>let ⟨v,e1,h⟩:=r.at_ i d e;⟨v,e1,Ca.mono x d v h⟩⟩
def Out{α β:Type}(G:Cfg)(E:XK)(μ:Nat->ai)(n:Nat)(H:Hp)(r:Rs α)(R:(Nat->ai)->Nat->Hp->α->β->Prop)(Q:β->Hp->Prop):Prop:=
 match r with
 |.ok d h'=>∀μ' H' v,Ext μ n H μ' h'.length H'->Cm G μ' h' H'->R μ' h'.length H' d v->Q v H'
 |.ex c h'=>∀μ' H' u,Ext μ n H μ' h'.length H'->Cm G μ' h' H'->FlyE G H' c u->E u none H'
 |.bad=>False
theorem Out.bind{α β γ δ:Type}{G:Cfg}{E:XK}{μ:Nat->ai}{n:Nat}{H:Hp}{r:Rs α}{f:α->Hs->Rs γ}{R:(Nat->ai)->Nat->Hp->γ->δ->Prop}{Q:δ->Hp->Prop}{R1:(Nat->ai)->Nat->Hp->α->β->Prop}(o:Out G E μ n H (r.bind f) R Q):Out G E μ n H r R1 λv H1=>∃μ1 d h1,Ext μ n H μ1 h1.length H1/\Cm G μ1 h1 H1/\R1 μ1 h1.length H1 d v/\Out G E μ1 h1.length H1 (f d h1) R Q:=by
 cases r with
 |bad=>exact o
 |ex c h'=>exact o
 |ok d h'=>
  intro μ1 H1 v x1 s1 r1;refine⟨μ1,d,h',x1,s1,r1,?_⟩;have o':Out G E μ n H (f d h') R Q:=o
  cases e:f d h' with
  |bad=>rw[e]at o';exact o'
  |ex c h2=>rw[e]at o';exact λμ2 H2 u x2 s2 r2=>o' μ2 H2 u (x1.trans x2) s2 r2
  |ok d2 h2=>rw[e]at o';exact λμ2 H2 u x2 s2 r2=>o' μ2 H2 u (x1.trans x2) s2 r2
theorem Out.mono{α β:Type}{G:Cfg}{E:XK}{μ:Nat->ai}{n:Nat}{H:Hp}{r:Rs α}{R:(Nat->ai)->Nat->Hp->α->β->Prop}{Q Q':β->Hp->Prop}(o:Out G E μ n H r R Q)(h:∀v H',Q v H'->Q' v H'):Out G E μ n H r R Q':=by
 cases r with
 |bad=>exact o
 |ex c h'=>exact o
 |ok d h'=>exact λμ' H' v x s r=>h _ _ (o μ' H' v x s r)
abbrev RB:(Nat->ai)->Nat->Hp->Bool->Bool->Prop:=λ_ _ _ b b'=>b'=b
inductive TOu{α β:Type}(G:Cfg)(E:XK)(m:M α)(R:(Nat->ai)->Nat->Hp->α->β->Prop)(σ:St)(H:Hp)(Q:β->Hp->Prop):Prop
 |mk (μ:Nat->ai) (ρ:Ev) (h:Hs) (rs:Cj G μ h.length H ρ σ) (s:Cm G μ h H) (o:Out G E μ h.length H (m ρ h) R Q):TOu G E m R σ H Q
def iK(G:Cfg)(E:XK)(m:M Dv):TE:=TOu G E m (Ca G)
def iY(G:Cfg)(E:XK)(m:M Bool):TT:=TOu G E m RB
def BZ(G:Cfg)(E:XK)(m:M Bt ):TA:=TOu G E m (RelDL G)
def aK(X:Cx)(G:Cfg)(E:XK)(pe:bp)(m:M Dv):Prop:=X.K=G.K->PE X pe (iK G E m)
def gE(X:Cx)(G:Cfg)(E:XK)(pe:bp)(m:M Bool):Prop:=X.K=G.K->PT X pe (iY G E m)
def eO(X:Cx)(G:Cfg)(E:XK)(pe:List bp)(m:M Bt ):Prop:=X.K=G.K->PA X pe (BZ G E m)
theorem PE.imp{X:Cx}{e:bp}{t t':TE}(h:PE X e t)(i:∀σ H Q,t' σ H Q->t σ H Q):PE X e t':=λpins s σ H Q I q=>h pins s σ H Q I (i σ H Q q)
theorem PT.imp{X:Cx}{e:bp}{t t':TT}(h:PT X e t)(i:∀σ H Q,t' σ H Q->t σ H Q):PT X e t':=λpins s σ H Q I q=>h pins s σ H Q I (i σ H Q q)
theorem PA.imp{X:Cx}{e:List bp}{t t':TA}(h:PA X e t)(i:∀σ H Q,t' σ H Q->t σ H Q):PA X e t':=λpos pins s σ H Q I q=>h pos pins s σ H Q I (i σ H Q q)
section
variable{G:Cfg}{E:XK}{σ:St}{H:Hp}
theorem gF{m:M Dv}{γ δ:Type}{f:Dv->Hs->Rs γ}{R:(Nat->ai)->Nat->Hp->γ->δ->Prop}{Q:δ->Hp->Prop}{Q1:V->Hp->Prop}{μ:Nat->ai}{ρ:Ev}{h:Hs}(rs:Cj G μ h.length H ρ σ)(s:Cm G μ h H)(o:Out G E μ h.length H ((m ρ h).bind f) R Q)(k:∀μ1 d h1 v H1,Ext μ h.length H μ1 h1.length H1->Cj G μ1 h1.length H1 ρ σ->Cm G μ1 h1 H1->Ca G μ1 h1.length H1 d v->Out G E μ1 h1.length H1 (f d h1) R Q->Q1 v H1):iK G E m σ H Q1:=
 ⟨μ,ρ,h,rs,s,(o.bind (R1:=Ca G)).mono λv H1⟨μ1,d,h1,x,s1,r1,o1⟩=>k μ1 d h1 v H1 x (rs.mono x) s1 r1 o1⟩
theorem CA{m:M Bool}{γ δ:Type}{f:Bool->Hs->Rs γ}{R:(Nat->ai)->Nat->Hp->γ->δ->Prop}{Q:δ->Hp->Prop}{Q1:Bool->Hp->Prop}{μ:Nat->ai}{ρ:Ev}{h:Hs}(rs:Cj G μ h.length H ρ σ)(s:Cm G μ h H)(o:Out G E μ h.length H ((m ρ h).bind f) R Q)(k:∀μ1 b h1 H1,Ext μ h.length H μ1 h1.length H1->Cj G μ1 h1.length H1 ρ σ->Cm G μ1 h1 H1->Out G E μ1 h1.length H1 (f b h1) R Q->Q1 b H1):iY G E m σ H Q1:=
 ⟨μ,ρ,h,rs,s,(o.bind (R1:=RB)).mono λv H1⟨μ1,d,h1,x,s1,r1,o1⟩=>by have e:v=d:=r1;subst e;exact k μ1 v h1 H1 x (rs.mono x) s1 o1⟩
theorem kZ{m:M Bt}{γ δ:Type}{f:Bt->Hs->Rs γ}{R:(Nat->ai)->Nat->Hp->γ->δ->Prop}{Q:δ->Hp->Prop}{Q1:Ic->Hp->Prop}{μ:Nat->ai}{ρ:Ev}{h:Hs}(rs:Cj G μ h.length H ρ σ)(s:Cm G μ h H)(o:Out G E μ h.length H ((m ρ h).bind f) R Q)(k:∀μ1 d h1 v H1,Ext μ h.length H μ1 h1.length H1->Cj G μ1 h1.length H1 ρ σ->Cm G μ1 h1 H1->RelDL G μ1 h1.length H1 d v->Out G E μ1 h1.length H1 (f d h1) R Q->Q1 v H1):BZ G E m σ H Q1:=
 ⟨μ,ρ,h,rs,s,(o.bind (R1:=RelDL G)).mono λv H1⟨μ1,d,h1,x,s1,r1,o1⟩=>k μ1 d h1 v H1 x (rs.mono x) s1 r1 o1⟩
theorem Out.val{α β:Type}{μ:Nat->ai}{h:Hs}{d:α}{R:(Nat->ai)->Nat->Hp->α->β->Prop}{Q:β->Hp->Prop}{v:β}(s:Cm G μ h H)(o:Out G E μ h.length H (.ok d h) R Q)(r:R μ h.length H d v):Q v H:=o μ H v Ext.refl s r
end
section
variable{G:Cfg}{μ:Nat->ai}{h:Hs}{H H':Hp}{p:ai}{n:Nat}
theorem Ext.same(e:Dw H H'):Ext μ n H μ n H':=⟨ao _,λ_ _=>rfl,λa o _ q=>e a o q⟩
theorem Cm.same(s:Cm G μ h H)(e:Dw H H'):Cm G μ h H':=⟨s.inj,λi o q=>by
 have r:=s.ob i o q
 cases o with
 |lst xs=>obtain⟨vs,e1,r1⟩:=r;exact⟨vs,e _ _ e1,RelDL.mono (Ext.same e) _ _ r1⟩
 |clo k t=>exact r.clo (Ext.same e)
 |dct ks=>exact e _ _ r,s.tab.keep λa o _ _ q=>e a o q⟩
theorem dD{o:HO}(h:H p=none):Dw H (aV H p o):=λb u e=>by rw[cB (gL e h)];exact e
theorem Cm.not(s:Cm G μ h H)(hp:H p=none):∀(i:Nat),i<h.length->μ i≠p:=λi hi z=>by
 have q:h[i]?=some h[i]:=bo hi;generalize h[i]=o at q
 cases o with
 |lst xs=>obtain⟨vs,e1,_⟩:=s.ob i _ q;rw[z,hp]at e1;cases e1
 |clo k t=>obtain⟨_,⟨o,u,e1⟩,_⟩:=s.ob i _ q;rw[z,hp]at e1;cases e1
 |dct ks=>have e1:H (μ i)=some (dO ks):=s.ob i _ q;rw[z,hp]at e1;cases e1
theorem Cm.alloc{ds:Bt}{vs:Ic}(s:Cm G μ h H)(hp:H p=none)(r:RelDL G μ h.length H ds vs):
  Ext μ h.length H (λi=>if i=h.length then p else μ i) (h++[Ob.lst ds]).length (aV H p (.lst vs))/\Cm G (λi=>if i=h.length then p else μ i) (h++[.lst ds]) (aV H p (.lst vs)):=by
 have hl:(h++[Ob.lst ds]).length=h.length+1:=by simp
 have hq:=s.not hp;have x:Ext μ h.length H (λi=>if i=h.length then p else μ i) (h++[Ob.lst ds]).length (aV H p (.lst vs)):=⟨by lia,λi hi=>if_neg (ay hi),λa o _ e=>dD hp a o e⟩
 refine⟨x,λi j hi hj e=>?_,λi o q=>?_,s.tab.keep λa o _ _ q=>dD hp a o q⟩
 ·rw[hl]at hi hj
  by_cases h1:i=h.length<;>by_cases h2:j=h.length
  ·lia
  ·rw[if_pos h1,if_neg h2]at e;exact absurd e.symm (hq j (by lia))
  ·rw[if_neg h1,if_pos h2]at e;exact absurd e (hq i (by lia))
  ·rw[if_neg h1,if_neg h2]at e;exact s.inj i j (by lia) (by lia) e
 ·by_cases h1:i<h.length
  ·rw[ed h1]at q;have r1:=s.ob i o q
   cases o with
   |lst xs=>obtain⟨ws,e1,r2⟩:=r1;exact⟨ws,by rw[if_neg (ay h1)];exact dD hp _ _ e1,RelDL.mono x _ _ r2⟩
   |clo k t=>rw[if_neg (ay h1)];exact r1.clo x
   |dct ks=>rw[if_neg (ay h1)];exact dD hp _ _ r1
  ·rw[gj (by lia)]at q;have h2:i=h.length:=by have:=(ba.mp q).1;simp at this;lia
   subst h2;simp at q;subst q;exact⟨vs,by rw[if_pos rfl];exact dR,RelDL.mono x _ _ r⟩
theorem Cm.write{xs ys:Bt}{i:Nat}{vs:Ic}(s:Cm G μ h H)(q:h[i]?=some (.lst xs))(r:RelDL G μ h.length H ys vs):
  Ext μ h.length H μ (h.set i (.lst ys)).length (aV H (μ i) (.lst vs))/\Cm G μ (h.set i (.lst ys)) (aV H (μ i) (.lst vs)):=by
 obtain⟨us,e0,r0⟩:=s.ob i _ q;have hi:i<h.length:=(ba.mp q).1;have im:∀a o,BY o->H a=some o->aV H (μ i) (.lst vs) a=some o:=λa o m e=>by
  rw[cB];exact e
  rintro rfl;rw[e0]at e;cases e;exact m
 have x:Ext μ h.length H μ (h.set i (.lst ys)).length (aV H (μ i) (.lst vs)):=⟨by simp,λ_ _=>rfl,im⟩
 refine⟨x,λa b ha hb=>?_,λj o e=>?_,s.tab.keep λa o n1 _ q=>?_⟩
 rotate_left 2
 ·rw[cB];exact q
  rintro rfl;rw[e0]at q;cases q;exact n1 _ rfl
 ·rw[kr]at ha hb;exact s.inj a b ha hb
 ·by_cases Ea:i=j
  ·subst Ea;rw[dv hi]at e;cases e;exact⟨vs,dR,RelDL.mono x _ _ r⟩
  ·rw[da Ea]at e;have hj:j<h.length:=(ba.mp e).1;have r1:=s.ob j o e;have ne:μ j≠μ i:=λz=>Ea (s.inj j i hj hi z).symm
   cases o with
   |lst zs=>obtain⟨ws,e1,r2⟩:=r1;exact⟨ws,by rw[cB ne];exact e1,RelDL.mono x _ _ r2⟩
   |clo k t=>exact r1.clo x
   |dct ks=>exact(cB ne).trans r1
end
def lim{α:Type}(n:Nat)(r:Rs α):Rs α:=if n<=1000000 then r else .bad
theorem wZ{n:Nat}(h:n<=1000000):n<=cp:=df h (by decide)
def getL(h:Hs)(i:Nat):Option Bt:=match h[i]? with
 |some (.lst xs)=>some xs
 |_=>none
theorem fG{h:Hs}{i:Nat}{xs:Bt}(e:getL h i=some xs):h[i]?=some (.lst xs):=by
 unfold getL at e
 cases q:h[i]? with
 |none=>rw[q]at e;cases e
 |some o=>
  cases o with
  |lst ys=>rw[q]at e;cases e;rfl
  |clo k t=>rw[q]at e;cases e
  |dct ks=>rw[q]at e;cases e
section
variable{X:Cx}{G:Cfg}{E:XK}{a b c:bp}{ma mb mc:M Dv}{pos:Pos}{es:List bp}{aX:M Bt}
def aD(i:Nat):M Dv:=λρ h=>match ρ[i]? with
 |some (some d)=>.ok d h
 |_=>.bad
theorem fQ(i:Nat){x:Str}(hN:X.N[i]?=some x:=by rfl)(hv:pF X.env.scope x:=by first|exact Or.inl rfl|exact Or.inr (Or.inl rfl)|exact Or.inr (Or.inr rfl))(hd:(x==Ib)=false:=by decide)(hcd:(x==("__classdict__":Str))=false:=by decide):aK X G E (.Name x pos) (aD i):=λ_=>PE.imp (A3 hN hv hd hcd) λσ H Q⟨μ,ρ,h,rs,s,o⟩=>by
 unfold aD at o
 split at o
 ·rename_i d e;obtain⟨v,e1,r⟩:=rs.at_ i d e;exact⟨v,e1,o.val s r⟩
 ·exact o.elim
def mC(d:Dv):M Dv:=λ_ h=>.ok d h
abbrev aG(i:Int):M Dv:=mC (.int i)
theorem bD{i j}:aK X G E (.Constant (.int i) j pos) (aG i):=λ_=>PE.imp Q5 λσ H Q⟨μ,ρ,h,rs,s,o⟩=>o.val s (show Ca G μ _ H (.int i) (.int i) from rfl)
theorem gG{i j}:aK X G E (.Constant (.bool i) j pos) (mC (.bl i)):=λ_=>PE.imp Q6 λσ H Q⟨μ,ρ,h,rs,s,o⟩=>o.val s (show Ca G μ _ H (.bl i) (.bl i) from rfl)
theorem pI{j}:aK X G E (.Constant .none j pos) (mC .non):=λ_=>PE.imp HE λσ H Q⟨μ,ρ,h,rs,s,o⟩=>o.val s (show Ca G μ _ H .non .non from rfl)
theorem rE{x j}:aK X G E (.Constant (.str x) j pos) (mC (.str x)):=λ_=>PE.imp Q7 λσ H Q⟨μ,ρ,h,rs,s,o⟩=>o.val s (show Ca G μ _ H (.str x) (.str x) from rfl)
def aU:M Bt:=λ_ h=>.ok [] h
def aY(m:M Dv)(ms:M Bt ):M Bt:=λρ h=>(m ρ h).bind λd h1=>(ms ρ h1).bind λds h2=>.ok (d::ds) h2
abbrev aN(a:M Dv):M Bt:=aY a aU
abbrev aJ(a b:M Dv):M Bt:=aY a (aY b aU)
abbrev eZ(a b c:M Dv):M Bt:=aY a (aY b (aY c aU))
abbrev gW(a b c d:M Dv):M Bt:=aY a (aY b (aY c (aY d aU)))
theorem iD:eO X G E [] aU:=λ_=>PA.imp jU λσ H Q⟨μ,ρ,h,rs,s,o⟩=>o.val s RelDL.nil
theorem iZ(ha:aK X G E a ma)(hr:eO X G E es aX)(hs:aq (a::es) X.env=(false,eval a X.env)::aq es X.env:=by rfl):eO X G E (a::es) (aY ma aX):=λhK=>PA.imp (iJ (ha hK) (hr hK) hs) λσ H Q⟨μ,ρ,h,rs,s,o⟩=>gF rs s o λμ1 d h1 v H1 x1 Cr s1 r1 o1=>kZ Cr s1 o1 λμ2 ds h2 vs H2 x2 Em s2 r2 o2=>o2.val s2 (RelDL.cons (Ca.mono x2 _ _ r1) r2)
theorem bY{X:Cx}{G:Cfg}{E:XK}{a:bp}{ma:M Dv}(ka:aK X G E a ma)(ha:aq [a] X.env=(false,eval a X.env)::aq [] X.env:=by rfl):eO X G E [a] (aN ma):=iZ ka iD ha
theorem bW{X:Cx}{G:Cfg}{E:XK}{a b:bp}{ma mb:M Dv}(ka:aK X G E a ma)(kb:aK X G E b mb)(ha:aq [a,b] X.env=(false,eval a X.env)::aq [b] X.env:=by rfl)(hb:aq [b] X.env=(false,eval b X.env)::aq [] X.env:=by rfl):eO X G E [a,b] (aJ ma mb):=iZ ka (iZ kb iD hb) ha
theorem lY{X:Cx}{G:Cfg}{E:XK}{a b c:bp}{ma mb mc:M Dv}(ka:aK X G E a ma)(kb:aK X G E b mb)(kc:aK X G E c mc)(ha:aq [a,b,c] X.env=(false,eval a X.env)::aq [b,c] X.env:=by rfl)(hb:aq [b,c] X.env=(false,eval b X.env)::aq [c] X.env:=by rfl)(hc:aq [c] X.env=(false,eval c X.env)::aq [] X.env:=by rfl):eO X G E [a,b,c] (eZ ma mb mc):=iZ ka (iZ kb (iZ kc iD hc) hb) ha
theorem tW{X:Cx}{G:Cfg}{E:XK}{a b c d:bp}{ma mb mc md:M Dv}(ka:aK X G E a ma)(kb:aK X G E b mb)(kc:aK X G E c mc)(kd:aK X G E d md)(ha:aq [a,b,c,d] X.env=(false,eval a X.env)::aq [b,c,d] X.env:=by rfl)(hb:aq [b,c,d] X.env=(false,eval b X.env)::aq [c,d] X.env:=by rfl)(hc:aq [c,d] X.env=(false,eval c X.env)::aq [d] X.env:=by rfl)(hd:aq [d] X.env=(false,eval d X.env)::aq [] X.env:=by rfl):eO X G E [a,b,c,d] (gW ma mb mc md):=iZ ka (iZ kb (iZ kc (iZ kd iD hd) hc) hb) ha
def aO(ms:M Bt ):M Dv:=λρ h=>(ms ρ h).bind λds h1=>lim ds.length (.ok (.tup ds) h1)
theorem fH{k}(h:eO X G E es aX):aK X G E (.Tuple es k pos) (aO aX):=λhK=>PE.imp (HW (h hK)) λσ H Q⟨μ,ρ,h,rs,s,o⟩=>kZ rs s o λμ1 ds h1 vs H1 x1 Cr s1 r1 o1=>by
 unfold lim at o1
 split at o1
 ·rename_i hl;refine⟨by rw[r1.length];exact wZ hl,λp hp=>?_⟩;exact o1 μ1 _ _ (Ext.same (dD hp)) (s1.same (dD hp)) ⟨p,vs,rfl,dR,RelDL.mono (Ext.same (dD hp)) _ _ r1⟩
 ·exact o1.elim
def aZ(ms:M Bt ):M Dv:=λρ h=>(ms ρ h).bind λds h1=>lim ds.length (.ok (.ref h1.length) (h1++[.lst ds]))
theorem lZ{μ:Nat->ai}{h:Hs}{H:Hp}{ds:Bt}{vs:Ic}{Q:VK}{p:ai}(s:Cm G μ h H)(r:RelDL G μ h.length H ds vs)(hp:H p=none)(o:Out G E μ h.length H (.ok (.ref h.length) (h++[.lst ds])) (Ca G) Q):Q (.ref p) (aV H p (.lst vs)):=by obtain⟨x,s'⟩:=s.alloc hp r;exact o _ _ _ x s' ⟨by simp,by show Hz p=Hz (if h.length=h.length then p else μ h.length);rw[if_pos rfl]⟩
theorem fR(h:eO X G E es aX):aK X G E (.List es pos) (aZ aX):=λhK=>PE.imp (TV (h hK)) λσ H Q⟨μ,ρ,h,rs,s,o⟩=>kZ rs s o λμ1 ds h1 vs H1 x1 Cr s1 r1 o1=>by
 unfold lim at o1
 split at o1
 ·rename_i hl;exact⟨by rw[r1.length];exact wZ hl,λp hp=>lZ s1 r1 hp o1⟩
 ·exact o1.elim
def m2(f:Dv->Dv->Hs->Rs Dv)(ma mb:M Dv):M Dv:=λρ h=>(ma ρ h).bind λx h1=>(mb ρ h1).bind λy h2=>f x y h2
def fY(G:Cfg)(r:R2)(f:Dv->Dv->Hs->Rs Dv):Prop:=∀(E:XK)(μ:Nat->ai)(h:Hs)(H:Hp)(x y:Dv)(vx vy:V)(Q:VK),Cm G μ h H->Ca G μ h.length H x vx->Ca G μ h.length H y vy->Out G E μ h.length H (f x y h) (Ca G) Q->r vx vy H Q
theorem rG{r:R2}{f:Dv->Dv->Hs->Rs Dv}(hd:fY G r f){σ:St}{H:Hp}{Q:VK}(t:iK G E (m2 f ma mb) σ H Q):tN r (iK G E ma) (iK G E mb) σ H Q:=by obtain⟨μ,ρ,h,rs,s,o⟩:=t;exact gF rs s o λμ1 x h1 vx H1 x1 Cr s1 r1 o1=>gF Cr s1 o1 λμ2 y h2 vy H2 x2 Em s2 r2 o2=>hd E μ2 h2 H2 x y vx vy Q s2 (Ca.mono x2 _ _ r1) r2 o2
theorem pJ{op:Operator}{r:R2}{f:Dv->Dv->Hs->Rs Dv}(ho:Cw X (binaryOp op) r)(hd:fY G r f)(ha:aK X G E a ma)(hb:aK X G E b mb):aK X G E (.BinOp a op b pos) (m2 f ma mb):=λhK=>PE.imp (SU ho (ha hK) (hb hK)) λ_ _ _ t=>rG hd t
theorem tX{op:CmpOp}{r:R2}{f:Dv->Dv->Hs->Rs Dv}(ho:Cw X (compareOp op) r)(hd:fY G r f)(ha:aK X G E a ma)(hb:aK X G E b mb)(hm:behindInMarks op b=false):aK X G E (.Compare a [op] [b] pos) (m2 f ma mb):=λhK=>PE.imp (S9 ho (ha hK) (hb hK) hm) λ_ _ _ t=>rG hd t
def fU:Dv->Hs->Rs Bool
 |.bl b,h=>.ok b h
 |_,_=>.bad
def mB(m:M Dv):M Bool:=λρ h=>(m ρ h).bind fU
theorem VW{m:M Dv}{σ:St}{H:Hp}{Q:Bool->Hp->Prop}(t:iY G E (mB m) σ H Q):iK G E m σ H λx H'=>∃k,x=.bl k/\Q k H':=by
 obtain⟨μ,ρ,h,rs,s,o⟩:=t;refine gF rs s o λμ1 x h1 vx H1 x1 Cr s1 r1 o1=>?_
 cases x with
 |bl k=>exact⟨k,r1,o1.val s1 rfl⟩
 |_=>exact o1.elim
theorem lA{op:CmpOp}{r:R2}{f:Dv->Dv->Hs->Rs Dv}(ho:Cw X (compareOp op) r)(hd:fY G r f)(ha:aK X G E a ma)(hb:aK X G E b mb)(hm:behindInMarks op b=false):gE X G E (.Compare a [op] [b] pos) (mB (m2 f ma mb)):=λhK=>PT.imp (TF ho (ha hK) (hb hK) hm) λσ H Q t=>rG hd (VW t)
def rH(f f':Dv->Dv->Hs->Rs Dv)(ma mb mc:M Dv):M Dv:=λρ h=>(ma ρ h).bind λx h1=>(mb ρ h1).bind λy h2=>(f x y h2).bind λz h3=>match z with
 |.bl true=>(mc ρ h3).bind λw h4=>f' y w h4
 |.bl false=>.ok (.bl false) h3
 |_=>.bad
theorem VX{r r':R2}{f f':Dv->Dv->Hs->Rs Dv}(hd:fY G r f)(Fx:fY G r' f'){σ:St}{H:Hp}{Q:VK}(t:iK G E (rH f f' ma mb mc) σ H Q):HQ r r' (iK G E ma) (iK G E mb) (iK G E mc) σ H Q:=by
 obtain⟨μ,ρ,h,rs,s,o⟩:=t;refine gF rs s o λμ1 x h1 vx H1 x1 Cr s1 r1 o1=>gF Cr s1 o1 λμ2 y h2 vy H2 x2 Em s2 r2 o2=>?_;refine hd E μ2 h2 H2 x y vx vy _ s2 (Ca.mono x2 _ _ r1) r2 ((o2.bind (R1:=Ca G)).mono λvz H3⟨μ3,z,h3,x3,s3,r3,o3⟩=>?_)
 cases z with
 |bl k=>
  refine⟨k,r3,?_⟩
  cases k with
  |true=>exact I0 (gF (Em.mono x3) s3 o3 λμ4 w h4 vw H4 x4 pE s4 r4 o4=>Fx E μ4 h4 H4 y w vy vw Q s4 (Ca.mono (x3.trans x4) _ _ r2) r4 o4)
  |false=>exact IZ (o3.val s3 rfl)
 |_=>exact o3.elim
theorem VY{op op':CmpOp}{r r':R2}{f f':Dv->Dv->Hs->Rs Dv}(ho:Cw X (compareOp op) r)(Gn:Cw X (compareOp op') r')(hd:fY G r f)(Fx:fY G r' f')(ha:aK X G E a ma)(hb:aK X G E b mb)(hc:aK X G E c mc)(hm:lastMarks [op,op'] [b,c]=false:=by with_unfolding_all rfl):aK X G E (.Compare a [op,op'] [b,c] pos) (rH f f' ma mb mc):=λhK=>
 PE.imp (TH ho Gn (ha hK) (hb hK) (hc hK) hm) λ_ _ _ t=>VX hd Fx t
def lB(G:Cfg)(r:V->Hp->VK->Prop)(f:Dv->Hs->Rs Dv):Prop:=∀(E:XK)(μ:Nat->ai)(h:Hs)(H:Hp)(x:Dv)(vx:V)(Q:VK),Cm G μ h H->Ca G μ h.length H x vx->Out G E μ h.length H (f x h) (Ca G) Q->r vx H Q
def m1(f:Dv->Hs->Rs Dv)(ma:M Dv):M Dv:=λρ h=>(ma ρ h).bind f
theorem VZ{op:UnaryOp}{r:V->Hp->VK->Prop}{f:Dv->Hs->Rs Dv}(ho:wJ X (unaryOp op) r)(hd:lB G r f)(ha:aK X G E a ma):aK X G E (.UnaryOp op a pos) (m1 f ma):=λhK=>PE.imp (SV ho (ha hK)) λσ H Q⟨μ,ρ,h,rs,s,o⟩=>gF rs s o λμ1 x h1 vx H1 x1 Cr s1 r1 o1=>hd E μ1 h1 H1 x vx Q s1 r1 o1
variable{tA tB':M Bool}{rest:List bp}
def dW(t u:M Bool):M Bool:=λρ h=>(t ρ h).bind λc h1=>if c=true then u ρ h1 else .ok false h1
def fV(t u:M Bool):M Bool:=λρ h=>(t ρ h).bind λc h1=>if c=true then .ok true h1 else u ρ h1
def cQ(t:M Bool):M Bool:=λρ h=>(t ρ h).bind λc h1=>.ok (!c) h1
def C'(X:Cx)(G:Cfg)(E:XK)(pe:bp)(m:M Bool):Prop:=X.K=G.K->PW X pe (iY G E m)
theorem C'.t{pe:bp}{m:M Bool}(h:C' X G E pe m):gE X G E pe m:=λhK=>(h hK).pt
theorem PW.imp{e:bp}{t t':TT}(h:PW X e t)(i:∀σ H Q,t' σ H Q->t σ H Q):PW X e t':=λwh pins s σ H Q I q=>h wh pins s σ H Q I (i σ H Q q)
theorem nZ(ha:gE X G E a tA):C' X G E (.BoolOp .And [a] pos) tA:=λhK=>Q9 (ha hK)
theorem pK(ha:gE X G E a tA):C' X G E (.BoolOp .Or [a] pos) tA:=λhK=>RA (ha hK)
theorem V0{σ:St}{H:Hp}{Q:Bool->Hp->Prop}(t:iY G E (dW tA tB') σ H Q):HG (iY G E tA) (iY G E tB') σ H Q:=by
 obtain⟨μ,ρ,h,rs,s,o⟩:=t;refine CA rs s o λμ1 k h1 H1 x1 Cr s1 o1=>?_
 cases k with
 |true=>rw[if_pos rfl]at o1⊢;exact⟨μ1,ρ,h1,Cr,s1,o1⟩
 |false=>rw[if_neg (by decide)]at o1⊢;exact o1.val s1 rfl
theorem V1{σ:St}{H:Hp}{Q:Bool->Hp->Prop}(t:iY G E (fV tA tB') σ H Q):HH (iY G E tA) (iY G E tB') σ H Q:=by
 obtain⟨μ,ρ,h,rs,s,o⟩:=t;refine CA rs s o λμ1 k h1 H1 x1 Cr s1 o1=>?_
 cases k with
 |false=>rw[if_neg (by decide)]at o1⊢;exact⟨μ1,ρ,h1,Cr,s1,o1⟩
 |true=>rw[if_pos rfl]at o1⊢;exact o1.val s1 rfl
theorem lC(ha:gE X G E a tA)(hb:C' X G E (.BoolOp .And (b::rest) pos) tB'):C' X G E (.BoolOp .And (a::b::rest) pos) (dW tA tB'):=λhK=>PW.imp (RC (ha hK) (hb hK)) λ_ _ _ t=>V0 t
theorem pL(ha:gE X G E a tA)(hb:C' X G E (.BoolOp .Or (b::rest) pos) tB'):C' X G E (.BoolOp .Or (a::b::rest) pos) (fV tA tB'):=λhK=>PW.imp (RD (ha hK) (hb hK)) λ_ _ _ t=>V1 t
theorem iL(ha:gE X G E a tA):gE X G E (.UnaryOp .Not a pos) (cQ tA):=λhK=>PT.imp (RE (ha hK)) λσ H Q⟨μ,ρ,h,rs,s,o⟩=>CA rs s o λμ1 k h1 H1 x1 Cr s1 o1=>o1.val s1 rfl
def dM(m u:M Dv):M Dv:=λρ h=>(m ρ h).bind λd h1=>match d with
 |.bl true=>u ρ h1
 |.bl false=>.ok (.bl false) h1
 |_=>.bad
def pM:Dv->Hs->Rs Dv
 |.bl b,h=>.ok (.bl (!b)) h
 |_,_=>.bad
theorem mD{op}{m:M Dv}(h:aK X G E a m):aK X G E (.BoolOp op [a] pos) m:=λhK=>RH (h hK)
theorem kH(ha:aK X G E a ma)(hb:aK X G E (.BoolOp .And (b::rest) pos) mb):aK X G E (.BoolOp .And (a::b::rest) pos) (dM ma mb):=λhK=>PE.imp (RI (ha hK) (hb hK)) λσ H Q⟨μ,ρ,h,rs,s,o⟩=>
 gF rs s o λμ1 x h1 vx H1 x1 Cr s1 r1 o1=>by
  cases x with
  |bl k=>
   refine⟨k,r1,?_⟩
   cases k with
   |true=>exact I0 ⟨μ1,ρ,h1,Cr,s1,o1⟩
   |false=>exact IZ (o1.val s1 rfl)
  |_=>exact o1.elim
theorem CB(ha:aK X G E a ma):aK X G E (.UnaryOp .Not a pos) (m1 pM ma):=λhK=>PE.imp (RJ (ha hK)) λσ H Q⟨μ,ρ,h,rs,s,o⟩=>
 gF rs s o λμ1 x h1 vx H1 x1 Cr s1 r1 o1=>by
  cases x with
  |bl k=>exact⟨k,r1,o1.val s1 rfl⟩
  |_=>exact o1.elim
def fZ:Dv->Hs->Rs Bool
 |.non,h=>.ok false h
 |.bl b,h=>.ok b h
 |.int i,h=>.ok (i !=0) h
 |.tup xs,h=>.ok (!xs.isEmpty) h
 |.ref i,h=>match getL h i with
  |some xs=>.ok (!xs.isEmpty) h
  |none=>.bad
 |_,_=>.bad
def bN(m:M Dv):M Bool:=λρ h=>(m ρ h).bind fZ
theorem JP{μ:Nat->ai}{n:Nat}{H:Hp}{ds:Bt}{vs:Ic}(r:RelDL G μ n H ds vs):vs.isEmpty=ds.isEmpty:=by
 have:=r.length
 cases ds<;>cases vs<;>simp_all
theorem gA(ha:aK X G E a ma)(he:∀whole,isTrue a X.env whole=(do let v <-whole;standAt a.pos;holding [v] (truthy v)):=by intro _;rfl):gE X G E a (bN ma):=λhK=>PT.imp (TM (ha hK) he) λσ H Q⟨μ,ρ,h,rs,s,o⟩=>
 gF rs s o λμ1 x h1 vx H1 x1 Cr s1 r1 o1=>by
  cases x with
  |non=>rw[Ca]at r1;subst r1;exact⟨_,rfl,o1.val s1 rfl⟩
  |bl k=>rw[Ca]at r1;subst r1;exact⟨_,rfl,o1.val s1 rfl⟩
  |int i=>rw[Ca]at r1;subst r1;exact⟨_,rfl,o1.val s1 rfl⟩
  |tup ds=>obtain⟨p,vs,rfl,e,r⟩:=r1;exact⟨_,.inr (.inl ⟨vs,Hk e,rfl⟩),by rw[JP r];exact o1.val s1 rfl⟩
  |ref i=>
   obtain⟨hi,rfl⟩:=r1;dsimp only[fZ]at o1
   cases q:getL h1 i with
   |none=>rw[q]at o1;exact o1.elim
   |some xs=>obtain⟨vs,e,r⟩:=s1.ob i _ (fG q);rw[q]at o1;exact⟨_,.inl ⟨vs,Hr e,rfl⟩,by rw[JP r];exact o1.val s1 rfl⟩
  |_=>exact o1.elim
end
end L2.Mr
open L2.Mr.Dv renaming int->Hc,bl->Hu,tup->Ia
open L2.Mr.Ob renaming lst->Hd,dct->Hx
open L2.Mr.RelDL renaming mono->Hf,cons->Hl,nil->Hn
open L2.Mr.Ext renaming same->Hg,refl->Hm
open L2.Mr.PE renaming imp->Hj
open L2.Mr.Ca renaming mono->Hq
open L2.Mr.Rs renaming ok->Ht
open L2.Mr.C' renaming t->Hw
namespace L2
section
variable{Pg:bj}{w:cb}{P:ai->Prop}{H:Hp}{s:ag}
theorem V2(hok:Dn Pg w H s.heap)(n:Nat)(A:bx)(d d':Dt)(v v':V)(u u':af)(hn:fT d<=n)(hu:A.units+n+1<cLine)(n1:nod d=true)(n2:nod d'=true)(h:Den P H d v)(h':Den P H d' v')(r:RelV v u)(r':RelV v' u'):
  SeqAt.RcNeAt A s u u' (!bU d d'):=by
 have Cs:A.units<cLine:=by lia
 have Dm:1<=n->∀(d d':Dt)(u u':af),fT d<=n-1->nod d=true->nod d'=true->Vw P H s d u->Vw P H s d' u'->lr A.in1 s u u' (bU d d'):=λhd d d' u u' a b c e f=>(BX hok (n-1) A.in1 d d' u u' a (by show A.units+1+(n-1)+1<cLine;lia) b c e f).2;have k:=vw hok n1 h r;have k':=vw hok n2 h' r'
 clear h h' r r'
 cases k<;>cases k'
 case tup.tup ds a1 vs1 its1 e1 g1 q1 tp1 Dx a2 vs2 El e2 g2 q2 tp2=>
  rw[nod]at n1 n2;rw[fT]at hn;have hl1:=g1.length;have hl2:=g2.length;have hq1:=q1.length;have hq2:=q2.length;rw[bU];have z:=SeqAt.RcNeAt.tuples (e:=λj=>bU (ds.getD j .non) (Dx.getD j .non)) tp1 tp2 Cs (wY hok (Dm (by lia)) (by lia) n1 n2 g1 g2 q1 q2);have s1:its1.toArray.size=ds.length:=by simp;lia
  have s2:El.toArray.size=Dx.length:=by simp;lia
  rw[s1,s2]at z
  by_cases hlen:ds.length=Dx.length
  ·rw[tU hlen];rw[<-hlen,Nat.min_self]at z;simpa using z
  ·rw[tV hlen];rw[show(ds.length==Dx.length)=false from beq_eq_false_iff_ne.mpr hlen,uz]at z;exact z
 case lst.lst ds a1 vs1 its1 e1 g1 q1 tp1 Dx a2 vs2 El e2 g2 q2 tp2=>
  rw[nod]at n1 n2;rw[fT]at hn;have hl1:=g1.length;have hl2:=g2.length;have hq1:=q1.length;have hq2:=q2.length;rw[bU]
  by_cases hlen:ds.length=Dx.length
  ·have z:=SeqAt.RcNeAt.lists (e:=λj=>bU (ds.getD j .non) (Dx.getD j .non)) tp1 tp2 (by simp;lia) Cs (wY hok (Dm (by lia)) (by lia) n1 n2 g1 g2 q1 q2);rw[tU hlen];simpa[hq1.symm,hl1]using z
  ·rw[tV hlen];exact SeqAt.RcNeAt.lists_lengths tp1 tp2 (by simp;lia) Cs
 case non.non=>exact .none_none
 case non.bl=>exact .none_bool _
 case non.int=>exact .none_int _ _
 case non.str=>exact .none_str _ _
 case non.tup=>exact .none_tuple ‹_› Cs
 case non.lst=>exact .none_list ‹_› Cs
 case bl.non=>exact .bool_none _
 case bl.bl=>exact .bool_bool _ _
 case bl.int=>exact .bool_int _ _ _
 case bl.str=>exact .bool_str _ _ _
 case bl.tup=>exact .bool_tuple _ ‹_› Cs
 case bl.lst=>exact .bool_list _ ‹_› Cs
 case int.non=>exact .int_none _ _
 case int.bl=>exact .int_bool _ _ _
 case int.int=>exact .int_int _ _ _ _
 case int.str=>exact .int_str _ _ _ _
 case int.tup=>exact .int_tuple _ _ ‹_› Cs
 case int.lst=>exact .int_list _ _ ‹_› Cs
 case str.non=>exact .str_none _ _
 case str.bl=>exact .str_bool _ _ _
 case str.int=>exact .str_int _ _ _ _
 case str.str=>exact .str_str _ _ _ _
 case str.tup=>exact .str_tuple _ _ ‹_› Cs
 case str.lst=>exact .str_list _ _ ‹_› Cs
 case tup.non=>exact .tuple_none ‹_› Cs
 case tup.bl=>exact .tuple_bool _ ‹_› Cs
 case tup.int=>exact .tuple_int _ _ ‹_› Cs
 case tup.str=>exact .tuple_str _ _ ‹_› Cs
 case tup.lst=>exact .tuple_list ‹_› ‹_› Cs
 case lst.non=>exact .list_none ‹_› Cs
 case lst.bl=>exact .list_bool _ ‹_› Cs
 case lst.int=>exact .list_int _ _ ‹_› Cs
 case lst.str=>exact .list_str _ _ ‹_› Cs
 case lst.tup=>exact .list_tuple ‹_› ‹_› Cs
end
end L2
namespace L2.Mr
def cD{α β:Type}(f:α->Option β):List α->Option (List β)
 |[]=>some []
 |x::xs=>match f x with
  |none=>none
  |some y=>match cD f xs with
   |none=>none
   |some ys=>some (y::ys)
def bS:Nat->Hs->Dv->Option Dt
 |0,_,_=>none
 |k+1,h,d=>match d with
  |.non=>some .non
  |.bl b=>some (.bl b)
  |.int i=>some (.int i)
  |.str x=>some (.str x)
  |.tup xs=>match cD (bS k h) xs with
   |some ts=>some (.tup ts)
   |none=>none
  |.ref i=>match getL h i with
   |some xs=>match cD (bS k h) xs with
    |some ts=>some (.lst ts)
    |none=>none
   |none=>none
  |_=>none
abbrev kJ:ai->Prop:=λ_=>True
section
variable{G:Cfg}{μ:Nat->ai}{h:Hs}{H:Hp}
theorem rJ(s:Cm G μ h H):∀(k:Nat)(d:Dv)(v:V)(t:Dt),Ca G μ h.length H d v->bS k h d=some t->Den kJ H t v/\fT t<=k/\nod t=true:=by
 intro k
 induction k with
 |zero=>intro d v t _ e;cases e
 |succ k ih=>
  have il:∀(xs:Bt)(vs:Ic)(ts:List Dt),RelDL G μ h.length H xs vs->cD (bS k h) xs=some ts->Ci kJ H ts vs/\mX ts<=k/\kY ts=true:=by
   intro xs
   induction xs with
   |nil=>intro vs ts r e;cases e;rw[RelDL]at r;subst r;exact⟨Ci.nil,by simp[mX],rfl⟩
   |cons x xs ihx=>
    intro vs ts r e;rw[RelDL]at r;obtain⟨v,rr,rfl,r1,r2⟩:=r;unfold cD at e
    cases q:bS k h x with
    |none=>rw[q]at e;cases e
    |some y=>
     rw[q]at e;dsimp only at e
     cases q2:cD (bS k h) xs with
     |none=>rw[q2]at e;cases e
     |some ys=>rw[q2]at e;cases e;obtain⟨a1,a2,a3⟩:=ih x v y r1 q;obtain⟨b1,b2,b3⟩:=ihx rr ys r2 q2;exact⟨Ci.cons a1 b1,by rw[mX];lia,by rw[kY,a3,b3];rfl⟩
  intro d v t r e;unfold bS at e
  cases d with
  |non=>cases e;rw[Ca]at r;subst r;exact⟨by rw[Den],by simp[fT],rfl⟩
  |bl b=>cases e;rw[Ca]at r;subst r;exact⟨by rw[Den],by simp[fT],rfl⟩
  |int b=>cases e;rw[Ca]at r;subst r;exact⟨by rw[Den],by simp[fT],rfl⟩
  |str b=>cases e;rw[Ca]at r;subst r;exact⟨by rw[Den],by simp[fT],rfl⟩
  |tup xs=>
   dsimp only at e
   cases q:cD (bS k h) xs with
   |none=>rw[q]at e;cases e
   |some ts=>rw[q]at e;cases e;obtain⟨a,vs,rfl,e1,r1⟩:=r;obtain⟨b1,b2,b3⟩:=il xs vs ts r1 q;exact⟨by rw[Den];exact⟨a,vs,rfl,e1,b1⟩,by rw[fT];lia,by rw[nod];exact b3⟩
  |ref i=>
   dsimp only at e
   cases g:getL h i with
   |none=>rw[g]at e;cases e
   |some xs=>
    rw[g]at e;dsimp only at e
    cases q:cD (bS k h) xs with
    |none=>rw[q]at e;cases e
    |some ts=>rw[q]at e;cases e;obtain⟨hi,rfl⟩:=r;obtain⟨vs,e1,r1⟩:=s.ob i _ (fG g);obtain⟨b1,b2,b3⟩:=il xs vs ts r1 q;exact⟨by rw[Den];exact⟨_,vs,rfl,trivial,e1,b1⟩,by rw[fT];lia,by rw[nod];exact b3⟩
  |edc=>cases e
  |exc c=>cases e
  |scr=>cases e
end
def cK:Nat:=30
def cP(x y:Dv)(h:Hs):Rs Dv:=match bS cK h x,bS cK h y with
 |some s,some t=>.ok (.bl (bU s t)) h
 |_,_=>.bad
def bZ(x y:Dv)(h:Hs):Rs Dv:=match bS cK h x,bS cK h y with
 |some s,some t=>.ok (.bl (!bU s t)) h
 |_,_=>.bad
def xA(neg:Bool):R2:=λx y H Q=>∃t t',Den kJ H t x/\Den kJ H t' y/\fT t<=cK/\nod t=true/\nod t'=true/\Q (.bl (if neg then !bU t t' else bU t t')) H
section
variable{X:Cx}{G:Cfg}
theorem JQ(hu:X.A.units+64<cLine):Cw X (compareOp .Eq) (xA false):=by intro pins s σ H x y v u Q I r1 r2 ⟨t,t',d,d',hd,n1,n2,q⟩;exact EqBoolInt.of_rc (JO I.hok cK X.A t t' x y v u hd (by unfold cK;lia) n1 n2 d d' r1 r2).1 ⟨.bl _,H,I,rfl,q⟩
theorem JR(hu:X.A.units+64<cLine):Cw X (compareOp .NotEq) (xA true):=by intro pins s σ H x y v u Q I r1 r2 ⟨t,t',d,d',hd,n1,n2,q⟩;exact EqBoolInt.of_rcne (V2 I.hok cK X.A t t' x y v u hd (by unfold cK;lia) n1 n2 d d' r1 r2) ⟨.bl _,H,I,rfl,q⟩
theorem JS:fY G (xA false) cP:=by
 intro E μ h H x y vx vy Q s rx ry o;unfold cP at o
 split at o
 ·rename_i t t' e e';obtain⟨a1,a2,a3⟩:=rJ s _ x vx t rx e;obtain⟨b1,b2,b3⟩:=rJ s _ y vy t' ry e';exact⟨t,t',a1,b1,a2,a3,b3,o.val s rfl⟩
 ·exact o.elim
theorem JT:fY G (xA true) bZ:=by
 intro E μ h H x y vx vy Q s rx ry o;unfold bZ at o
 split at o
 ·rename_i t t' e e';obtain⟨a1,a2,a3⟩:=rJ s _ x vx t rx e;obtain⟨b1,b2,b3⟩:=rJ s _ y vy t' ry e';exact⟨t,t',a1,b1,a2,a3,b3,o.val s rfl⟩
 ·exact o.elim
end
def jA(g:Int->Int->Dv):Dv->Dv->Hs->Rs Dv
 |.int i,.int j,h=>.ok (g i j) h
 |_,_,_=>.bad
def mE(C:Int->Int->Bool)(g:Int->Int->Dv):Dv->Dv->Hs->Rs Dv
 |.int i,.int j,h=>if C i j=true then .ok (g i j) h else .bad
 |_,_,_=>.bad
section
variable{X:Cx}{G:Cfg}
theorem V3{f:Int->Int->Int}:fY G (kG λi j=>.int (f i j)) (jA λi j=>.int (f i j)):=by
 intro E μ h H x y vx vy Q s rx ry o
 cases x with
 |int i=>
  cases y with
  |int j=>exact⟨i,j,rx,ry,o.val s rfl⟩
  |_=>exact o.elim
 |_=>exact o.elim
theorem rK{f:Int->Int->Bool}:fY G (kG λi j=>.bl (f i j)) (jA λi j=>.bl (f i j)):=by
 intro E μ h H x y vx vy Q s rx ry o
 cases x with
 |int i=>
  cases y with
  |int j=>exact⟨i,j,rx,ry,o.val s rfl⟩
  |_=>exact o.elim
 |_=>exact o.elim
theorem xB{C:Int->Int->Prop}{B:Int->Int->Bool}{f:Int->Int->Int}(hB:∀i j,B i j=true->C i j):fY G (rI C λi j=>.int (f i j)) (mE B λi j=>.int (f i j)):=by
 intro E μ h H x y vx vy Q s rx ry o
 cases x with
 |int i=>
  cases y with
  |int j=>
   dsimp only[mE]at o
   split at o
   ·rename_i hb;exact⟨i,j,rx,ry,hB i j hb,o.val s rfl⟩
   ·exact o.elim
  |_=>exact o.elim
 |_=>exact o.elim
def jW(i:Int):Bool:=decide (-18446744073709551616<i)&&decide (i<18446744073709551616)
def xC(i j:Int):Bool:=jW i||jW j
theorem V4(i j:Int)(h:xC i j=true):CMul i j:=by
 unfold xC jW at h;unfold CMul;simp only[Bool.or_eq_true,fg,decide_eq_true_eq]at h
 rcases h with h|h
 ·exact .inl ⟨by lia,by lia⟩
 ·exact .inr ⟨by lia,by lia⟩
def rL(_ j:Int):Bool:=decide (0<j)
theorem V7(i j:Int)(h:rL i j=true):0<j:=by unfold rL at h;simpa using h
def tY(i j:Int):Bool:=decide (0<=j)&&decide (j<=1000000)&&decide (i.natAbs<18446744073709551616)
theorem V8(i j:Int)(h:tY i j=true):BE i j:=by unfold tY at h;unfold BE;simp only[fg,decide_eq_true_eq]at h;exact⟨h.1.1,h.1.2,by have:=h.2;lia⟩
def mY:Dv->Dv->Hs->Rs Dv
 |.int i,.int j,h=>.ok (.int (i+j)) h
 |.ref i,.ref j,h=>match getL h i,getL h j with
  |some xs,some ys=>lim (xs.length+ys.length) (.ok (.ref h.length) (h++[.lst (xs++ys)]))
  |_,_=>.bad
 |.tup xs,.tup ys,h=>if xs.isEmpty=true then .bad else lim (xs.length+ys.length) (.ok (.tup (xs++ys)) h)
 |_,_,_=>.bad
def CC(K:ar):R2:=λx y H Q=>(kG λi j=>.int (i+j)) x y H Q∨IW x y H Q∨II K x y H Q
theorem V9:Cw X (binaryOp .Add) (CC X.K):=op_add.or (op_cat.or UN)
theorem WA:fY G (CC G.K) mY:=by
 intro E μ h H x y vx vy Q s rx ry o
 cases x with
 |int i=>
  cases y with
  |int j=>exact .inl ⟨i,j,rx,ry,o.val s rfl⟩
  |_=>exact o.elim
 |ref i=>
  cases y with
  |ref j=>
   dsimp only[mY]at o
   cases g1:getL h i with
   |none=>rw[g1]at o;exact o.elim
   |some xs=>
    cases g2:getL h j with
    |none=>rw[g1,g2]at o;exact o.elim
    |some ys=>
     rw[g1,g2]at o;dsimp only at o;unfold lim at o
     split at o
     ·rename_i hl;obtain⟨vs,e1,r1⟩:=s.ob i _ (fG g1);obtain⟨ws,e2,r2⟩:=s.ob j _ (fG g2);obtain⟨_,rfl⟩:=rx;obtain⟨_,rfl⟩:=ry;exact .inr (.inl ⟨_,_,vs,ws,rfl,rfl,e1,e2,by rw[r1.length,r2.length];exact wZ hl,λp hp=>lZ s (r1.append r2) hp o⟩)
     ·exact o.elim
  |_=>exact o.elim
 |tup xs=>
  cases y with
  |tup ys=>
   dsimp only[mY]at o
   split at o
   ·exact o.elim
   ·rename_i hne;unfold lim at o
    split at o
    ·rename_i hl;obtain⟨a,vs,rfl,e1,r1⟩:=rx;obtain⟨b,ws,rfl,e2,r2⟩:=ry;refine .inr (.inr ⟨a,b,vs,ws,rfl,rfl,Hk e1,Hk e2,?_,by rw[r1.length,r2.length];exact wZ hl,λz=>?_,λ_ p hp=>?_⟩)
     ·intro z;subst z;have:=r1.length
      cases xs<;>simp_all
     ·subst z;have e3:ys=[]:=by have:=r2.length;cases ys<;>simp_all
      subst e3;refine o.val s ?_;rw[om];exact⟨a,vs,rfl,e1,r1⟩
     ·exact o μ _ _ (Hg (dD hp)) (s.same (dD hp)) ⟨p,_,rfl,dR,Hf (Hg (dD hp)) _ _ (r1.append r2)⟩
    ·exact o.elim
  |_=>exact o.elim
 |_=>exact o.elim
def gB(xs:Bt)(i:Int)(h:Hs):Rs Dv:=match dU xs i with
 |some d=>.ok d h
 |none=>.bad
def eV(scr:y'):Dv->Dv->Hs->Rs Dv
 |.tup xs,.int i,h=>gB xs i h
 |.ref k,.int i,h=>match getL h k with
  |some xs=>gB xs i h
  |none=>.bad
 |.scr,.int i,h=>gB (scr.map Hc) i h
 |_,_,_=>.bad
theorem oA{μ:Nat->ai}{n:Nat}{H:Hp}:∀ns:y',RelDL G μ n H (ns.map Hc) (ns.map Hi)
 |[]=>Hn
 |i::ns=>Hl rfl (oA ns)
theorem CD{E:XK}{μ:Nat->ai}{h:Hs}{H:Hp}{xs:Bt}{vs:Ic}{i:Int}{Q:VK}(s:Cm G μ h H)(r:RelDL G μ h.length H xs vs)(o:Out G E μ h.length H (gB xs i h) (Ca G) Q):∃v,dU vs i=some v/\Q v H:=by
 unfold gB at o
 cases e:dU xs i with
 |none=>rw[e]at o;exact o.elim
 |some d=>
  rw[e]at o;unfold dU at e⊢;rw[r.length]
  cases q:dS xs.length i with
  |none=>rw[q]at e;cases e
  |some j=>rw[q]at e;obtain⟨v,e1,r1⟩:=r.get e;exact⟨v,e1,o.val s r1⟩
theorem JU:fY G (BL G.K) (eV G.scr):=by
 intro E μ h H x y vx vy Q s rx ry o
 cases y with
 |int i=>
  cases x with
  |tup xs=>obtain⟨a,vs,rfl,e1,r1⟩:=rx;obtain⟨v,e2,q⟩:=CD s r1 o;exact .inr (.inl ⟨a,vs,i,v,rfl,ry,Hk e1,e2,q⟩)
  |ref k=>
   dsimp only[eV]at o
   cases g:getL h k with
   |none=>rw[g]at o;exact o.elim
   |some xs=>rw[g]at o;obtain⟨vs,e1,r1⟩:=s.ob k _ (fG g);obtain⟨_,rfl⟩:=rx;obtain⟨v,e2,q⟩:=CD s r1 o;exact .inl ⟨_,vs,i,v,rfl,ry,Hr e1,e2,q⟩
  |scr=>obtain⟨rfl,hf⟩:=rx;obtain⟨v,e2,q⟩:=CD s (oA G.scr) o;exact .inl ⟨_,_,i,v,rfl,ry,hf.sq,e2,q⟩
  |_=>exact o.elim
 |_=>cases x<;>exact o.elim
theorem WB{E:XK}{a b:bp}{ma mb:M Dv}{pos:Pos}(ha:aK X G E a ma)(hb:aK X G E b mb)(hs:wO b:=by intro _ _;rfl):aK X G E (.Subscript a b pos) (m2 (eV G.scr) ma mb):=λhK=>Hj (BK (by have:=IM (X:=X);rw[hK]at this;exact this) (ha hK) (hb hK) hs) λ_ _ _ t=>rG JU t
theorem xD:dk "tuple"=some (.type "tuple"):=by decide+kernel
theorem xE:dk "list"=some (.type "list"):=by decide+kernel
theorem WC:dk "max"=some (.builtin "max"):=by decide+kernel
theorem WD:dk "min"=some (.builtin "min"):=by decide+kernel
variable{E:XK}{aX:M Bt}{e:bp}{es:List bp}{x:Str}{p pos:Pos}{id T:String}
def pN(G:Cfg)(r:Ic->Hp->VK->Prop)(f:Bs):Prop:=∀(E:XK)(μ:Nat->ai)(h:Hs)(H:Hp)(xs:Bt)(vs:Ic)(Q:VK),Cm G μ h H->RelDL G μ h.length H xs vs->Out G E μ h.length H (f xs h) (Ca G) Q->r vs H Q
def aH(f:Bs)(ms:M Bt ):M Dv:=λρ h=>(ms ρ h).bind f
theorem JV{r:Ic->Hp->VK->Prop}{f:Bs}(hd:pN G r f){σ:St}{H:Hp}{Q:VK}(t:iK G E (aH f aX) σ H Q):wN r (BZ G E aX) σ H Q:=by obtain⟨μ,ρ,h,rs,s,o⟩:=t;exact kZ rs s o λμ1 ds h1 vs H1 x1 Cr s1 r1 o1=>hd E μ1 h1 H1 ds vs Q s1 r1 o1
theorem pO{r:Ic->Hp->VK->Prop}{f:Bs}(hc:Cf X (.builtin id) r)(hd:pN G r f)(hg:Gl X x)(hm:X.mg x=none)(hv:dk x=some (.builtin id))(ha:eO X G E (e::es) aX)(hn:x≠"__name__":=by decide)(Ft:(x==Ib)=false:=by decide)(he:aq (e::es) X.env=(false,eval e X.env)::aq es X.env:=by rfl)(Dp:(backTo pos (aq es X.env)).any (·.1)=false:=by rfl):aK X G E (.Call (.Name x p) (e::es) [] pos) (aH f aX):=λhK=>
 Hj (qZ hc hg hm hv (ha hK) hn Ft he Dp) λ_ _ _ t=>JV hd t
theorem JW{r:Ic->Hp->VK->Prop}{f:Bs}(hc:Cf X (.type T) r)(hd:pN G r f)(hg:Gl X x)(hm:X.mg x=none)(hv:dk x=some (.type T))(ha:eO X G E (e::es) aX)(hn:x≠"__name__":=by decide)(Ft:(x==Ib)=false:=by decide)(he:aq (e::es) X.env=(false,eval e X.env)::aq es X.env:=by rfl)(Dp:(backTo pos (aq es X.env)).any (·.1)=false:=by rfl):aK X G E (.Call (.Name x p) (e::es) [] pos) (aH f aX):=λhK=>
 Hj (rA hc hg hm hv (ha hK) hn Ft he Dp) λ_ _ _ t=>JV hd t
def gH(scr:y'):Dv->Hs->Option Bt 
 |.tup xs,_=>some xs
 |.ref i,h=>getL h i
 |.scr,_=>some (scr.map Hc)
 |_,_=>none
def f1(g:Dv->Hs->Rs Dv):Bs
 |[d],h=>g d h
 |_,_=>.bad
def gX(scr:y')(d:Dv)(h:Hs):Rs Dv:=match gH scr d h with
 |some xs=>.ok (.int xs.length) h
 |none=>.bad
theorem rM{μ:Nat->ai}{n:Nat}{H:Hp}{d:Dv}{vs:Ic}(r:RelDL G μ n H [d] vs):∃v,vs=[v]/\Ca G μ n H d v:=by rw[RelDL]at r;obtain⟨v,rr,rfl,h1,h2⟩:=r;rw[RelDL]at h2;subst h2;exact⟨v,rfl,h1⟩
theorem pP{r:V->Hp->VK->Prop}{g:Dv->Hs->Rs Dv}(hg:lB G r g):pN G (λxs H Q=>∃v,xs=[v]/\r v H Q) (f1 g):=by
 intro E μ h H xs vs Q s rr o
 match xs,rr,o with
 |[],_,o=>exact o.elim
 |_::_::_,_,o=>exact o.elim
 |[d],rr,o=>obtain⟨v,rfl,r1⟩:=rM rr;exact⟨v,rfl,hg E μ h H d v Q s r1 o⟩
theorem CF{μ:Nat->ai}{n:Nat}{H:Hp}{d d':Dv}{vs:Ic}(r:RelDL G μ n H [d,d'] vs):∃v v',vs=[v,v']/\Ca G μ n H d v/\Ca G μ n H d' v':=by rw[RelDL]at r;obtain⟨v,rr,rfl,h1,h2⟩:=r;obtain⟨v',rfl,h3⟩:=rM h2;exact⟨v,v',rfl,h1,h3⟩
theorem CG{μ:Nat->ai}{h:Hs}{H:Hp}{d:Dv}{v:V}{xs:Bt}(s:Cm G μ h H)(r:Ca G μ h.length H d v)(e:gH G.scr d h=some xs):∃a vs,v=.ref a/\(Dj G.K H a vs∨Ct G.K H a vs)/\RelDL G μ h.length H xs vs:=by
 cases d with
 |tup ds=>cases e;obtain⟨a,vs,rfl,e1,r1⟩:=r;exact⟨a,vs,rfl,.inr (Hk e1),r1⟩
 |ref i=>obtain⟨_,rfl⟩:=r;obtain⟨vs,e1,r1⟩:=s.ob i _ (fG e);exact⟨_,vs,rfl,.inl (Hr e1),r1⟩
 |scr=>cases e;obtain⟨rfl,hf⟩:=r;exact⟨_,_,rfl,.inl hf.sq,oA _⟩
 |_=>cases e
def JX(K:ar):V->Hp->VK->Prop:=λx H Q=>∃p ys,x=.ref p/\(Dj K H p ys∨Ct K H p ys)/\Q (.int ys.length) H
theorem JY:lB G (JX G.K) (gX G.scr):=by
 intro E μ h H d v Q s r1 o;unfold gX at o
 cases e:gH G.scr d h with
 |none=>rw[e]at o;exact o.elim
 |some ys=>rw[e]at o;obtain⟨a,ws,rfl,hs,r2⟩:=CG s r1 e;exact⟨a,ws,rfl,hs,by rw[r2.length];exact o.val s rfl⟩
theorem Cf.imp{f:af}{r r':Ic->Hp->VK->Prop}(h:Cf X f r)(i:∀xs H Q,r' xs H Q->r xs H Q):Cf X f r':=λpins s σ H xs us Q I rv q=>h pins s σ H xs us Q I rv (i xs H Q q)
theorem JZ(hg:Gl X "len")(hm:X.mg "len"=none)(ha:eO X G E (e::es) aX)(he:aq (e::es) X.env=(false,eval e X.env)::aq es X.env:=by rfl)(Dp:(backTo pos (aq es X.env)).any (·.1)=false:=by rfl):aK X G E (.Call (.Name "len" p) (e::es) [] pos) (aH (f1 (gX G.scr)) aX):=λhK=>
 pO (Cf.imp (IP (X:=X)) λxs H Q⟨v,h1,a,ys,h2,h3,h4⟩=>⟨a,ys,by rw[h1,h2],by rw[hK];exact h3,h4⟩) (pP JY) hg hm PySem.boot_len ha (by decide) (by decide) he Dp hK
def mZ:Bs
 |[.int i,.int j],h=>.ok (.int (if j>i then j else i)) h
 |_,_=>.bad
def rN:Bs
 |[.int i,.int j],h=>.ok (.int (if j<i then j else i)) h
 |_,_=>.bad
theorem J0{f:Bs}{g:Int->Int->Int}(h2:∀i j h,f [.int i,.int j] h=.ok (.int (g i j)) h)(hb:∀xs h,(∀i j,xs≠[.int i,.int j])->f xs h=.bad):
  pN G (λxs H Q=>∃i j,xs=[.int i,.int j]/\Q (.int (g i j)) H) f:=by
 intro E μ h H xs vs Q s r o
 by_cases hx:∃i j,xs=[.int i,.int j]
 ·obtain⟨i,j,rfl⟩:=hx;obtain⟨v,v',rfl,r1,r2⟩:=CF r;rw[Ca]at r1 r2;subst r1;subst r2;rw[h2]at o;exact⟨i,j,rfl,o.val s rfl⟩
 ·rw[hb xs h (λi j e=>hx ⟨i,j,e⟩)]at o;exact o.elim
theorem WE:pN G (λxs H Q=>∃i j,xs=[.int i,.int j]/\Q (.int (if j>i then j else i)) H) mZ:=J0 (λ_ _ _=>rfl) λxs h hx=>by
 unfold mZ;split
 ·rename_i i j;exact absurd rfl (hx i j)
 ·rfl
theorem WG:pN G (λxs H Q=>∃i j,xs=[.int i,.int j]/\Q (.int (if j<i then j else i)) H) rN:=J0 (λ_ _ _=>rfl) λxs h hx=>by
 unfold rN;split
 ·rename_i i j;exact absurd rfl (hx i j)
 ·rfl
def jX:Dv->Hs->Rs Dv
 |.tup xs,h=>.ok (.tup xs) h
 |.ref i,h=>match getL h i with
  |some xs=>.ok (.tup xs) h
  |none=>.bad
 |_,_=>.bad
def WH(K:ar):V->Hp->VK->Prop:=λx H Q=>∃p ys,x=.ref p/\((Dj K H p ys/\∀l,H l=none->Q (.ref l) (aV H l (.tup ys)))∨(Ct K H p ys/\Q (.ref p) H))
theorem WI:lB G (WH G.K) jX:=by
 intro E μ h H d v Q s r1 o
 cases d with
 |tup ds=>have r1':=r1;obtain⟨a,ws,rfl,e1,r2⟩:=r1;exact⟨a,ws,rfl,.inr ⟨Hk e1,o.val s r1'⟩⟩
 |ref i=>
  dsimp only[jX]at o
  cases g:getL h i with
  |none=>rw[g]at o;exact o.elim
  |some ys=>rw[g]at o;obtain⟨_,rfl⟩:=r1;obtain⟨ws,e1,r2⟩:=s.ob i _ (fG g);exact⟨_,ws,rfl,.inl ⟨Hr e1,λl hl=>o μ _ _ (Hg (dD hl)) (s.same (dD hl)) ⟨l,ws,rfl,dR,Hf (Hg (dD hl)) _ _ r2⟩⟩⟩
 |_=>exact o.elim
theorem CH(hg:Gl X "tuple")(hm:X.mg "tuple"=none)(ha:eO X G E (e::es) aX)(he:aq (e::es) X.env=(false,eval e X.env)::aq es X.env:=by rfl)(Dp:(backTo pos (aq es X.env)).any (·.1)=false:=by rfl):aK X G E (.Call (.Name "tuple" p) (e::es) [] pos) (aH (f1 jX) aX):=λhK=>
 JW (Cf.imp (IQ (X:=X)) λxs H Q⟨v,h1,a,ys,h2,h3⟩=>⟨a,ys,by rw[h1,h2],by rw[hK];exact h3⟩) (pP WI) hg hm xD ha (by decide) (by decide) he Dp hK
def tZ(scr:y')(d:Dv)(h:Hs):Rs Dv:=match gH scr d h with
 |some xs=>.ok (.ref h.length) (h++[.lst xs])
 |none=>.bad
theorem WJ:lB G (λx H Q=>∃p ys,x=.ref p/\(Dj G.K H p ys∨Ct G.K H p ys)/\∀l,H l=none->Q (.ref l) (aV H l (.lst ys))) (tZ G.scr):=by
 intro E μ h H d v Q s r1 o;unfold tZ at o
 cases e:gH G.scr d h with
 |none=>rw[e]at o;exact o.elim
 |some ys=>rw[e]at o;obtain⟨a,ws,rfl,hs,r2⟩:=CG s r1 e;exact⟨a,ws,rfl,hs,λl hl=>lZ s r2 hl o⟩
theorem J1(hc:X.calm=true)(hg:Gl X "max")(hm:X.mg "max"=none)(ha:eO X G E (e::es) aX)(he:aq (e::es) X.env=(false,eval e X.env)::aq es X.env:=by rfl)(Dp:(backTo pos (aq es X.env)).any (·.1)=false:=by rfl):aK X G E (.Call (.Name "max" p) (e::es) [] pos) (aH mZ aX):=
 pO (TN hc) WE hg hm WC ha (by decide) (by decide) he Dp
theorem WK(hc:X.calm=true)(hg:Gl X "min")(hm:X.mg "min"=none)(ha:eO X G E (e::es) aX)(he:aq (e::es) X.env=(false,eval e X.env)::aq es X.env:=by rfl)(Dp:(backTo pos (aq es X.env)).any (·.1)=false:=by rfl):aK X G E (.Call (.Name "min" p) (e::es) [] pos) (aH rN aX):=
 pO (TQ hc) WG hg hm WD ha (by decide) (by decide) he Dp
end
inductive Sr where
 |nx (ρ:Ev) (h:Hs)|rt (d:Dv) (h:Hs)|bk (ρ:Ev) (h:Hs)|ct (ρ:Ev) (h:Hs)|ex (c:Nat) (h:Hs)|bad
abbrev MS:=Ev->Hs->Sr
def Dd(G:Cfg)(E:XK)(μ:Nat->ai)(n:Nat)(H:Hp)(r:Sr)(D:Ends):Prop:=match r with
 |.nx ρ h'=>∀μ' H' σ',Ext μ n H μ' h'.length H'->Cm G μ' h' H'->Cj G μ' h'.length H' ρ σ'->D.nx σ' H'
 |.bk ρ h'=>∀μ' H' σ',Ext μ n H μ' h'.length H'->Cm G μ' h' H'->Cj G μ' h'.length H' ρ σ'->D.bk σ' H'
 |.ct ρ h'=>∀μ' H' σ',Ext μ n H μ' h'.length H'->Cm G μ' h' H'->Cj G μ' h'.length H' ρ σ'->D.ct σ' H'
 |.rt d h'=>∀μ' H' v,Ext μ n H μ' h'.length H'->Cm G μ' h' H'->Ca G μ' h'.length H' d v->D.rt v H'
 |.ex c h'=>∀μ' H' u,Ext μ n H μ' h'.length H'->Cm G μ' h' H'->FlyE G H' c u->E u none H'
 |.bad=>False
theorem Dd.ext{G:Cfg}{E:XK}{μ μ1:Nat->ai}{n n1:Nat}{H H1:Hp}{r:Sr}{D:Ends}(o:Dd G E μ n H r D)(x:Ext μ n H μ1 n1 H1):Dd G E μ1 n1 H1 r D:=by
 cases r with
 |nx ρ h'=>exact λμ' H' σ' y=>o μ' H' σ' (x.trans y)
 |bk ρ h'=>exact λμ' H' σ' y=>o μ' H' σ' (x.trans y)
 |ct ρ h'=>exact λμ' H' σ' y=>o μ' H' σ' (x.trans y)
 |rt d h'=>exact λμ' H' σ' y=>o μ' H' σ' (x.trans y)
 |ex c h'=>exact λμ' H' σ' y=>o μ' H' σ' (x.trans y)
 |bad=>exact o
inductive TSO(G:Cfg)(E:XK)(m:MS)(D:Ends)(σ:St)(H:Hp):Prop
 |mk (μ:Nat->ai) (ρ:Ev) (h:Hs) (rs:Cj G μ h.length H ρ σ) (s:Cm G μ h H) (o:Dd G E μ h.length H (m ρ h) D):TSO G E m D σ H
def xF(G:Cfg)(E:XK)(m:MS):TS:=TSO G E m
def iE(X:Cx)(G:Cfg)(E:XK)(st:iq)(m:MS):Prop:=X.K=G.K->PS X st (xF G E m)
def jY(X:Cx)(G:Cfg)(E:XK)(st:List iq)(m:MS):Prop:=X.K=G.K->Ha X st (xF G E m)
theorem PS.imp{X:Cx}{e:iq}{t t':TS}(h:PS X e t)(i:∀D σ H,t' D σ H->t D σ H):PS X e t':=λpins s σ H D I q=>h pins s σ H D I (i D σ H q)
theorem Ha.imp{X:Cx}{e:List iq}{t t':TS}(h:Ha X e t)(i:∀D σ H,t' D σ H->t D σ H):Ha X e t':=λpins s σ H D I q=>h pins s σ H D I (i D σ H q)
noncomputable def Rs.thenS {α:Type}(r:Rs α) (f:α->Hs->Sr):Sr:=match r with
 |.ok a h=>f a h
 |.ex c h=>.ex c h
 |.bad=>.bad
@[simp] theorem Rs.thenS_ok {α:Type}(a:α) (h:Hs) (f:α->Hs->Sr):(Ht a h).thenS f=f a h:=rfl
@[simp] theorem Rs.thenS_ex {α:Type}(c:Nat) (h:Hs) (f:α->Hs->Sr):(Rs.ex c h).thenS f=.ex c h:=rfl
@[simp] theorem Rs.thenS_bad {α:Type}(f:α->Hs->Sr):(Rs.bad).thenS f=.bad:=rfl
theorem Dd.thenS{α β:Type}{G:Cfg}{E:XK}{μ:Nat->ai}{n:Nat}{H:Hp}{r:Rs α}{f:α->Hs->Sr}{D:Ends}{R:(Nat->ai)->Nat->Hp->α->β->Prop}(o:Dd G E μ n H (r.thenS f) D):Out G E μ n H r R λv H1=>∃μ1 d h1,Ext μ n H μ1 h1.length H1/\Cm G μ1 h1 H1/\R μ1 h1.length H1 d v/\Dd G E μ1 h1.length H1 (f d h1) D:=by
 cases r with
 |bad=>exact o
 |ex c h'=>exact o
 |ok d h'=>exact λμ1 H1 v x1 s1 r1=>⟨μ1,d,h',x1,s1,r1,Dd.ext o x1⟩
variable{X:Cx}{G:Cfg}{E:XK}
section
variable{st:iq}{rest:List iq}{m u:MS}{e:bp}{me:M Dv}{pos:Pos}
theorem kK{m:M Dv}{σ:St}{H:Hp}{f:Dv->Hs->Sr}{D:Ends}{Q1:V->Hp->Prop}{μ:Nat->ai}{ρ:Ev}{h:Hs}(rs:Cj G μ h.length H ρ σ)(s:Cm G μ h H)(o:Dd G E μ h.length H ((m ρ h).thenS f) D)(k:∀μ1 d h1 v H1,Ext μ h.length H μ1 h1.length H1->Cj G μ1 h1.length H1 ρ σ->Cm G μ1 h1 H1->Ca G μ1 h1.length H1 d v->Dd G E μ1 h1.length H1 (f d h1) D->Q1 v H1):iK G E m σ H Q1:=
 ⟨μ,ρ,h,rs,s,(o.thenS (R:=Ca G)).mono λv H1⟨μ1,d,h1,x,s1,r1,o1⟩=>k μ1 d h1 v H1 x (rs.mono x) s1 r1 o1⟩
theorem J2{m:M Bool}{σ:St}{H:Hp}{f:Bool->Hs->Sr}{D:Ends}{Q1:Bool->Hp->Prop}{μ:Nat->ai}{ρ:Ev}{h:Hs}(rs:Cj G μ h.length H ρ σ)(s:Cm G μ h H)(o:Dd G E μ h.length H ((m ρ h).thenS f) D)(k:∀μ1 b h1 H1,Ext μ h.length H μ1 h1.length H1->Cj G μ1 h1.length H1 ρ σ->Cm G μ1 h1 H1->Dd G E μ1 h1.length H1 (f b h1) D->Q1 b H1):iY G E m σ H Q1:=
 ⟨μ,ρ,h,rs,s,(o.thenS (R:=RB)).mono λv H1⟨μ1,d,h1,x,s1,r1,o1⟩=>by have e:v=d:=r1;subst e;exact k μ1 v h1 H1 x (rs.mono x) s1 o1⟩
def bP:MS:=λρ h=>.nx ρ h
def aL(m u:MS):MS:=λρ h=>match m ρ h with
 |.nx ρ1 h1=>u ρ1 h1
 |r=>r
theorem dY:jY X G E [] bP:=λ_=>Ha.imp RO λD σ H⟨μ,ρ,h,rs,s,o⟩=>o μ H σ Hm s rs
theorem bK(h1:iE X G E st m)(h2:jY X G E rest u):jY X G E (st::rest) (aL m u):=λhK=>Ha.imp (RP (h1 hK) (h2 hK)) λD σ H⟨μ,ρ,h,rs,s,o⟩=>by
 refine⟨μ,ρ,h,rs,s,?_⟩;unfold aL at o
 cases q:m ρ h with
 |nx ρ1 h1=>rw[q]at o;exact λμ1 H1 σ1 x1 s1 Cr=>⟨μ1,ρ1,h1,Cr,s1,Dd.ext o x1⟩
 |bk ρ1 h1=>rw[q]at o;exact o
 |ct ρ1 h1=>rw[q]at o;exact o
 |rt ρ1 h1=>rw[q]at o;exact o
 |ex ρ1 h1=>rw[q]at o;exact o
 |bad=>rw[q]at o;exact o
theorem bG(h1:iE X G E st m):jY X G E [st] m:=λhK=>HI (h1 hK)
def dN(me:M Dv):MS:=λρ h=>(me ρ h).thenS λ_ h1=>.nx ρ h1
theorem lD(he:aK X G E e me)(hs:swapsWith e none pos.line X.env=pure false:=by rfl):iE X G E (.Expr e pos) (dN me):=λhK=>PS.imp (RR (he hK) hs) λD σ H⟨μ,ρ,h,rs,s,o⟩=>kK rs s o λμ1 d h1 v H1 x1 Cr s1 r1 o1=>o1 μ1 H1 σ Hm s1 Cr
def aT(me:M Dv):MS:=λρ h=>(me ρ h).thenS λd h1=>.rt d h1
theorem cH(he:aK X G E e me):iE X G E (.Return (some e) pos) (aT me):=λhK=>PS.imp (RT (he hK)) λD σ H⟨μ,ρ,h,rs,s,o⟩=>kK rs s o λμ1 d h1 v H1 x1 Cr s1 r1 o1=>o1 μ1 H1 v Hm s1 r1
def bF(c:M Bool)(t u:MS):MS:=λρ h=>(c ρ h).thenS λb h1=>if b=true then t ρ h1 else u ρ h1
theorem dZ{c:bp}{a b:List iq}{mc:M Bool}(hc:gE X G E c mc)(ha:jY X G E a m)(hb:jY X G E b u):iE X G E (.If c a b pos) (bF mc m u):=λhK=>PS.imp (RV (hc hK) (ha hK) (hb hK)) λD σ H⟨μ,ρ,h,rs,s,o⟩=>
 J2 rs s o λμ1 k h1 H1 x1 Cr s1 o1=>by
  cases k with
  |true=>rw[if_pos rfl]at o1⊢;exact⟨μ1,ρ,h1,Cr,s1,o1⟩
  |false=>rw[if_neg (by decide)]at o1⊢;exact⟨μ1,ρ,h1,Cr,s1,o1⟩
theorem Cj.set{μ:Nat->ai}{n:Nat}{H:Hp}{ρ:Ev}{σ:St}{d:Dv}{v:V}(rs:Cj G μ n H ρ σ)(i:Nat)(r:Ca G μ n H d v):Cj G μ n H (ρ.set i (some d)) (σ.set i (some v)):=⟨by rw[kr,kr];exact rs.len,λj d' e=>by
 have hl:=rs.len
 by_cases Ea:i=j
 ·subst Ea;have hi:i<ρ.length:=by have:=(ba.mp e).1;simpa using this
  rw[dv hi]at e;cases e;exact⟨v,dv (by lia),r⟩
 ·rw[da Ea]at e⊢;exact rs.at_ j d' e⟩
abbrev eB:=Dv->Ev->Option Ev
inductive TGO(G:Cfg)(st:eB)(v:V)(σ:St)(H:Hp)(Q:St->Hp->Prop):Prop
 |mk (μ:Nat->ai) (ρ:Ev) (h:Nat) (d:Dv) (ρ':Ev) (rs:Cj G μ h H ρ σ) (r:Ca G μ h H d v) (e:st d ρ=some ρ') (q:∀σ',Cj G μ h H ρ' σ'->Q σ' H):TGO G st v σ H Q
def uA(G:Cfg)(st:eB):TG:=TGO G st
def jB(X:Cx)(G:Cfg)(tg:bp)(st:eB):Prop:=X.K=G.K->PG X tg (uA G st)
theorem PG.imp{tg:bp}{t t':TG}(h:PG X tg t)(i:∀v σ H Q,t' v σ H Q->t v σ H Q):PG X tg t':=λpins s σ H v u Q I r q=>h pins s σ H v u Q I r (i v σ H Q q)
theorem PGs.imp{tg:List bp}{t t':mW}(h:PGs X tg t)(i:∀v σ H Q,t' v σ H Q->t v σ H Q):PGs X tg t':=λpins s σ H v u Q I r q=>h pins s σ H v u Q I r (i v σ H Q q)
def aI(i:Nat):eB:=λd ρ=>some (ρ.set i (some d))
theorem WL{i:Nat}{x:Str}(hN:X.N.Nodup)(hi:X.N[i]?=some x)(hx:lW X.env.scope x)(hf:X.fn x=true∨X.env.scope.names.lookup x=some .local:=by first|exact .inl rfl|exact .inr rfl|assumption):jB X G (.Name x pos) (aI i):=λ_=>PG.imp (RW hN hi hx hf) λv σ H Q⟨μ,ρ,h,d,ρ',rs,r,e,k⟩=>by cases e;exact k _ (rs.set i r)
abbrev nA:=Bt->Ev->Option Ev
inductive TGSO(G:Cfg)(st:nA)(vs:Ic)(σ:St)(H:Hp)(Q:St->Hp->Prop):Prop
 |mk (μ:Nat->ai) (ρ:Ev) (h:Nat) (ds:Bt) (ρ':Ev) (rs:Cj G μ h H ρ σ) (r:RelDL G μ h H ds vs) (e:st ds ρ=some ρ') (q:∀σ',Cj G μ h H ρ' σ'->Q σ' H):TGSO G st vs σ H Q
def WM(G:Cfg)(st:nA):mW:=TGSO G st
def xG(X:Cx)(G:Cfg)(tg:List bp)(st:nA):Prop:=X.K=G.K->PGs X tg (WM G st)
def gJ:nA:=λds ρ=>match ds with
 |[]=>some ρ
 |_=>none
def dH(s:eB)(t:nA):nA:=λds ρ=>match ds with
 |d::r=>match s d ρ with
  |some ρ1=>t r ρ1
  |none=>none
 |[]=>none
theorem oC:xG X G [] gJ:=λ_=>PGs.imp RZ λvs σ H Q⟨μ,ρ,h,ds,ρ',rs,r,e,k⟩=>by
 cases ds with
 |nil=>cases e;rw[RelDL]at r;subst r;exact⟨rfl,k _ rs⟩
 |cons d r=>cases e
theorem iM{tg:bp}{tgs:List bp}{s:eB}{t:nA}(h1:jB X G tg s)(h2:xG X G tgs t)(hs:(assignEach (tg::tgs) X.env).map (·.2)=assign tg X.env::(assignEach tgs X.env).map (·.2):=by rfl):xG X G (tg::tgs) (dH s t):=λhK=>PGs.imp (R0 (h1 hK) (h2 hK) hs) λvs σ H Q⟨μ,ρ,h,ds,ρ',rs,r,e,k⟩=>by
 cases ds with
 |nil=>cases e
 |cons d ds=>
  rw[RelDL]at r;obtain⟨v,rr,rfl,r1,r2⟩:=r;unfold dH at e;dsimp only at e
  cases q:s d ρ with
  |none=>rw[q]at e;cases e
  |some ρ1=>rw[q]at e;exact⟨v,rr,rfl,μ,ρ,h,d,ρ1,rs,r1,q,λσ1 Cr=>⟨μ,ρ1,h,ds,ρ',Cr,r2,e,k⟩⟩
def gI(n:Nat)(t:nA):eB:=λd ρ=>match d with
 |.tup ds=>if ds.length=n then t ds ρ else none
 |_=>none
theorem oD{tgs:List bp}{k:Nat}{t:nA}{n:Nat}(hc:X.calm=true)(h:xG X G tgs t)(hn:(assignEach tgs X.env).length=n:=by rfl)(Fj:(assignEach tgs X.env).findIdx? (·.1)=none:=by rfl):jB X G (.Tuple tgs k pos) (gI n t):=λhK=>
 PG.imp (R4 hc (h hK) hn Fj) λv σ H Q⟨μ,ρ,hh,d,ρ',rs,r,e,kk⟩=>by
  cases d with
  |tup ds=>
   dsimp only[gI]at e
   split at e
   ·rename_i hl;obtain⟨a,vs,rfl,e1,r1⟩:=r;exact⟨a,vs,rfl,Hk e1,by rw[r1.length];exact hl,μ,ρ,hh,ds,ρ',rs,r1,e,kk⟩
   ·cases e
  |_=>cases e
def aR(me:M Dv)(st:eB):MS:=λρ h=>(me ρ h).thenS λd h1=>match st d ρ with
 |some ρ1=>.nx ρ1 h1
 |none=>.bad
theorem WN{st:eB}{σ:St}{H:Hp}{D:Ends}(t:xF G E (aR me st) D σ H):wI (iK G E me) (uA G st) D σ H:=by
 obtain⟨μ,ρ,h,rs,s,o⟩:=t;refine kK rs s o λμ1 d h1 v H1 x1 Cr s1 r1 o1=>?_
 cases q:st d ρ with
 |none=>rw[q]at o1;exact o1.elim
 |some ρ1=>rw[q]at o1;exact⟨μ1,ρ,h1.length,d,ρ1,Cr,r1,q,λσ' rs'=>o1 μ1 H1 σ' Hm s1 rs'⟩
theorem WO{tg:bp}{st:eB}(he:aK X G E e me)(hg:jB X G tg st)(hs:swapsWithSole [tg] e pos.line X.env=pure false:=by rfl)(hw:swappedStores [tg] e X.env=pure none:=by rfl)(h1:(assignEach [tg] X.env).map (·.2)=[assign tg X.env]:=by rfl):iE X G E (.Assign [tg] e pos) (aR me st):=λhK=>PS.imp (A8 (he hK) (hg hK) hs hw h1) λ_ _ _ t=>WN t
theorem CI{i:Nat}{x:Str}{pos':Pos}(hN:X.N.Nodup)(hi:X.N[i]?=some x)(hx:lW X.env.scope x)(he:aK X G E e me)(hs:swapsWith e (some (.Name x pos')) pos.line X.env=pure false:=by rfl)(hf:X.fn x=true∨X.env.scope.names.lookup x=some .local:=by first|exact .inl rfl|exact .inr rfl|assumption):
  iE X G E (.Assign [.Name x pos'] e pos) (aR me (aI i)):=λhK=>PS.imp (A9 hN hi hx (he hK) hs hf) λD σ H t=>by
 obtain⟨μ,ρ,h,rs,s,o⟩:=t;exact kK rs s o λμ1 d h1 v H1 x1 Cr s1 r1 o1=>o1 μ1 H1 _ Hm s1 (Cr.set i r1)
end
structure Src where
 n:Nat
 get:Nat->Hs->Bu
 fin:Hs->Bool
def Eb(G:Cfg)(μ0:Nat->ai)(n0:Nat)(H0:Hp)(src:Src)(J:It):Prop:=
 ∀(k:Nat)(μ:Nat->ai)(h:Hs)(H:Hp),Ext μ0 n0 H0 μ h.length H->Cm G μ h H->
  (k<src.n->∀d,src.get k h=some d->J.go k H/\∀x H',J.yld k H x H'->Dw H H'/\Ca G μ h.length H' d x)/\(k=src.n->src.fin h=true->J.stop k H)
def CJ(G:Cfg)(E:XK)(m:M Src):TI:=TOu G E m (Eb G)
def jC(X:Cx)(G:Cfg)(E:XK)(tg iter:bp)(m:M Src):Prop:=X.K=G.K->PI X tg iter (CJ G E m)
theorem PI.imp{X:Cx}{tg iter:bp}{t t':TI}(h:PI X tg iter t)(i:∀σ H R,t' σ H R->t σ H R):PI X tg iter t':=λpins s σ H R I q=>h pins s σ H R I (i σ H R q)
def cY(xs:Bt):Src:=⟨xs.length,λk _=>xs[k]?,λ_=>true⟩
def eW(i n:Nat):Src:=⟨n,λk h=>match getL h i with
 |some xs=>if xs.length=n then xs[k]? else none
 |none=>none,λh=>match getL h i with
 |some xs=>xs.length==n
 |none=>false⟩
def bX(lo hi:Int):Src:=⟨(hi-lo).toNat,λk _=>some (.int (lo+k)),λ_=>true⟩
def cC(f:Dv->Hs->Rs Src)(m:M Dv):M Src:=λρ h=>(m ρ h).bind f
section
variable{tg e a b:bp}{me ma mb:M Dv}{pos p:Pos}
def eM:Dv->Hs->Rs Src
 |.ref i,h=>match getL h i with
  |some xs=>.ok (eW i xs.length) h
  |none=>.bad
 |_,_=>.bad
def fI:Dv->Hs->Rs Src
 |.tup xs,h=>.ok (cY xs) h
 |_,_=>.bad
theorem oE(he:aK X G E e me):jC X G E tg e (cC eM me):=λhK=>PI.imp (SF (he hK)) λσ H R⟨μ,ρ,h,rs,s,o⟩=>gF rs s o λμ1 x h1 vx H1 x1 Cr s1 r1 o1=>by
 rw[hK]
 cases x with
 |ref i=>
  obtain⟨hi,rfl⟩:=r1;dsimp only[eM]at o1
  cases g:getL h1 i with
  |none=>rw[g]at o1;exact o1.elim
  |some xs=>
   rw[g]at o1;obtain⟨vs,e1,r2⟩:=s1.ob i _ (fG g);refine⟨_,rfl,⟨vs,Hr e1⟩,o1.val s1 λk μ2 h2 H2 x2 s2=>?_⟩;have emu:=x2.mu i hi;constructor
   ·intro hk d hd;dsimp only[eW]at hd
    cases g2:getL h2 i with
    |none=>rw[g2]at hd;cases hd
    |some ys=>
     rw[g2]at hd;dsimp only at hd
     split at hd
     ·obtain⟨ws,e2,r3⟩:=s2.ob i _ (fG g2);rw[emu]at e2;obtain⟨v,ev,rv⟩:=r3.get hd;refine⟨⟨ws,v,Hr e2,ev⟩,λx H' hy=>?_⟩;obtain⟨rfl,hy⟩:=hy;have:=hy ws (Hr e2);rw[ev]at this;cases this;exact⟨Dw.refl _,rv⟩
     ·cases hd
   ·intro hk hf;dsimp only[eW]at hf
    cases g2:getL h2 i with
    |none=>rw[g2]at hf;cases hf
    |some ys=>
     rw[g2]at hf;obtain⟨ws,e2,r3⟩:=s2.ob i _ (fG g2);rw[emu]at e2;refine⟨ws,Hr e2,?_⟩;have h3:ys.length=xs.length:=by simpa using hf
     rw[r3.length,h3,hk];exact ao _
 |_=>exact o1.elim
theorem Eb.tup{μ:Nat->ai}{n:Nat}{H:Hp}{a:ai}{vs:Ic}{xs:Bt}{K:ar}(e:H a=some (.tup vs))(r:RelDL G μ n H xs vs)(hi:∀(X:Cx),True):Eb G μ n H (cY xs) (BB K a):=by
 intro k μ2 h2 H2 x2 s2;have e2:=x2.im a (.tup vs) trivial e;have r2:=Hf x2 _ _ r;have inj:∀ws,Ct K H2 a ws->ws=vs->True:=λ_ _ _=>trivial;constructor
 ·intro hk d hd;obtain⟨v,ev,rv⟩:=r2.get hd;refine⟨⟨vs,v,Hk e2,ev⟩,λx H' hy=>?_⟩;obtain⟨rfl,hy⟩:=hy;have:=hy vs (Hk e2);rw[ev]at this;cases this;exact⟨Dw.refl _,rv⟩
 ·intro hk _;exact⟨vs,Hk e2,by rw[r2.length,hk];exact ao _⟩
theorem mF(he:aK X G E e me):jC X G E tg e (cC fI me):=λhK=>PI.imp (SG (he hK)) λσ H R⟨μ,ρ,h,rs,s,o⟩=>gF rs s o λμ1 x h1 vx H1 x1 Cr s1 r1 o1=>by
 cases x with
 |tup xs=>obtain⟨a,vs,rfl,e1,r2⟩:=r1;exact⟨a,rfl,⟨vs,Hk e1⟩,o1.val s1 (Eb.tup e1 r2 λ_=>trivial)⟩
 |_=>exact o1.elim
def iN(i:Int):Bool:=decide (-4611686018427387904<=i)&&decide (i<4611686018427387904)
def cJ:Bt->Hs->Rs Src
 |[.int j],h=>if iN j=true then .ok (bX 0 j) h else .bad
 |_,_=>.bad
def pQ:Bt->Hs->Rs Src
 |[.int i,.int j],h=>if iN i=true/\iN j=true then .ok (bX i j) h else .bad
 |_,_=>.bad
def aX(f:Bt->Hs->Rs Src)(ms:M Bt ):M Src:=λρ h=>(ms ρ h).bind f
theorem Eb.rng{μ:Nat->ai}{n:Nat}{H:Hp}(lo hi:Int):Eb G μ n H (bX lo hi) (tM lo (hi-lo).toNat):=by
 intro k μ2 h2 H2 x2 s2;constructor
 ·intro hk d hd;cases hd;exact⟨hk,λx H' hy=>by obtain⟨rfl,rfl⟩:=hy;exact⟨Dw.refl _,rfl⟩⟩
 ·intro hk _;exact rf hk.symm
variable{ms:M Bt}
theorem gY(hg:Gl X "range")(hm:X.mg "range"=none)(ha:eO X G E [a] ms)(hs:aq [a] X.env=[(false,eval a X.env)]:=by rfl):jC X G E tg (.Call (.Name "range" p) [a] [] pos) (aX cJ ms):=λhK=>
 PI.imp (SJ hg hm (ha hK) hs) λσ H R⟨μ,ρ,h,rs,s,o⟩=>kZ rs s o λμ1 ds h1 vs H1 x1 Cr s1 r1 o1=>by
  unfold cJ at o1
  split at o1
  ·rename_i j
   split at o1
   ·rename_i hj;obtain⟨v,rfl,rv⟩:=rM r1;rw[Ca]at rv;subst rv;simp only[iN,fg,decide_eq_true_eq]at hj;refine⟨j,rfl,by lia,by lia,?_⟩;have:=o1.val s1 (Eb.rng (G:=G) (μ:=μ1) (n:=h1.length) (H:=H1) 0 j);rw[Int.sub_zero]at this;exact this
   ·exact o1.elim
  ·exact o1.elim
theorem WQ(hg:Gl X "range")(hm:X.mg "range"=none)(ha:eO X G E [a,b] ms)(hs:aq [a,b] X.env=[(false,eval a X.env),(false,eval b X.env)]:=by rfl)(hs2:aq [b] X.env=[(false,eval b X.env)]:=by rfl):jC X G E tg (.Call (.Name "range" p) [a,b] [] pos) (aX pQ ms):=λhK=>
 PI.imp (SK hg hm (ha hK) hs hs2) λσ H R⟨μ,ρ,h,rs,s,o⟩=>kZ rs s o λμ1 ds h1 vs H1 x1 Cr s1 r1 o1=>by
  unfold pQ at o1
  split at o1
  ·rename_i i j
   split at o1
   ·rename_i hj;obtain⟨v,v',rfl,rv,rv'⟩:=CF r1;rw[Ca]at rv rv';subst rv;subst rv';simp only[iN,fg,decide_eq_true_eq]at hj;exact⟨i,j,rfl,⟨by lia,by lia,by lia,by lia⟩,o1.val s1 (Eb.rng (G:=G) (μ:=μ1) (n:=h1.length) (H:=H1) i j)⟩
   ·exact o1.elim
  ·exact o1.elim
end
def fS(src:Src)(st:eB)(body:MS):Nat->Nat->MS
 |0,_=>λρ h=>if src.fin h=true then .nx ρ h else .bad
 |f+1,k=>λρ h=>match src.get k h with
  |none=>.bad
  |some d=>match st d ρ with
   |none=>.bad
   |some ρ1=>match body ρ1 h with
    |.nx ρ2 h2=>fS src st body f (k+1) ρ2 h2
    |.ct ρ2 h2=>fS src st body f (k+1) ρ2 h2
    |.bk ρ2 h2=>.nx ρ2 h2
    |r=>r
def dC(mi:M Src)(st:eB)(body:MS):MS:=λρ h=>(mi ρ h).thenS λsrc h1=>fS src st body src.n 0 ρ h1
section
variable{tg iter:bp}{body:List iq}{mi:M Src}{st:eB}{mb:MS}{pos:Pos}
theorem gZ(hp:zf (model X.prog X.w) X.A X.env X.xe)(hc:X.calm=true)(hi:jC X G E tg iter mi)(hg:jB X G tg st)(hb:jY X G E body mb)(hs:∀x,foldedSetIterable iter X.env x=pure x:=by intro _;rfl):iE X G E (.For tg iter body [] pos) (dC mi st mb):=λhK=>PS.imp (SO hp hc (hi hK) (hg hK) (hb hK) hs) λD σ H⟨μ,ρ,h,rs,s,o⟩=>by
 refine⟨μ,ρ,h,rs,s,(o.thenS (R:=Eb G)).mono λJ H1⟨μ1,src,h1,x1,s1,ok,o1⟩=>?_⟩;refine⟨λi m σ H=>∃μ2 ρ2 h2,Ext μ1 h1.length H1 μ2 h2.length H/\Cj G μ2 h2.length H ρ2 σ/\Cm G μ2 h2 H/\i+m=src.n/\Dd G E μ2 h2.length H (fS src st mb m i ρ2 h2) D,⟨src.n,μ1,ρ,h1,Hm,rs.mono x1,s1,xb _,o1⟩,?_⟩
 rintro i m σ2 H2 ⟨μ2,ρ2,h2,x2,Em,s2,him,o2⟩
 cases m with
 |zero=>
  unfold fS at o2
  split at o2
  ·rename_i hf;exact .inl ⟨(ok i μ2 h2 H2 x2 s2).2 (by lia) hf,o2 μ2 H2 σ2 Hm s2 Em⟩
  ·exact o2.elim
 |succ m=>
  unfold fS at o2
  cases q:src.get i h2 with
  |none=>rw[q]at o2;exact o2.elim
  |some d=>
   rw[q]at o2;dsimp only at o2
   cases q2:st d ρ2 with
   |none=>rw[q2]at o2;exact o2.elim
   |some ρ3=>
    rw[q2]at o2;dsimp only at o2;obtain⟨go,yl⟩:=(ok i μ2 h2 H2 x2 s2).1 (by lia) d q;refine .inr ⟨go,λσ' H'=>∃μ3 ρ4 h4,Ext μ1 h1.length H1 μ3 h4.length H'/\Cj G μ3 h4.length H' ρ4 σ'/\Cm G μ3 h4 H'/\(i+1)+m=src.n/\Dd G E μ3 h4.length H' (fS src st mb m (i+1) ρ4 h4) D,λσ' H' z=>⟨m,lg m,z⟩,λx H' hy=>?_⟩;obtain⟨sm,rx⟩:=yl x H' hy;have xs:Ext μ2 h2.length H2 μ2 h2.length H':=Hg sm;refine⟨μ2,ρ2,h2.length,d,ρ3,Em.mono xs,rx,q2,λσ3 rs3=>⟨μ2,ρ3,h2,rs3,s2.same sm,?_⟩⟩;have step:∀ρ5 h5,Dd G E μ2 h2.length H2 (fS src st mb m (i+1) ρ5 h5) D->∀μ6 H6 σ6,Ext μ2 h2.length H' μ6 h5.length H6->Cm G μ6 h5 H6->Cj G μ6 h5.length H6 ρ5 σ6->
      ∃μ3 ρ4 h4,Ext μ1 h1.length H1 μ3 h4.length H6/\Cj G μ3 h4.length H6 ρ4 σ6/\Cm G μ3 h4 H6/\(i+1)+m=src.n/\Dd G E μ3 h4.length H6 (fS src st mb m (i+1) ρ4 h4) D:=
     λρ5 h5 o5 μ6 H6 σ6 x6 s6 rs6=>⟨μ6,ρ5,h5,(x2.trans xs).trans x6,rs6,s6,by lia,o5.ext (xs.trans x6)⟩
    cases q3:mb ρ3 h2 with
    |nx ρ5 h5=>rw[q3]at o2;exact step ρ5 h5 o2
    |ct ρ5 h5=>rw[q3]at o2;exact step ρ5 h5 o2
    |bk ρ5 h5=>rw[q3]at o2;exact λμ6 H6 σ6 x6 s6 rs6=>o2 μ6 H6 σ6 (xs.trans x6) s6 rs6
    |rt d5 h5=>rw[q3]at o2;exact λμ6 H6 σ6 x6 s6 rs6=>o2 μ6 H6 σ6 (xs.trans x6) s6 rs6
    |ex d5 h5=>rw[q3]at o2;exact λμ6 H6 σ6 x6 s6 rs6=>o2 μ6 H6 σ6 (xs.trans x6) s6 rs6
    |bad=>rw[q3]at o2;exact o2.elim
end
abbrev MC:=Ev->Hs->Bt->Rs (Ev×Bt)
def cG(me:M Dv):MC:=λρ h acc=>match me ρ h with
 |.ok d h1=>if acc.length<1000000 then .ok (ρ,acc++[d]) h1 else .bad
 |_=>.bad
def hJ(src:Src)(st:eB)(test:M Bool)(inner:MC):Nat->Nat->MC
 |0,_=>λρ h acc=>if src.fin h=true then .ok (ρ,acc) h else .bad
 |f+1,k=>λρ h acc=>match src.get k h with
  |none=>.bad
  |some d=>match st d ρ with
   |none=>.bad
   |some ρ1=>match test ρ1 h with
    |.ok true h2=>match inner ρ1 h2 acc with
     |.ok r h3=>hJ src st test inner f (k+1) r.1 h3 r.2
     |_=>.bad
    |.ok false h2=>hJ src st test inner f (k+1) ρ1 h2 acc
    |_=>.bad
def gQ(mi:M Src)(st:eB)(test:M Bool)(inner:MC):MC:=λρ h acc=>match mi ρ h with
 |.ok src h1=>hJ src st test inner src.n 0 ρ h1 acc
 |_=>.bad
def dP:M Bool:=λ_ h=>.ok true h
def mG(cap:List (Option Nat))(ρ:Ev):Ev:=cap.map λo=>match o with
 |some j=>(ρ[j]?).getD none
 |none=>none
def cR(mi:M Src)(cap:List (Option Nat))(st:eB)(test:M Bool)(inner:MC):M Bt:=λρ h=>(mi ρ h).bind λsrc h1=>match hJ src st test inner src.n 0 (mG cap ρ) h1 []with
 |.ok r h2=>.ok r.2 h2
 |_=>.bad
inductive TCO(G:Cfg)(m:MC)(σ:St)(H:Hp)(vs:Ic)(K:St->Hp->Ic->Prop):Prop
 |mk (μ:Nat->ai) (ρ:Ev) (h:Hs) (xs:Bt) (ρ':Ev) (xs':Bt) (h':Hs) (rs:Cj G μ h.length H ρ σ) (s:Cm G μ h H) (r:RelDL G μ h.length H xs vs) (e:m ρ h xs=.ok (ρ',xs') h')
  (q:∀μ' H' σ' Dr,Ext μ h.length H μ' h'.length H'->Cm G μ' h' H'->Cj G μ' h'.length H' ρ' σ'->RelDL G μ' h'.length H' xs' Dr->K σ' H' Dr):TCO G m σ H vs K
def rO(G:Cfg)(m:MC):TC:=TCO G m
section
variable{G:Cfg}
theorem WR{μ:Nat->ai}{n:Nat}{H:Hp}{ρ:Ev}{σ:St}(rs:Cj G μ n H ρ σ)(cap:List (Option Nat)):Cj G μ n H (mG cap ρ) (rB cap σ):=⟨by simp[mG,rB],λi d e=>by
 unfold mG at e;rw[dm]at e
 cases q:cap[i]? with
 |none=>rw[q]at e;cases e
 |some o=>
  rw[q]at e
  cases o with
  |none=>cases e
  |some j=>
   have e':(ρ[j]?).getD none=some d:=by simpa using e
   have e2:ρ[j]?=some (some d):=by
    cases z:ρ[j]? with
    |none=>rw[z]at e';cases e'
    |some y=>rw[z]at e';simp at e';rw[e']
   obtain⟨v,e3,r⟩:=rs.at_ j d e2;refine⟨v,?_,r⟩;unfold rB;rw[dm,q];simp[e3]⟩
theorem xH{E:XK}{me:M Dv}{σ:St}{H:Hp}{vs:Ic}{K:St->Hp->Ic->Prop}(t:rO G (cG me) σ H vs K):JC (iK G E me) σ H vs K:=by
 obtain⟨μ,ρ,h,xs,ρ',xs',h',rs,s,r,e,k⟩:=t;refine⟨μ,ρ,h,rs,s,?_⟩;unfold cG at e
 cases q:me ρ h with
 |bad=>rw[q]at e;cases e
 |ex c h1=>rw[q]at e;cases e
 |ok d h1=>
  rw[q]at e;dsimp only at e
  split at e
  ·rename_i hl;cases e;intro μ1 H1 v x1 s1 r1;refine⟨?_,k μ1 H1 σ _ x1 s1 (rs.mono x1) ((Hf x1 _ _ r).append (Hl r1 Hn))⟩;rw[r.length];exact av hl (by decide)
  ·cases e
theorem J3{E:XK}{src:Src}{st:eB}{test:M Bool}{inner:MC}{J:It}{μ1:Nat->ai}{h1:Hs}{H1:Hp}{ρ ρ':Ev}{σ:St}{xs xs':Bt}{vs:Ic}{h':Hs}{K:St->Hp->Ic->Prop}(ok:Eb G μ1 h1.length H1 src J)(rs:Cj G μ1 h1.length H1 ρ σ)(s1:Cm G μ1 h1 H1)(r:RelDL G μ1 h1.length H1 xs vs)(e:hJ src st test inner src.n 0 ρ h1 xs=.ok (ρ',xs') h')(k:∀μ' H' σ' Dr,Ext μ1 h1.length H1 μ' h'.length H'->Cm G μ' h' H'->Cj G μ' h'.length H' ρ' σ'->RelDL G μ' h'.length H' xs' Dr->K σ' H' Dr):
  tT J (uA G st) (iY G E test) (rO G inner) K σ H1 vs:=by
 refine⟨λi m σ H vs=>∃μ2 ρ2 h2 xs2,Ext μ1 h1.length H1 μ2 h2.length H/\Cj G μ2 h2.length H ρ2 σ/\Cm G μ2 h2 H/\RelDL G μ2 h2.length H xs2 vs/\i+m=src.n/\hJ src st test inner m i ρ2 h2 xs2=.ok (ρ',xs') h',⟨src.n,μ1,ρ,h1,xs,Hm,rs,s1,r,xb _,e⟩,?_⟩
 rintro i m σ2 H2 vs2 ⟨μ2,ρ2,h2,xs2,x2,Em,s2,r2,him,e2⟩
 cases m with
 |zero=>
  unfold hJ at e2
  split at e2
  ·rename_i hf;cases e2;exact .inl ⟨(ok i μ2 _ H2 x2 s2).2 (by lia) hf,k μ2 H2 σ2 vs2 x2 s2 Em r2⟩
  ·cases e2
 |succ m=>
  unfold hJ at e2
  cases q:src.get i h2 with
  |none=>rw[q]at e2;cases e2
  |some d=>
   rw[q]at e2;dsimp only at e2
   cases q2:st d ρ2 with
   |none=>rw[q2]at e2;cases e2
   |some ρ3=>
    rw[q2]at e2;dsimp only at e2;obtain⟨go,yl⟩:=(ok i μ2 h2 H2 x2 s2).1 (by lia) d q;refine .inr ⟨go,λσ' H' Dr=>∃μ3 ρ4 h4 xs4,Ext μ1 h1.length H1 μ3 h4.length H'/\Cj G μ3 h4.length H' ρ4 σ'/\Cm G μ3 h4 H'/\RelDL G μ3 h4.length H' xs4 Dr/\(i+1)+m=src.n/\hJ src st test inner m (i+1) ρ4 h4 xs4=.ok (ρ',xs') h',
     λσ' H' Dr z=>⟨m,lg m,z⟩,λx H' hy=>?_⟩
    obtain⟨sm,rx⟩:=yl x H' hy;have xsm:Ext μ2 h2.length H2 μ2 h2.length H':=Hg sm;refine⟨μ2,ρ2,h2.length,d,ρ3,Em.mono xsm,rx,q2,λσ3 rs3=>⟨μ2,ρ3,h2,rs3,s2.same sm,?_⟩⟩
    cases q3:test ρ3 h2 with
    |bad=>rw[q3]at e2;cases e2
    |ex c h3=>rw[q3]at e2;cases e2
    |ok b h3=>
     rw[q3]at e2;intro μ4 H4 b' x4 s4 rb;have eb:b'=b:=rb;subst eb
     cases b' with
     |false=>rw[if_neg (by decide)];exact⟨μ4,ρ3,h3,xs2,(x2.trans xsm).trans x4,rs3.mono x4,s4,Hf (xsm.trans x4) _ _ r2,by lia,e2⟩
     |true=>
      rw[if_pos rfl];dsimp only at e2
      cases q4:inner ρ3 h3 xs2 with
      |bad=>rw[q4]at e2;cases e2
      |ex c h5=>rw[q4]at e2;cases e2
      |ok rr h5=>rw[q4]at e2;obtain⟨ρ5,xs5⟩:=rr;exact⟨μ4,ρ3,h3,xs2,ρ5,xs5,h5,rs3.mono x4,s4,Hf (xsm.trans x4) _ _ r2,q4,λμ6 H6 σ6 vs6 x6 s6 rs6 r6=>⟨μ6,ρ5,h5,xs5,((x2.trans xsm).trans x4).trans x6,rs6,s6,r6,by lia,e2⟩⟩
theorem CK{E:XK}{mi:M Src}{st:eB}{test:M Bool}{inner:MC}{σ:St}{H:Hp}{vs:Ic}{K:St->Hp->Ic->Prop}(t:rO G (gQ mi st test inner) σ H vs K):JH (CJ G E mi) (uA G st) (iY G E test) (rO G inner) σ H vs K:=by
 obtain⟨μ,ρ,h,xs,ρ',xs',h',rs,s,r,e,k⟩:=t;refine⟨μ,ρ,h,rs,s,?_⟩;unfold gQ at e
 cases q:mi ρ h with
 |bad=>rw[q]at e;cases e
 |ex c h1=>rw[q]at e;cases e
 |ok src h1=>rw[q]at e;exact λμ1 H1 J x1 s1 ok=>J3 ok (rs.mono x1) s1 (Hf x1 _ _ r) e λμ2 H2 σ2 vs2 x2=>k μ2 H2 σ2 vs2 (x1.trans x2)
def RL(G:Cfg):(Nat->ai)->Nat->Hp->Bt->V->Prop:=λμ n H xs v=>∃p vs,v=.ref p/\H p=some (.lst vs)/\(∀i,i<n->μ i≠p)/\RelDL G μ n H xs vs
def xI(G:Cfg)(E:XK)(m:M Bt ):TE:=TOu G E m (RL G)
def oF(X:Cx)(G:Cfg)(E:XK)(pe:bp)(m:M Bt ):Prop:=X.K=G.K->PE X pe (xI G E m)
theorem Cm.adopt{μ:Nat->ai}{h:Hs}{H:Hp}{p:ai}{ds:Bt}{vs:Ic}(s:Cm G μ h H)(e:H p=some (.lst vs))(hq:∀i,i<h.length->μ i≠p)(r:RelDL G μ h.length H ds vs):
  Ext μ h.length H (λi=>if i=h.length then p else μ i) (h++[Hd ds]).length H/\Cm G (λi=>if i=h.length then p else μ i) (h++[.lst ds]) H:=by
 have hl:(h++[Hd ds]).length=h.length+1:=by simp
 have x:Ext μ h.length H (λi=>if i=h.length then p else μ i) (h++[Hd ds]).length H:=⟨by lia,λi hi=>if_neg (ay hi),λa o _ e=>e⟩
 refine⟨x,λi j hi hj e=>?_,λi o q=>?_,s.tab⟩
 ·rw[hl]at hi hj
  by_cases h1:i=h.length<;>by_cases h2:j=h.length
  ·lia
  ·rw[if_pos h1,if_neg h2]at e;exact absurd e.symm (hq j (by lia))
  ·rw[if_neg h1,if_pos h2]at e;exact absurd e (hq i (by lia))
  ·rw[if_neg h1,if_neg h2]at e;exact s.inj i j (by lia) (by lia) e
 ·by_cases h1:i<h.length
  ·rw[ed h1]at q;have r1:=s.ob i o q
   cases o with
   |lst xs=>obtain⟨ws,e1,r2⟩:=r1;exact⟨ws,by rw[if_neg (ay h1)];exact e1,Hf x _ _ r2⟩
   |clo k t=>rw[if_neg (ay h1)];exact r1.clo x
   |dct ks=>rw[if_neg (ay h1)];exact r1
  ·rw[gj (by lia)]at q;have h2:i=h.length:=by have:=(ba.mp q).1;simp at this;lia
   subst h2;simp at q;subst q;exact⟨vs,by rw[if_pos rfl];exact e,Hf x _ _ r⟩
def dF(m:M Bt ):M Dv:=λρ h=>(m ρ h).bind λxs h1=>.ok (.ref h1.length) (h1++[.lst xs])
theorem CL{E:XK}{m:M Bt}{σ:St}{H:Hp}{Q:VK}(t:iK G E (dF m) σ H Q):xI G E m σ H Q:=by obtain⟨μ,ρ,h,rs,s,o⟩:=t;refine⟨μ,ρ,h,rs,s,(o.bind (R1:=RL G)).mono λv H1⟨μ1,xs,h1,x1,s1,⟨p,vs,ev,e1,hq,r1⟩,o1⟩=>?_⟩;subst ev;obtain⟨x2,s2⟩:=s1.adopt e1 hq r1;exact o1 _ _ _ x2 s2 ⟨by simp,by show Hz p=Hz (if h1.length=h1.length then p else μ1 h1.length);rw[if_pos rfl]⟩
theorem rQ{X:Cx}{E:XK}{pe:bp}{m:M Bt}(h:oF X G E pe m):aK X G E pe (dF m):=λhK=>Hj (h hK) λ_ _ _ t=>CL t
theorem xJ{E E':XK}{mi:M Src}{cap:List (Option Nat)}{st:eB}{test:M Bool}{inner:MC}{σ:St}{H:Hp}{Q:VK}(t:xI G E (cR mi cap st test inner) σ H Q):BS (CJ G E mi) cap (uA G st) (iY G E' test) (rO G inner) σ H Q:=by
 obtain⟨μ,ρ,h,rs,s,o⟩:=t;refine⟨μ,ρ,h,rs,s,(o.bind (R1:=Eb G)).mono λJ H1⟨μ1,src,h1,x1,s1,ok,o1⟩=>?_⟩
 cases q:hJ src st test inner src.n 0 (mG cap ρ) h1 []with
 |bad=>rw[q]at o1;exact o1.elim
 |ex c h2=>rw[q]at o1;exact o1.elim
 |ok r h2=>rw[q]at o1;obtain⟨ρ',xs'⟩:=r;refine J3 ok (WR (rs.mono x1) cap) s1 Hn q λμ2 H2 σ2 vs2 x2 s2 Em r2 p hp=>?_;exact o1 μ2 _ _ (x2.trans (Hg (dD hp))) (s2.same (dD hp)) ⟨p,vs2,rfl,dR,s2.not hp,Hf (Hg (dD hp)) _ _ r2⟩
end
section
variable{elt tg iter Dh Cd:bp}{ifs Co:List bp}{sc:fy}{ps pos:Pos}{mi mi':M Src}{st En:eB}{test Dz:M Bool}{me:M Dv}{N:Br}{cap:List (Option Nat)}
def lE(X:Cx)(G:Cfg)(ifs:List bp)(m:M Bool):Prop:=X.K=G.K->PTs X ifs (iY G E0 m)
theorem PTs.imp{Y:Cx}{ifs:List bp}{t t':TT}(h:PTs Y ifs t)(i:∀σ H Q,t' σ H Q->t σ H Q):PTs Y ifs t':=λpins s σ H Q I q=>h pins s σ H Q I (i σ H Q q)
theorem jL{Y:Cx}:lE Y G [] dP:=λ_=>PTs.imp VP λσ H Q⟨μ,ρ,h,rs,s,o⟩=>o.val s rfl
theorem pR{Y:Cx}{c:bp}{m:M Bool}(h:gE Y G E0 c m):lE Y G [c] m:=λhK=>VQ (h hK)
theorem Ga.imp{Y:Cx}{D:ai}{m:Sem Unit}{t t':TC}(h:Ga Y D m t)(i:∀σ H xs K,t' σ H xs K->t σ H xs K):Ga Y D m t':=λpins s σ H xs K I a f q=>h pins s σ H xs K I a f (i σ H xs K q)
theorem jM(hc:X.calm=true)(C:Df X sc N cap)(hi:jC X G E tg iter mi)(hg:∀s H ex,jB (cF X sc N s H ex) G tg st)(Gd:∀s H ex,lE (cF X sc N s H ex) G ifs test)(Ff:∀s H ex,aK (cF X sc N s H ex) G E0 elt me)(hs:∀x,foldedSetIterable iter X.env x=pure x:=by intro _;rfl):oF X G E (.ListComp elt [⟨tg,iter,ifs,0⟩] sc ps) (cR mi cap st test (cG me)):=λhK=>
 Hj (JJ hc C rfl (λit D env=>JF elt tg iter ifs sc ps (.ref it) D env) (hi hK) (λs H ex=>hg s H ex hK) (λs H ex=>Gd s H ex hK) (λs H ex D=>Ga.imp (wX (Ff s H ex hK)) λ_ _ _ _ t=>xH t) hs) λ_ _ _ t=>xJ t
theorem WS(hc:X.calm=true)(C:Df X sc N cap)(hi:jC X G E tg iter mi)(hg:∀s H ex,jB (cF X sc N s H ex) G tg st)(Gd:∀s H ex,lE (cF X sc N s H ex) G ifs test)(hi':∀s H ex,jC (cF X sc N s H ex) G E0 Dh Cd mi')(Fq:∀s H ex,jB (cF X sc N s H ex) G Dh En)(htt':∀s H ex,lE (cF X sc N s H ex) G Co Dz)(Ff:∀s H ex,aK (cF X sc N s H ex) G E0 elt me)(hs:∀x,foldedSetIterable iter X.env x=pure x:=by intro _;rfl)(hs':∀s H ex x,foldedSetIterable Cd (cF X sc N s H ex).env x=pure x:=by intro _ _ _ _;rfl):
  oF X G E (.ListComp elt [⟨tg,iter,ifs,0⟩,⟨Dh,Cd,Co,0⟩] sc ps) (cR mi cap st test (gQ mi' En Dz (cG me))):=λhK=>
 Hj (JJ hc C rfl (inner:=λD env=>kX Cd (.ListComp elt [⟨tg,iter,ifs,0⟩,⟨Dh,Cd,Co,0⟩] sc ps) 1 D env) (λit D env=>VR elt tg iter Dh Cd ifs Co sc ps (.ref it) D env) (hi hK) (λs H ex=>hg s H ex hK) (λs H ex=>Gd s H ex hK)
  (λs H ex D=>Ga.imp (BR (X:=cF X sc N s H ex) (D:=D) (gens:=[⟨tg,iter,ifs,0⟩,⟨Dh,Cd,Co,0⟩]) (d:=1) rfl hc rfl (λit=>VS elt tg iter Dh Cd ifs Co sc ps (.ref it) D _) (hi' s H ex hK) (Fq s H ex hK) (htt' s H ex hK) (Ga.imp (wX (Ff s H ex hK)) λ_ _ _ _ t=>xH t) (hs' s H ex)) λ_ _ _ _ t=>CK t) hs) λ_ _ _ t=>xJ t
end
def fJ(T:ai)(h:cq):Prop:=∃oT ts,h.get? T=some oT/\oT.data=.fields ts/\ts[3]?=some .none
structure Chg(fs:List ai)(e T:ai)(h h':cq):Prop where
 new:h.objs.size<=T
 keep:∀b o,b≠e->b∉fs->h.get? b=some o->h'.get? b=some o
 slot:∀b o,b≠e->h.get? b=some o->∃sl,h'.get? b=some {o with slots:=sl}
 tb:fJ T h'
theorem WT(f:Array af->Array af)(o:Obj):(Obj.mapFields f o).dict=o.dict:=by
 unfold Obj.mapFields
 split<;>rfl
section
variable{M:yf}{A:bx}{E:af->ag->Prop}{s:ag}
theorem CM{a:ai}{o:Obj}{vs:Array af}{i:Nat}{v:af}{Q:Unit->ag->Prop}(e:s.heap.get? a=some o)(hd:o.data=.fields vs)(hi:i<vs.size)(k:∀h' o',ig a s.heap h'->h'.get? a=some o'->o'.cls=o.cls->o'.dict=o.dict->o'.data=.fields (vs.setIfInBounds i v)->Q () {s with heap:=h'}):wpAny M A (setField (.ref a) i v) Q E s:=
 have d':=wc hd (·.setIfInBounds i v)
 Aw e hd hi (k _ _ (km ..) (pq _ e (Bg d')) (Obj.cls_mapFields ..) (WT ..) d')
theorem WU{head v:af}{L:Int}{pl:List af}{Q:af->ag->Prop}(Dp:IsPlace pl)(k:∀ob ts,ob.data=.fields ts->3<ts.size->ob.isFreed=false->Q (.ref s.heap.objs.size) {s with heap:=s.heap.push ob}):
  wpAny M A (zi head v .none (rawInt L) .none pl) Q E s:=
 fh (k _ _ rfl (by simp only[bg,cz,cm,oq];lia) rfl) (Dp.sizeOk5 ..)
theorem J4{e T:ai}{oe oT:Obj}{vs ts:Array af}{Q:Unit->ag->Prop}(he:s.heap.get? e=some oe)(hd:oe.data=.fields vs)(h1:vs[1]?=some (.ref T))(hT:s.heap.get? T=some oT)(hdT:oT.data=.fields ts)(hs:3<ts.size)(k:∀h',ig T s.heap h'->fJ T h'->Q () {s with heap:=h'}):wpAny M A (setFlight (.ref e) none) Q E s:=by
 refine ae (gw he hd h1 ?_);show wpAny M A (if(jd T !=jn)=true then _ else _) Q E s;rw[if_pos (by simp)];exact CM hT hdT hs λh' o' sb g _ _ d=>k h' sb ⟨o',_,g,d,by rw[jq hs];rfl⟩
theorem J5{base:cq}{l:List Env}{a:ai}{o:Obj}{vs:Array af}(hl:s.heap.FunFrames base l)(e:s.heap.get? a=some o)(hd:o.data=.fields vs):a∉eY l:=λhm=>by obtain⟨_,o',e',nf⟩:=hl.mem hm;rw[e]at e';cases e';exact nf vs hd
theorem J6{base:cq}{env:Env}{outer:List Env}{L e:ai}{oe:Obj}{vs:Array af}{head a0:af}{nx:Bool}{Q:Unit->ag->Prop}(hfr:A.frames=some (env::outer))(hl:s.heap.FunFrames base (env::outer))(hf:env.frame=some L)(he:s.heap.get? e=some oe)(hd:oe.data=.fields vs)(hdn:oe.dict=none)(hsz:1<vs.size)(h0:vs[0]?=some a0)(k:∀h' T,Chg (eY (env::outer)) e T s.heap h'->fF oe.cls e T a0 h'->Q () {s with heap:=h'}):
  wpAny M A (do let a <-frameOf env;let pl <-entryPlaceOf L nx;let b <-zi head a .none (rawInt L) .none pl;setField (.ref e) 1 b)
   (λ_ s'=>wpAny M A (setFlight (.ref e) none) Q E s') E s:=by
 have ne:=J5 hl he hd;refine ae (wpAny_frameOf_fun hfr hl hf λg1 so=>ae (wpAny_entryPlaceOf λpl Dp=>ae (WU Dp λob ts dt hts nf=>?_)));have e1:g1.get? e=some oe:=(so.2.1 e ne).trans he;have lt:e<g1.objs.size:=au e1;refine CM (s:={s with heap:=g1.push ob}) (ak _ e1) hd hsz λg2 oe2 sb2 ge c2 dn2 d2=>?_;have gT:g2.get? g1.objs.size=some ob:=sb2.extBut _ _ (jh lt) (aw _ nf);refine J4 (s:={s with heap:=g2}) ge d2 (T:=g1.objs.size) (by rw[jq hsz]) gT dt hts λg3 sb3 tb=>?_;have kp:∀b o,b≠e->g1.get? b=some o->g3.get? b=some o:=λb o hb q=>sb3.extBut _ _ (ay (au q)) (sb2.extBut _ _ hb (ak _ q));refine k g3 g1.objs.size ⟨rf so.1.symm,λb o hb hn q=>kp b o hb ((so.2.1 b hn).trans q),λb o hb q=>?_,tb⟩ ⟨oe2,_,sb3.extBut _ _ (ay lt) ge,c2,d2,?_,?_,dn2.trans hdn⟩
 ·obtain⟨sl,q'⟩:=so.2.2 b o q;exact⟨sl,kp b _ hb q'⟩
 ·rw[Array.getElem?_setIfInBounds_ne (by decide)];exact h0
 ·rw[jq hsz]
theorem WV{base:cq}{env:Env}{outer:List Env}{L e:ai}{oe:Obj}{vs:Array af}{a0:af}{Q:Unit->ag->Prop}(hfr:A.frames=some (env::outer))(hl:s.heap.FunFrames base (env::outer))(hf:env.frame=some L)(he:s.heap.get? e=some oe)(hd:oe.data=.fields vs)(hdn:oe.dict=none)(h0:vs[0]?=some a0)(h1:vs[1]?=some .none)(k:∀h' T,Chg (eY (env::outer)) e T s.heap h'->fF oe.cls e T a0 h'->Q () {s with heap:=h'}):
  wpAny M A (noteFrame (.ref e) env) (λ_ s'=>wpAny M A (setFlight (.ref e) none) Q E s') E s:=by
 unfold noteFrame;rw[hf];refine ae (gw he hd h1 ?_);exact J6 hfr hl hf he hd hdn (dw.mp h1).1 h0 k
theorem WW{base:cq}{env:Env}{outer:List Env}{L e T:ai}{C a0:af}{Q:Unit->ag->Prop}(hfr:A.frames=some (env::outer))(hl:s.heap.FunFrames base (env::outer))(hf:env.frame=some L)(hx:fF C e T a0 s.heap)(ht:fJ T s.heap)(hne:T≠e)(k:∀h' T',s.heap.objs.size<=T'->(∀b o,b≠e->b≠T->b∉eY (env::outer)->s.heap.get? b=some o->h'.get? b=some o)->(∀b o,b≠e->b≠T->s.heap.get? b=some o->∃sl,h'.get? b=some {o with slots:=sl})->
   fF C e T' a0 h'->fJ T h'->fJ T' h'->Q () {s with heap:=h'}):
  wpAny M A (noteFrame (.ref e) env) (λ_ s'=>wpAny M A (setFlight (.ref e) none) Q E s') E s:=by
 obtain⟨oe,vs,he,rfl,hd,h0,h1,hdn⟩:=hx;obtain⟨oT,ts,hT,hdT,h3⟩:=ht;have l3:3<ts.size:=(dw.mp h3).1;have nT:=J5 hl hT hdT;unfold noteFrame;rw[hf];refine ae (gw he hd h1 ?_);rw[if_pos (by simp)];refine ae (gw hT hdT h3 ?_);rw[if_neg (by simp[rawInt])];refine ae (CM hT hdT l3 λg o' sb gT _ _ dT=>?_);have hl':g.FunFrames base (env::outer):=hl.of_keeps λb o q nf=>⟨o,sb.extBut _ _ (λz=>by subst z;rw[hT]at q;cases q;exact nf ts hdT) q,rfl⟩
 refine J6 (s:={s with heap:=g}) hfr hl' hf (sb.extBut _ _ (dg hne) he) hd hdn (dw.mp h1).1 h0 λh' T' c x=>?_;refine k h' T' (by rw[<-sb.1];exact c.new) (λb o n1 n2 n3 q=>c.keep b o n1 n3 (sb.extBut _ _ n2 q)) (λb o n1 n2 q=>c.slot b o n1 (sb.extBut _ _ n2 q)) x ⟨_,_,c.keep T _ hne nT gT,dT,?_⟩ c.tb;rw[jq l3]
end
theorem CN{P:bj}{w:cb}{H:Hp}{h:cq}{a:ai}{o:HO}(x:Ce P w H h a o):∃ob,h.get? a=some ob:=by
 cases o with
 |lst xs=>obtain⟨_,_,_,_,e⟩:=x;exact⟨_,e⟩
 |tup xs=>obtain⟨_,_,_,ob,e,_⟩:=x;exact⟨_,e⟩
 |dK kvs=>obtain⟨_,_,_,_,o,_,_,e,_⟩:=x;exact⟨_,e⟩
 |dT kvs=>obtain⟨_,_,_,_,o,_,_,e,_⟩:=x;exact⟨_,e⟩
 |set S n=>obtain⟨o,_,_,_,e,_⟩:=x;exact⟨_,e⟩
 |ins C dx fs=>obtain⟨_,_,_,e,_⟩:=x;exact⟨_,e⟩
 |own y=>exact x
 |xd fs=>obtain⟨_,⟨_,_,_,e,_⟩,_⟩:=x;exact⟨_,e⟩
 |rng lo hi=>obtain⟨_,_,_,e⟩:=x;exact⟨_,e⟩
 |frz ob u=>obtain⟨e,_⟩:=x;exact⟨_,e⟩
 |tbl ps=>exact⟨_,(show h.get? a=some _ from x)⟩
 |met f y=>exact⟨_,(show h.get? a=some _ from x)⟩
 |ext φ=>obtain⟨_,e,_⟩:=x;exact e
inductive Fly(base:cq)(H:Hp)(C:af)(e:ai):Prop
 |mk (T:_) (a0:_) (h0:H e=some (.ext (fF C e T a0))) (h1:H T=some (.ext (fJ T))) (h2:base.get? e=none) (h3:T≠e):Fly base H C e
def uB(e:ai)(H H':Hp):Prop:=∀b o,b≠e->H b=some o->H' b=some o
theorem WX{C a0:af}{e T:ai}{h1 h2:cq}(x:fF C e T a0 h1)(k:∀o,h1.get? e=some o->h2.get? e=some o):fF C e T a0 h2:=by obtain⟨oe,vs,he,r⟩:=x;exact⟨oe,vs,k oe he,r⟩
theorem WY{T:ai}{h1 h2:cq}(x:fJ T h1)(k:∀o,h1.get? T=some o->h2.get? T=some o):fJ T h2:=by obtain⟨oe,vs,he,r⟩:=x;exact⟨oe,vs,k oe he,r⟩
theorem J7{P:bj}{w:cb}{H:Hp}{h:cq}{C a0:af}{e T:ai}(x:fF C e T a0 h):Ce P w H h e (.ext (fF C e T a0)):=⟨x,(let ⟨oe,_,he,_⟩:=x;⟨oe,he⟩),λ_ _ y k=>WX y k⟩
theorem xK{P:bj}{w:cb}{H:Hp}{h:cq}{T:ai}(x:fJ T h):Ce P w H h T (.ext (fJ T)):=⟨x,(let ⟨oe,_,he,_⟩:=x;⟨oe,he⟩),λ_ _ y k=>WY y k⟩
section
variable{P:bj}{w:cb}{M:yf}{A:bx}{E:af->ag->Prop}{s:ag}{H:Hp}{base:cq}{env:Env}{outer:List Env}{L e:ai}{C:af}
theorem CO{Q:Unit->ag->Prop}(hfr:A.frames=some (env::outer))(hl:s.heap.FunFrames base (env::outer))(hf:env.frame=some L)(hok:Dn P w H s.heap)(hfree:∀b∈eY (env::outer),H b=none)(fl:Fly base H C e)(k:∀h' H',Un (eY (env::outer)) [] H H' s.heap h'->Dn P w H' h'->Fly base H' C e->uB e H H'->Q () {s with heap:=h'}):
  wpAny M A (noteFrame (.ref e) env) (λ_ s'=>wpAny M A (setFlight (.ref e) none) Q E s') E s:=by
 obtain⟨T,a0,he,hT,hb,hne⟩:=fl;have xe:fF C e T a0 s.heap:=(show Ce P w H s.heap e _ from hok e _ he).1;have xt:fJ T s.heap:=(show Ce P w H s.heap T _ from hok T _ hT).1;refine WW hfr hl hf xe xt hne λh' T' Fo keep slot x' t0 t'=>?_;have nT':H T'=none:=hok.fresh Fo;have eT':T'≠e:=(gL he nT').symm;have TT':T'≠T:=(gL hT nT').symm;have sx:uB e H (aV (aV H e (.ext (fF C e T' a0))) T' (.ext (fJ T'))):=λb o hbe q=>by rw[cB (gL q nT'),cB hbe];exact q
 have ee:aV (aV H e (.ext (fF C e T' a0))) T' (.ext (fJ T')) e=some (.ext (fF C e T' a0)):=by rw[cB (dg eT'),dR]
 refine k h' (aV (aV H e (.ext (fF C e T' a0))) T' (.ext (fJ T'))) ?_ ?_ ⟨T',a0,ee,dR,hb,eT'⟩ sx
 ·have free:∀b o,s.heap.get? b=some o->H b=none->aV (aV H e (.ext (fF C e T' a0))) T' (.ext (fJ T')) b=none:=λb o q n=>by have h1:b≠T':=ay (av (au q) Fo);have h2:b≠e:=(gL he n).symm;rw[cB h1,cB h2];exact n
  refine⟨λb o q n hb _=>keep b o (gL he n).symm (gL hT n).symm hb q,λb o q n _ _=>slot b o (gL he n).symm (gL hT n).symm q,λb o q n _=>free b o q n,λb o q _=>?_,λb xs q=>?_,λb o u q=>?_,λb ps q=>?_⟩
  ·by_cases h1:b=e
   ·subst h1;obtain⟨oe,_,z,_⟩:=x';exact⟨oe,z⟩
   ·by_cases h2:b=T
    ·subst h2;obtain⟨oe,_,z,_⟩:=t0;exact⟨oe,z⟩
    ·obtain⟨sl,z⟩:=slot b o h1 h2 q;exact⟨_,z⟩
  ·exact sx b _ (mV q he (by intro z;cases z)) q
  ·exact sx b _ (mV q he (by intro z;cases z)) q
  ·exact⟨#[],by rw[sx b _ (mV q he (by intro z;cases z)) q];simp⟩
 ·intro a o q
  by_cases h1:a=T'
  ·subst h1;rw[dR]at q;cases q;exact xK t'
  ·rw[cB h1]at q
   by_cases h2:a=e
   ·subst h2;rw[dR]at q;cases q;exact J7 x'
   ·rw[cB h2]at q
    by_cases h3:a=T
    ·subst h3;rw[hT]at q;cases q;exact xK t0
    ·have nf:a∉eY (env::outer):=λz=>by rw[hfree a z]at q;cases q
     refine(hok a o q).stay (λb u hb z=>?_) (λb z=>sx b _ (mV z he (by intro y;cases y)) z) λb xs z=>sx b _ (mV z he (by intro y;cases y)) z
     rcases hb with rfl|hb
     ·exact keep b u h2 h3 nf z
     ·exact keep b u (mV hb he (by intro y;cases y)) (mV hb hT (by intro y;cases y)) (λy=>by rw[hfree b y]at hb;cases hb) z
theorem J8{Q:Unit->ag->Prop}{h0:cq}{args:List af}(hfr:A.frames=some (env::outer))(hl:h0.FunFrames base (env::outer))(hf:env.frame=some L)(hok:Dn P w H h0)(hfree:∀b∈eY (env::outer),H b=none)(hsb:∀b o,base.get? b=some o->h0.get? b=some o)(mx:Heap.MadeExcOf h0 s.heap e C args)(k:∀h' H',Un (eY (env::outer)) [] H H' h0 h'->Dn P w H' h'->Fly base H' C e->Dw H H'->Q () {s with heap:=h'}):
  wpAny M A (noteFrame (.ref e) env) (λ_ s'=>wpAny M A (setFlight (.ref e) none) Q E s') E s:=by
 obtain⟨t,he,hnt,ht⟩:=mx.there;have hbn:base.get? e=none:=by
  cases q:base.get? e with
  |none=>rfl
  |some o=>have:=hsb e o q;rw[mx.new]at this;cases this
 have nH:H e=none:=by
  cases q:H e with
  |none=>rfl
  |some o=>
   have z:∀a o,H a=some o->h0.get? a≠none:=λa o q n=>by
    have lt:=hok.lt q;have:=(hok a o q)
    have ex:∃ob,h0.get? a=some ob:=CN this;obtain⟨ob,eo⟩:=ex;rw[n]at eo;cases eo
   exact absurd mx.new (z e o q)
 have hl1:s.heap.FunFrames base (env::outer):=hl.of_keeps λb o hb _=>⟨o,mx.keeps b o hb,rfl⟩
 refine WV hfr hl1 hf he rfl rfl (a0:=.ref t) rfl rfl λh' T c x=>?_;have ne_e:∀b o,h0.get? b=some o->b≠e:=λb o q z=>by subst z;rw[mx.new]at q;cases q
 have lt0:∀b o,h0.get? b=some o->b<T:=λb o q=>av (au (mx.keeps b o q)) c.new;have nT:H T=none:=by
  cases q:H T with
  |none=>rfl
  |some o=>obtain⟨ob,eo⟩:=CN (hok T o q);exact absurd (lt0 T ob eo) (iu _)
 have eT:T≠e:=jh (av (au he) c.new);have sm:Dw H (aV (aV H e (.ext (fF C e T (.ref t)))) T (.ext (fJ T))):=λb o q=>by rw[cB (gL q nT),cB (gL q nH)];exact q
 refine k h' (aV (aV H e (.ext (fF C e T (.ref t)))) T (.ext (fJ T))) ?_ ?_ ⟨T,.ref t,by rw[cB (dg eT),dR],dR,hbn,eT⟩ sm
 ·refine⟨λb o q n hb _=>c.keep b o (ne_e b o q) hb (mx.keeps b o q),λb o q n _ _=>c.slot b o (ne_e b o q) (mx.keeps b o q),λb o q n _=>?_,λb o q _=>?_,λb xs q=>sm b _ q,λb o u q=>sm b _ q,λb ps q=>⟨#[],by rw[sm b _ q];simp⟩⟩
  ·rw[cB (ay (lt0 b o q)),cB (ne_e b o q)];exact n
  ·obtain⟨sl,z⟩:=c.slot b o (ne_e b o q) (mx.keeps b o q);exact⟨_,z⟩
 ·intro a o q
  by_cases h1:a=T
  ·subst h1;rw[dR]at q;cases q;exact xK c.tb
  ·rw[cB h1]at q
   by_cases h2:a=e
   ·subst h2;rw[dR]at q;cases q;exact J7 x
   ·rw[cB h2]at q;have nf:a∉eY (env::outer):=λz=>by rw[hfree a z]at q;cases q
    refine(hok a o q).stay (λb u hb z=>?_) (λb z=>sm b _ z) λb xs z=>sm b _ z
    rcases hb with rfl|hb
    ·exact c.keep b u (ne_e b u z) nf (mx.keeps b u z)
    ·exact c.keep b u (ne_e b u z) (λy=>by rw[hfree b y]at hb;cases hb) (mx.keeps b u z)
end
inductive CXo(P:bj)(w:cb)(base:cq)(outer:List Env)(H:Hp)(s:ag)(E:XK)(u:af)(s':ag):Prop
 |mk (e:ai) (C:af) (H':Hp) (h0:u=.ref e) (h1:s'.os=s.os) (h2:uf s'.gens) (h3:Un (eY outer) [] H H' s.heap s'.heap) (h4:Dn P w H' s'.heap) (h5:Fly base H' C e) (h6:E u none H'):CXo P w base outer H s E u s'
def cA(P:bj)(w:cb)(base:cq):lX:=CXo P w base
def WZ(X:Cx)(E:XK):Prop:=∀(pins:List (ai×Obj))(σ:St)(H:Hp)(s:ag)(h':cq)(e:ai)(C:af)(args:List af),Inv X pins σ H s->Heap.MadeExcOf s.heap h' e C args->
 (∀H',Dw H H'->(∃T a0,H' e=some (.ext (fF C e T a0)))->E (.ref e) none H')->X.xe (.ref e) {s with heap:=h'}
structure Good(X:Cx)(G:Cfg)(E:XK)(k:Nat):Prop where
 calm:X.calm=true
 room:Cv k X.A
 K:X.K=G.K
 pas:BG (cA X.prog X.w X.base) X E
 own:zf (model X.prog X.w) X.A X.env X.xe
 rais:WZ X E
def CP(E:XK):Prop:=∀e H H',uB e H H'->(∃C T a0 T' a0',H e=some (.ext (fF C e T a0))/\(∃h,fF C e T a0 h)/\H' e=some (.ext (fF C e T' a0')))->E (.ref e) none H->E (.ref e) none H'
section
variable{P:bj}{w:cb}{K:ar}{mg:Str->Option af}{base:cq}{N:Br}{qual:Str}{scope:fy}{f:ai}{cdv:af}{A:bx}{outer:List Env}{s0:ag}{H0:Hp}{E0:XK}{G:Cfg}{E:XK}{k:Nat}
theorem CQ(hr:Cv k (A.deeper (envOfC qual scope s0.heap.objs.size f cdv)))(hK:K=G.K)(hE:∀u H',E u none H'->E0 u none H')(hF:CP E):
  Good (gU (cA P w base) P w K mg base N qual scope f cdv A outer s0 H0 E0) G E k where
 calm:=rfl
 room:=hr
 K:=hK
 own:=Af
 pas:=by intro pins σ H s u s' I ⟨e,C,H',eu,os,bare,un,hok,fl,he⟩;subst eu;have I':=I.call' os un hok bare (λb z=>absurd z (by simp));refine ae (CO (P:=P) (w:=w) (H:=H') (base:=base) I'.ok.frames I'.stack rfl hok I'.stkFree fl λh'' H'' un2 Ep Gy sx=>?_);have I2:=I'.call (h':=h'') (g':=s'.gens) (d':=s'.drawn) (t':=s'.toks) un2 Ep I'.bare (λb z=>absurd z (by simp));obtain⟨T,a0,h1,_⟩:=id fl;obtain⟨T2,a2,h3,_⟩:=id Gy;have xe1:fF C e T a0 s'.heap:=(show Ce P w H' s'.heap e _ from hok e _ h1).1;have:E (.ref e) none H'':=hF e H' H'' sx ⟨C,T,a0,T2,a2,h1,⟨_,xe1⟩,h3⟩ he;exact⟨e,C,H'',rfl,I2.os,I2.bare,I2.base,Ep,Gy,hE _ _ this⟩
 rais:=by intro pins σ H s h' e C args I mx he;refine ae (J8 (P:=P) (w:=w) (H:=H) (base:=base) I.ok.frames I.stack rfl I.hok I.stkFree I.bk mx λh'' H'' un2 Ep Gy sm=>?_);have I2:=I.call (h':=h'') (g':=s.gens) (d':=s.drawn) (t':=s.toks) un2 Ep I.bare (λb z=>absurd z (by simp));obtain⟨T2,a2,h3,_⟩:=id Gy;exact⟨e,C,H'',rfl,I2.os,I2.bare,I2.base,Ep,Gy,hE _ _ (he H'' sm ⟨T2,a2,h3⟩)⟩
theorem fK{X:Cx}{sc:fy}{N':Br}{s:ag}{H:Hp}{ex:List ai}(g:Good X G E k):Good (cF X sc N' s H ex) G L2.E0 k where
 calm:=g.calm
 room:=g.room
 K:=g.K
 own:=PassesOwn.never
 pas:=λ_ _ _ _ _ _ _⟨_,_,_,_,_,_,_,_,_,z⟩=>z
 rais:=λ_ _ H s h' e C args I mx he=>by
  have nH:H e=none:=by
   cases q:H e with
   |none=>rfl
   |some o=>obtain⟨ob,eo⟩:=CN (I.hok e o q);rw[mx.new]at eo;cases eo
  exact he (aV H e (.ext (fF C e 0 .none))) (dD nH) ⟨0,.none,dR⟩
def cN(n:Nat)(ds:Bt):Ev:=ds.map some++bu (n-ds.length) none
def bV:Sr->Rs Dv
 |.rt d h=>.ok d h
 |.nx _ h=>.ok .non h
 |.ex c h=>.ex c h
 |_=>.bad
def bM(np n:Nat)(mb:MS):Bs:=λds h=>if ds.length=np then bV (mb (cN n ds) h)else .bad
inductive SPo(G:Cfg)(F:Bs)(vs:Ic)(H:Hp)(Q:VK)(E:XK):Prop
 |mk (μ:Nat->ai) (h:Hs) (ds:Bt) (r:RelDL G μ h.length H ds vs) (s:Cm G μ h H) (o:Out G E μ h.length H (F ds h) (Ca G) Q):SPo G F vs H Q E
def cW(G:Cfg)(F:Bs):Sp:=SPo G F
theorem J9{μ:Nat->ai}{n:Nat}{H:Hp}{ds:Bt}{vs:Ic}(r:RelDL G μ n H ds vs)(N:Br):Cj G μ n H (cN N.length ds) (start N vs):=by
 have hl:=r.length;refine⟨by simp[cN,start,hl],λi d e=>?_⟩;unfold cN at e
 by_cases hi:i<ds.length
 ·rw[ed (by simpa using hi),dm]at e
  cases q:ds[i]? with
  |none=>rw[q]at e;cases e
  |some d'=>rw[q]at e;cases e;obtain⟨v,e1,r1⟩:=r.get q;refine⟨v,?_,r1⟩;unfold start;rw[ed (by simp;lia),dm,e1];rfl
 ·rw[gj (by simpa using hi),tu]at e
  split at e<;>cases e
def EB(G:Cfg)(μ0:Nat->ai)(n0:Nat)(H0:Hp)(r:Sr):XK:=λu _ H'=>∃c h' μ',r=.ex c h'/\Ext μ0 n0 H0 μ' h'.length H'/\Cm G μ' h' H'/\FlyE G H' c u
theorem Cm.sameX{μ:Nat->ai}{h:Hs}{H H':Hp}{e:ai}(s:Cm G μ h H)(sx:uB e H H')(hx:∃φ,H e=some (.ext φ)):Cm G μ h H'/\∀(n:Nat),Ext μ n H μ n H':=by
 obtain⟨φ,hx⟩:=hx;have x:∀n:Nat,Ext μ n H μ n H':=λn=>⟨ao _,λ_ _=>rfl,λa o i q=>sx a o (by rintro rfl;rw[hx]at q;cases q;exact i) q⟩
 refine⟨⟨s.inj,λi o q=>?_,s.tab.keep λa o _ n2 q=>sx a o (by rintro rfl;rw[hx]at q;cases q;exact n2 _ rfl) q⟩,x⟩;have r:=s.ob i o q
 cases o with
 |lst xs=>obtain⟨vs,e1,r1⟩:=r;exact⟨vs,sx _ _ (mV e1 hx (by intro z;cases z)) e1,Hf (x _) _ _ r1⟩
 |clo k t=>exact r.clo (x _)
 |dct ks=>exact sx _ _ (mV r hx (by intro z;rcases rD ks with⟨_,e⟩|⟨_,e,_⟩<;>rw[e]at z<;>cases z)) r
theorem CS{μ0:Nat->ai}{n0:Nat}{H0:Hp}{r:Sr}:CP (EB G μ0 n0 H0 r):=by intro e H H' sx ⟨C,T,a0,T',a0',h1,⟨hp,hx⟩,h3⟩ ⟨c,h',μ',er,x,s,e',φ,eu,h4,h5⟩;cases eu;obtain⟨s2,x2⟩:=s.sameX sx ⟨_,h1⟩;refine⟨c,h',μ',er,x.trans (x2 _),s2,e,_,rfl,h3,λhh z=>?_⟩;rw[h1]at h4;cases h4;obtain⟨o,g1,g2⟩:=h5 hp hx;obtain⟨oe,vs,g3,g4,_⟩:=hx;rw[g3]at g1;cases g1;obtain⟨oe',Dr,g5,g6,_⟩:=z;exact⟨oe',g5,by rw[g6,<-g4,g2]⟩
theorem eQ{x qual:Str}{st:iq}{fd:bq}{ps:Br}{mb:MS}(Fn:Fun K x qual st f fd)(S:Cb N ps (bJ st))(hK:K=G.K)(Cz:∀(cdv:af)(A:bx)(outer:List Env)(s:ag)(H:Hp)(E₀ E:XK),Good (gU (cA P w base) P w K mg base N qual (bJ st) f cdv A outer s H E₀) G E k->jY (gU (cA P w base) P w K mg base N qual (bJ st) f cdv A outer s H E₀) G E (jV st) mb):
  Cg P w K mg base (cA P w base) (k+1) f fd ps (cW G (bM ps.length N.length mb)):=by
 obtain⟨oc,od,kV,doc,pm,an,cdv,ct,osl,rfl,lk,hcd⟩:=Fn.ex;have hlen:∀vs H Q E,cW G (bM ps.length N.length mb) vs H Q E->vs.length=ps.length:=λvs H Q E⟨μ,h,ds,r,sm,o⟩=>by
  rw[r.length];unfold bM at o
  by_cases hd:ds.length=ps.length
  ·exact hd
  ·rw[if_neg hd]at o;exact o.elim
 refine BH lk hcd S hlen λA outer s H vs Q E hr hsp=>?_;have hl:=hlen _ _ _ _ hsp;obtain⟨μ,h,ds,r,sm,o⟩:=hsp;have o':Out G E μ h.length H (bV (mb (cN N.length ds) h)) (Ca G) Q:=by unfold bM at o;rw[if_pos (by rw[<-r.length];exact hl)]at o;exact o
 refine⟨_,Cz cdv A outer s H E (EB G μ h.length H (mb (cN N.length ds) h)) (CQ hr hK (λu H'⟨c,h',μ',er,x,s',fl⟩=>?_) CS) hK,?_⟩
 ·rw[er]at o';exact o' μ' H' u x s' fl
 ·refine⟨μ,cN N.length ds,h,J9 r N,sm,?_⟩
  cases q:mb (cN N.length ds) h with
  |bad=>rw[q]at o';exact o'.elim
  |bk ρ h'=>rw[q]at o';exact o'.elim
  |ct ρ h'=>rw[q]at o';exact o'.elim
  |rt d h'=>rw[q]at o';exact o'
  |nx ρ h'=>rw[q]at o';exact λμ' H' σ' x' s' rs'=>o' μ' H' .non x' s' rfl
  |ex c h'=>exact λμ' H' u x' s' fl=>⟨c,h',μ',rfl,x',s',fl⟩
theorem KC{X:Cx}{F:Bs}{ps:Br}{fd:bq}{x:Str}{p pos:Pos}{e:bp}{es:List bp}{ms:M Bt}{j:Nat}(g:Good X G E k)(Fn:Cg X.prog X.w X.K X.mg X.base (cA X.prog X.w X.base) j f fd ps (cW G F))(hj:j<=k)(hg:Gl X x)(hm:X.mg x=some (.ref f))(hk:qv X.K (.ref f)=true)(hb:Binds X.K fd ps [])(ha:eO X G E (e::es) ms)(Ft:(x==Ib)=false:=by decide)(he:aq (e::es) X.env=(false,eval e X.env)::aq es X.env:=by rfl)(Dp:(backTo pos (aq es X.env)).any (·.1)=false:=by rfl):
  aK X G E (.Call (.Name x p) (e::es) [] pos) (aH F ms):=λhK=>
 Hj (TZ Fn (g.room.mono hj) hg hm hk hb .nil g.pas (ha hK) Ft he Dp) λσ H Q⟨μ,ρ,h,rs,s,o⟩=>kZ rs s o λμ1 ds1 h1 vs H1 x1 Cr s1 r1 o1=>by rw[om];exact⟨μ1,h1,ds1,r1,s1,o1⟩
end
abbrev CT:List af:=[.type "ValueError",.type "Exception",.type "BaseException",.type "object"]
theorem W0{K:ar}{mg:Str->Option af}{base:cq}(p:bj)(m:Mod K mg base):∃loose mb,PySem.W.TopRead p loose mg mb base:=by
 obtain⟨mb,hb,hbb⟩:=m.blt;obtain⟨o,es,ep,ho,hd,hk,hf⟩:=id m.glob;refine⟨es.toList.filterMap λe=>match e.key with
  |.str n _=>some n
  |_=>none,mb,m.glob,hb,m.nolimit,hbb,λx _ hx _ _ _=>?_⟩
 rw[<-hf x]
 cases q:nsFind es x with
 |none=>rfl
 |some v=>
  exfalso
  apply hx
  unfold nsFind findBy at q;obtain⟨e,he,_⟩:=Option.map_eq_some_iff.mp q;have h1:=Array.find?_some he;have h2:=Array.mem_of_find?_eq_some he;obtain⟨n,t,hn⟩:=hk e h2;rw[hn]at h1;have h3:n=x:=by simpa[Value.isStr]using h1
  exact mf.mpr ⟨e,by simpa using h2,by rw[hn,h3]⟩
section
variable{k:Nat}{x:Str}{C:ai}{np cpos pos:Pos}{e:bp}{es:List bp}{t:TA}{ms:M Bt}{c:Nat}
theorem W2(g:Good X G E k)(hg:Gl X x)(hm:X.mg x=some (.ref C))(hns:zj X.K du x=some (some (.ref C)))(hx:yk X.K C CT "ValueError.__new__"=true)(ha:PA X (e::es) t)(hd:(x==Ib)=false:=by decide)(he:aq (e::es) X.env=(false,eval e X.env)::aq es X.env:=by rfl)(Dp:(backTo cpos (aq es X.env)).any (·.1)=false:=by rfl):
  PS X (.Raise (some (.Call (.Name x np) (e::es) [] cpos)) none pos) (λ_ σ H=>t σ H λvs H1=>vs.length<=cp/\∀e H',Dw H1 H'->(∃T a0,H' e=some (.ext (fF (.ref C) e T a0)))->E (.ref e) none H'):=by
 intro pins s σ H D I h;obtain⟨bm,N,nm,q,bs,hdct,sn,sub,ab,col,dd,k0,k1,k2,k3,k5,mN,hC,hN,hni,T⟩:=(let ⟨_,_,tr⟩:=W0 X.prog I.ok.mod;PySem.W.own_of_in I.ok.mod.kin tr hns hx).obj;refine wpAny_Raise_call_subU (C:=C) (nm:=nm) (q:=q) (N:=N) (bs:=bs) (bm:=bm) (hdct:=hdct) (sn:=sn) (sub:=sub) (ab:=ab) (col:=col) (dd:=dd) (k0:=k0) (k1:=k1) (k2:=k2) (k3:=k3) (k5:=k5)
  xu (by decide) xu (mN:=mN) (T.hasType (by decide)) (I.ok.hd g.calm) (by rw[he];show(false||(backTo cpos (aq es X.env)).any (·.1))=false;rw[Dp];rfl) hni (tK I hg hm ⟨rfl,?_⟩ hd)
 have hh:=ha cpos pins s σ H _ I h;rw[he]at hh⊢;refine Ao (bQ hh λus s2⟨vs,H2,I2,r,hz,w⟩=>⟨rfl,by rw[<-r.length];exact hz,I2.bk _ _ hC,hN.keeps I2.bk,T.keeps I2.bk,λh' e' mx=>?_⟩);exact g.rais pins σ H2 s2 h' e' _ _ I2 mx λH' sm z=>w e' H' sm z
theorem W3{H:Hp}{e:ai}(hc:C=G.cl c)(z:∃T a0,H e=some (.ext (fF (.ref C) e T a0))):FlyE G H c (.ref e):=by obtain⟨T,a0,z⟩:=z;exact⟨e,_,rfl,z,λh⟨oe,vs,h1,h2,_⟩=>⟨oe,h1,by rw[h2,hc]⟩⟩
def uC(c:Nat)(ms:M Bt ):MS:=λρ h=>(ms ρ h).thenS λds h1=>if ds.length<=1000 then .ex c h1 else .bad
theorem W4(g:Good X G E k)(hg:Gl X x)(hm:X.mg x=some (.ref C))(hns:zj X.K du x=some (some (.ref C)))(hx:yk X.K C CT "ValueError.__new__"=true)(hc:C=G.cl c)(ha:eO X G E (e::es) ms)(hd:(x==Ib)=false:=by decide)(he:aq (e::es) X.env=(false,eval e X.env)::aq es X.env:=by rfl)(Dp:(backTo cpos (aq es X.env)).any (·.1)=false:=by rfl):
  iE X G E (.Raise (some (.Call (.Name x np) (e::es) [] cpos)) none pos) (uC c ms):=λhK=>PS.imp (W2 g hg hm hns hx (ha hK) hd he Dp) λD σ H⟨μ,ρ,h,rs,s,o⟩=>
 ⟨μ,ρ,h,rs,s,(o.thenS (R:=RelDL G)).mono λvs H1⟨μ1,ds,h1,x1,s1,r1,o1⟩=>by
  split at o1
  ·rename_i hl;refine⟨by rw[r1.length];exact df hl (by decide),λe' H' sm z=>?_⟩;exact o1 μ1 H' (.ref e') (Hg sm) (s1.same sm) (W3 hc z)
  ·exact o1.elim⟩
end
open PySem.W
section
variable{prog:bj}{w:cb}{A:bx}{E:af->ag->Prop}{h:cq}{g:Array GenState}{d:Drawn}{t:Nat}{os:OsState}{a C:ai}{o:Obj}{K:Frag}
structure Ef(K:Frag)(C:ai):Prop where
 ga:findIn K (.ref C) "__getattribute__"=some (some (.builtin "BaseException.__getattribute__"))
 ng:findIn K (.ref C) "__getattr__"=some none
 cl:findIn K (.ref C) "__class__"=some (some (.builtin "object.__class__"))
 ob:mroIn K C (.type "object")=some true
 be:subIn K (.ref C) (.type "BaseException")=some true
 se:kitCls K (.ref C) (.ref C)=some true
 lk:∃oc od cd osl,K.lookup C=some ⟨oc,od,.cls cd,osl⟩
theorem kindGa:builtinKind "BaseException.__getattribute__"=some .slot/\splitId "BaseException.__getattribute__"=some ("BaseException","__getattribute__"):=by decide+kernel
theorem W5:(vg "BaseException.__getattribute__"==vg "object.__getattribute__")=false:=by decide+kernel
section
variable{R:xm->ag->Prop}{s:ag}
theorem W7{M:yf}{n:af}{Q:Unit->ag->Prop}(X:K.In s.heap)(I:InstAt s.heap a o C none)(k:Ef K C)(hq:Q () s):wpAny M A (checkBuiltinCall "BaseException.__getattribute__" ⟨[.ref a,n],[]⟩) Q E s:=by
 have one:Looks M s.heap (isInstance (.ref a) (.type "BaseException")) true:=I.type.andThen (looks_subIn X k.be);have iV:=F.args_bexc_ga (.ref a) n;obtain⟨hh,g,d,t,os⟩:=s;unfold checkBuiltinCall;rw[kindGa.1,kindGa.2];refine ae (one.at ?_)
 repeat (first|assumption|wp_step)
theorem W8{n:Tok}(X:K.In s.heap)(I:InstAt s.heap a o C none)(k:Ef K C)(hq:R (.ok (.ret (.ref C))) s):codeAny (model prog w) A (.call (.builtin "BaseException.__getattribute__") ⟨[.ref a,.str "__class__" n],[]⟩) R s:=by
 refine wd F.excAttr_ValueError.ga.plain F.entry_bexc_ga (W7 X I k ?_);have own:=I.type (M:=model prog w);have entry:=looks_findIn (M:=model prog w) X k.cl;have of_get:=F.slot_gs_get.lookup;have of_set:=F.slot_gs_set.lookup;have kind:=F.typeOf_object_class;have kindIs:s.TypeIs (.builtin "object.__class__") "getset_descriptor":=kind;obtain⟨hh,g,d,t,os⟩:=s
 repeat (any_goals (first|assumption|with_reducible refine own.at ?_|with_reducible refine entry.at ?_|wp_step))
 exact class_get (s:=⟨hh,g,d,t,os⟩) X I k.ob (by repeat (any_goals (first|assumption|wp_step)))
end
theorem W9{Q:Option af->ag->Prop}(X:K.In h)(I:InstAt h a o C none)(k:Ef K C)(hq:Q (some (.ref C)) ⟨h,g,d,t+1,os⟩):
  wpAny (model prog w) A (getAttr? (.ref a) "__class__") Q E ⟨h,g,d,t,os⟩:=by
 have own:=I.type (M:=model prog w);have first_:=looks_findIn (M:=model prog w) X k.ga;have then_:=looks_findIn (M:=model prog w) X k.ng;have bound:=F.excAttr_ValueError.ga.bind (.ref a);have other:=W5;have apart:(onTheHeap (jd C)&&vg "BaseException.__getattribute__"==vg "object.__getattribute__")=false:=by rw[other];rfl
 unfold getAttr? getAttrBy?
 repeat (any_goals (first|assumption|with_reducible refine own.at ?_|with_reducible refine first_.at ?_|with_reducible refine then_.at ?_|wp_step))
 exact W8 X I k (by repeat (any_goals (first|assumption|wp_step)))
def XA(a C:ai)(h:cq):Prop:=∃o,InstAt h a o C none
theorem XB(k:Ef K C):KitX K (.ref a) (.ref C) (XA a C) where
 ty:=λ_ _ _⟨_,I⟩=>I.type
 it:=λ_ _ X _=>(kit_cls X k.se).2.1
 ne:=λh tp dd its n sl X htp=>by
  cases z:(jd C==jd tp)with
  |false=>rfl
  |true=>
   obtain rfl:C=tp:=by simpa using z
   obtain⟨oc,od,cd,osl,lk⟩:=k.lk;have:=X _ _ lk;rw[htp]at this;simp at this
 ca:=λ{prog w A E Q s}X⟨o,I⟩hq=>by obtain⟨hh,g,d,t,os⟩:=s;exact W9 X I k hq
end
inductive Ty where
 |non|bl|int|str|tup|lst|dct|exc (c:Nat)
def hO:Dv->Hs->Option Ty
 |.non,_=>some .non
 |.bl _,_=>some .bl
 |.int _,_=>some .int
 |.str _,_=>some .str
 |.tup _,_=>some .tup
 |.ref i,h=>match getL h i with
  |some _=>some .lst
  |none=>none
 |.edc,_=>some .dct
 |.exc c,_=>some (.exc c)
 |.scr,_=>none
def mH(cl:Nat->ai):Ty->af
 |.non=>.type "NoneType"
 |.bl=>.type "bool"
 |.int=>.type "int"
 |.str=>.type "str"
 |.tup=>.type "tuple"
 |.lst=>.type "list"
 |.dct=>.type "dict"
 |.exc c=>.ref (cl c)
def bO(f:Ty->Option Bool)(d:Dv)(h:Hs):Rs Dv:=match hO d h with
 |some ty=>match f ty with
  |some b=>.ok (.bl b) h
  |none=>.bad
 |none=>.bad
section
variable{pins:List (ai×Obj)}{σ:St}{H:Hp}{s:ag}
theorem KD{μ:Nat->ai}{h:Hs}{d:Dv}{v:V}{u:af}{ty:Ty}(I:Inv X pins σ H s)(sm:Cm G μ h H)(r:Ca G μ h.length H d v)(ru:RelV v u)(e:hO d h=some ty)(hex:∀c,ty=.exc c->Ef X.K (G.cl c)):
  ∃P,KitX X.K u (mH G.cl ty) P/\P s.heap/\u≠.builtin "__main__.__loader__#opaque":=by
 cases d with
 |non=>cases e;rw[Ca]at r;subst r;cases ru;exact⟨_,kitx_none,trivial,λz=>nomatch z⟩
 |bl b=>cases e;rw[Ca]at r;subst r;cases ru;exact⟨_,kitx_bool,trivial,λz=>nomatch z⟩
 |int i=>cases e;rw[Ca]at r;subst r;obtain⟨t,rfl⟩:=ru;exact⟨_,kitx_int,trivial,λz=>nomatch z⟩
 |str i=>cases e;rw[Ca]at r;subst r;obtain⟨t,rfl⟩:=ru;exact⟨_,kitx_str,trivial,λz=>nomatch z⟩
 |tup ds=>
  cases e;obtain⟨a,vs,rfl,ea,_⟩:=r;cases ru;obtain⟨_,_,_,o,h1,h2,_⟩:=(show Ce X.prog X.w H s.heap a (.tup vs) from I.hok a _ ea)
  exact⟨_,kitx_tuple,⟨o,h1,h2⟩,λz=>nomatch z⟩
 |ref i=>
  dsimp only[hO]at e
  cases g:getL h i with
  |none=>rw[g]at e;cases e
  |some xs=>
   rw[g]at e;cases e;obtain⟨_,rfl⟩:=r;cases ru;obtain⟨vs,ea,_⟩:=sm.ob i _ (fG g);obtain⟨_,_,n,_,h1⟩:=(show Ce X.prog X.w H s.heap (μ i) (.lst vs) from I.hok _ _ ea)
   exact⟨_,kitx_list,⟨_,h1,rfl⟩,λz=>nomatch z⟩
 |edc=>
  cases e;obtain⟨a,rfl,ea⟩:=r;cases ru;obtain⟨_,_,vs,_,p⟩:=(show Ce X.prog X.w H s.heap a (.dK []) from I.hok a _ ea)
  obtain⟨o,es,ep,h1,h2,_⟩:=p;exact⟨_,kitx_dict,⟨o,h1,h2.1⟩,λz=>nomatch z⟩
 |exc c=>
  cases e;obtain⟨a,o,uo,rfl,ea,hc,hdn,vs,hd⟩:=r;cases ru;obtain⟨h1,_⟩:=(show Ce X.prog X.w H s.heap a (.frz o uo) from I.hok a _ ea)
  refine⟨_,XB (hex c rfl),⟨o,h1,hc,?_,?_⟩,λz=>nomatch z⟩
  ·unfold notCls;rw[hd]
  ·rw[hdn];trivial
 |scr=>cases e
end
section
variable{a b:bp}{ma:M Dv}{p pos:Pos}{f:Ty->Option Bool}
theorem KG:dk "isinstance"=some (.builtin "isinstance"):=by decide+kernel
def KH(G:Cfg)(f:Ty->Option Bool)(c:V):Ic->Hp->VK->Prop:=λxs H Q=>∃μ h d v ty bb,xs=[v,c]/\Cm G μ h H/\Ca G μ h.length H d v/\hO d h=some ty/\f ty=some bb/\Q (.bl bb) H
theorem XC{c:V}{u:af}(hc:(∃T,c=.ty T)∨∃C,c=.ref C)(rc:RelV c u)(hf:∀ty bb,f ty=some bb->kitOne X.K (mH G.cl ty) u=some bb)(hex:∀c bb,f (.exc c)=some bb->Ef X.K (G.cl c)):Cf X (.builtin "isinstance") (KH G f c):=by
 intro pins s σ H xs us Q I rv ⟨μ,h,d,v,ty,bb,e1,sm,r,et,ef,q⟩;subst e1;obtain⟨u1,u2,rfl,r1,r2⟩:=tP rv;have e2:u2=u:=by rcases hc with⟨T,rfl⟩|⟨C,rfl⟩<;>(cases rc;cases r2;rfl)
 subst e2;obtain⟨P,Z,hP,hne⟩:=KD I sm r r1 et (λc z=>by subst z;exact hex c bb ef);exact kia_one Z I.kIn hP (hf ty bb ef) hne λtk=>⟨.bl bb,H,I.tok _,rfl,q⟩
theorem pS{x:Str}{T:String}(hg:Gl X x)(hm:X.mg x=none)(hv:dk x=some (.type T))(hn:x≠"__name__":=by decide)(hd:(x==Ib)=false:=by decide):PE X (.Name x pos) (tC (.ty T)):=λpins s σ H Q I h=>qW I hg hm hv ⟨.ty T,H,I,rfl,h⟩ hn hd
theorem rR{c:V}{u:af}(hg:Gl X "isinstance")(hm:X.mg "isinstance"=none)(ha:aK X G E a ma)(hb:PE X b (tC c))(hc:(∃T,c=.ty T)∨∃C,c=.ref C)(rc:RelV c u)(hf:∀ty bb,f ty=some bb->kitOne G.K (mH G.cl ty) u=some bb)(hex:∀c bb,f (.exc c)=some bb->Ef G.K (G.cl c))(he:aq [a,b] X.env=[(false,eval a X.env),(false,eval b X.env)]:=by rfl)(Ew:aq [b] X.env=[(false,eval b X.env)]:=by rfl):
  aK X G E (.Call (.Name "isinstance" p) [a,b] [] pos) (m1 (bO f) ma):=λhK=>
 Hj (qZ (XC (G:=G) (f:=f) hc rc (by rw[hK];exact hf) (by rw[hK];exact hex)) hg hm KG (iJ (ha hK) (iJ hb jU Ew) (by rw[he,Ew])) (by decide) (by decide) (by rw[he,Ew]) (by rw[Ew];rfl))
  λσ H Q⟨μ,ρ,h,rs,s,o⟩=>gF rs s o λμ1 d h1 v H1 x1 Cr s1 r1 o1=>by
   show KH G f c [v,c] H1 Q;unfold bO at o1
   cases q:hO d h1 with
   |none=>rw[q]at o1;exact o1.elim
   |some ty=>
    rw[q]at o1;dsimp only at o1
    cases q2:f ty with
    |none=>rw[q2]at o1;exact o1.elim
    |some bb=>rw[q2]at o1;exact⟨μ1,h1,d,v,ty,bb,rfl,s1,r1,q,q2,o1.val s1 rfl⟩
def KJ(G:Cfg)(f:Ty->Option Bool)(cs:Ic):Ic->Hp->VK->Prop:=λxs H Q=>∃μ h d v ty bb tp,xs=[v,.ref tp]/\H tp=some (.tup cs)/\Cm G μ h H/\Ca G μ h.length H d v/\hO d h=some ty/\f ty=some bb/\Q (.bl bb) H
theorem XD{cs:Ic}{us:List af}(hcs:∀us',Cc cs us'->us'=us)(hf:∀ty bb,f ty=some bb->kitAny X.K (mH G.cl ty) us=some bb)(hex:∀c bb,f (.exc c)=some bb->Ef X.K (G.cl c)):Cf X (.builtin "isinstance") (KJ G f cs):=by
 intro pins s σ H xs uu Q I rv ⟨μ,h,d,v,ty,bb,tp,e1,etp,sm,r,et,ef,q⟩;subst e1;obtain⟨u1,u2,rfl,r1,r2⟩:=tP rv;cases r2;obtain⟨_,its,rits,o,h1,h2,_,n,h3⟩:=(show Ce X.prog X.w H s.heap tp (.tup cs) from I.hok tp _ etp)
 have eits:=hcs its rits;subst eits;obtain⟨oc,od,odata,osl⟩:=o
 cases h2;cases h3
 obtain⟨P,Z,hP,hne⟩:=KD I sm r r1 et (λc z=>by subst z;exact hex c bb ef);exact kia_tup Z I.kIn hP h1 (hf ty bb ef) hne λtk=>⟨.bl bb,H,I.tok _,rfl,q⟩
theorem XE{cs:Ic}{us:List af}{bs:List bp}{kt:Nat}{tpos:Pos}(hg:Gl X "isinstance")(hm:X.mg "isinstance"=none)(ha:aK X G E a ma)(hb:PA X bs (λ_ H Q=>Q cs H))(hl:cs.length<=cp)(hcs:∀us',Cc cs us'->us'=us)(hf:∀ty bb,f ty=some bb->kitAny G.K (mH G.cl ty) us=some bb)(hex:∀c bb,f (.exc c)=some bb->Ef G.K (G.cl c))(he:aq [a,.Tuple bs kt tpos] X.env=[(false,eval a X.env),(false,eval (.Tuple bs kt tpos) X.env)]:=by rfl)(Ew:aq [.Tuple bs kt tpos] X.env=[(false,eval (.Tuple bs kt tpos) X.env)]:=by rfl):
  aK X G E (.Call (.Name "isinstance" p) [a,.Tuple bs kt tpos] [] pos) (m1 (bO f) ma):=λhK=>
 Hj (qZ (XD (G:=G) (f:=f) hcs (by rw[hK];exact hf) (by rw[hK];exact hex)) hg hm KG (iJ (ha hK) (iJ (HW hb) jU Ew) (by rw[he,Ew])) (by decide) (by decide) (by rw[he,Ew]) (by rw[Ew];rfl))
  λσ H Q⟨μ,ρ,h,rs,s,o⟩=>gF rs s o λμ1 d h1 v H1 x1 Cr s1 r1 o1=>by
   refine⟨hl,λtp htp=>?_⟩;show KJ G f cs [v,.ref tp] (aV H1 tp (.tup cs)) Q;unfold bO at o1
   cases q:hO d h1 with
   |none=>rw[q]at o1;exact o1.elim
   |some ty=>
    rw[q]at o1;dsimp only at o1
    cases q2:f ty with
    |none=>rw[q2]at o1;exact o1.elim
    |some bb=>rw[q2]at o1;have x2:Ext μ1 h1.length H1 μ1 h1.length (aV H1 tp (.tup cs)):=Hg (dD htp);exact⟨μ1,h1,d,v,ty,bb,tp,rfl,dR,s1.same (dD htp),Hq x2 _ _ r1,q,q2,o1 μ1 _ _ x2 (s1.same (dD htp)) rfl⟩
end
def lF:Dv->Option Bool
 |.bl b=>some b
 |_=>none
theorem CU{G:Cfg}{μ:Nat->ai}{n:Nat}{H:Hp}:∀{xs:Bt}{vs:Ic}{bs:List Bool},RelDL G μ n H xs vs->cD lF xs=some bs->vs=bs.map V.bl
 |[],vs,bs,r,e=>by cases e;rw[RelDL]at r;exact r
 |x::xs,vs,bs,r,e=>by
  rw[RelDL]at r;obtain⟨v,rr,rfl,r1,r2⟩:=r;unfold cD at e
  cases x with
  |bl b=>
   dsimp only[lF]at e
   cases q:cD lF xs with
   |none=>rw[q]at e;cases e
   |some zs=>rw[q]at e;cases e;rw[Ca]at r1;subst r1;rw[CU r2 q];rfl
  |_=>cases e
section
variable{X:Cx}{pins:List (ai×Obj)}{σ:St}{H:Hp}{s:ag}
theorem XF(bs:List Bool):(az bs.length).all (λi=>bs.getD i false)=bs.all id:=by
 rw[fv,iw,iw];constructor
 ·intro h b hb;obtain⟨i,hi,rfl⟩:=vc.mp hb;simpa[pw,hi]using h i (br.mpr hi)
 ·intro h i hi;have hi:=br.mp hi;simpa[pw,hi]using h _ (di hi)
theorem XG(bs:List Bool):(az bs.length).any (λi=>bs.getD i false)=bs.any id:=by
 rw[fv,nv,nv];constructor
 ·rintro ⟨i,hi,h⟩
  have hi:=br.mp hi;exact⟨bs[i],di hi,by simpa[pw,hi]using h⟩
 ·rintro ⟨b,hb,h⟩
  obtain⟨i,hi,rfl⟩:=vc.mp hb;exact⟨i,br.mpr hi,by simpa[pw,hi]using h⟩
theorem XH{bs:List Bool}{its:List af}(rv:Cc (bs.map V.bl) its){i:Nat}{v:af}(e:its.toArray[i]?=some v):v=.bool (bs.getD i false):=by
 have hl:=rv.length;rw[bf]at hl;have e':its[i]?=some v:=by simpa using e
 have hi:i<its.length:=(ba.mp e').1;have hb:i<bs.length:=by lia
 obtain⟨u,e2,r⟩:=rv.get (i:=i) (x:=V.bl bs[i]) (by simp[hb]);rw[e']at e2;cases e2;have hg:bs.getD i false=bs[i]:=by simp[pw,hb]
 rw[hg];exact r
theorem KL{bs:List Bool}{its:List af}{A:bx}(rv:Cc (bs.map V.bl) its):TruthOf X.prog X.w A (λi v=>its.toArray[i]?=some v) (λi=>bs.getD i false):=by intro i v s Q E e q;rw[XH rv e];exact nt q
theorem CV{o:Obj}{h':cq}{tk:Nat}(I:Inv X pins σ H s)(k:∀b u,b∉[s.heap.objs.size]->(s.heap.push o).get? b=some u->h'.get? b=some u):Inv X pins σ H {s with heap:=h',toks:=tk}:=by have I1:Inv X pins σ H {s with heap:=s.heap.push o}:=I.kept (t':=s.toks) λb u e=>ak _ e;obtain⟨f0,f1,f2,f3,f4,f5⟩:=I.fpOk (ao s.heap.objs.size) I.fresh;exact I1.turned (t':=tk) (λb u hb e=>k b u (by simpa using hb) e) f0 f1 f3 f4 f5
theorem XI(hc:X.calm=true):Cf X (.builtin "all") (λxs H Q=>∃(p:ai)(bs:List Bool),xs=[.ref p]/\H p=some (.lst (bs.map V.bl))/\Q (.bl (bs.all id)) H):=by
 intro pins s σ H xs us Q I rv ⟨p,bs,e,hp,q⟩;subst e;obtain⟨u,rfl,ru⟩:=iW rv;cases ru;obtain⟨its,rits,pl,hz⟩:=I.list (Hr hp);have hn:its.toArray.size=bs.length:=by have:=rits.length;simp at this⊢;lia
 have ne:p≠s.heap.objs.size:=ay (I.hok.lt hp);refine call_all_walk (nu pl.isList ⟨_,_,_,_,_,_,λi=>bs.getD i false,rfl,vz (A:=X.A.in1) (show X.A.in1.handled=none from I.ok.hd hc) _ p ne its.toArray,⟨⟨_,aw _ rfl,rfl,rfl⟩,pl.isList.push _⟩,KL rits,λh' tk k=>?_⟩);rw[hn,XF];exact⟨.bl _,H,(CV (tk:=tk) I k:Inv X pins σ H {s with heap:=h',toks:=tk}),rfl,q⟩
theorem XJ(hc:X.calm=true):Cf X (.builtin "any") (λxs H Q=>∃(p:ai)(bs:List Bool),xs=[.ref p]/\H p=some (.lst (bs.map V.bl))/\Q (.bl (bs.any id)) H):=by
 intro pins s σ H xs us Q I rv ⟨p,bs,e,hp,q⟩;subst e;obtain⟨u,rfl,ru⟩:=iW rv;cases ru;obtain⟨its,rits,pl,hz⟩:=I.list (Hr hp);have hn:its.toArray.size=bs.length:=by have:=rits.length;simp at this⊢;lia
 have ne:p≠s.heap.objs.size:=ay (I.hok.lt hp);refine call_any_walk (nu pl.isList ⟨_,_,_,_,_,_,λi=>bs.getD i false,rfl,vz (A:=X.A.in1) (show X.A.in1.handled=none from I.ok.hd hc) _ p ne its.toArray,⟨⟨_,aw _ rfl,rfl,rfl⟩,pl.isList.push _⟩,KL rits,λh' tk k=>?_⟩);rw[hn,XG];exact⟨.bl _,H,(CV (tk:=tk) I k:Inv X pins σ H {s with heap:=h',toks:=tk}),rfl,q⟩
end
section
variable{e:bp}{ml:M Bt}{x:Str}{p pos:Pos}{bid T:String}
def mL(f:Bs)(ml:M Bt ):M Dv:=λρ h=>(ml ρ h).bind f
def CW(G:Cfg)(r:Ic->Hp->VK->Prop)(f:Bs):Prop:=∀(E:XK)(μ:Nat->ai)(h:Hs)(H:Hp)(xs:Bt)(a:ai)(vs:Ic)(Q:VK),Cm G μ h H->H a=some (.lst vs)->RelDL G μ h.length H xs vs->Out G E μ h.length H (f xs h) (Ca G) Q->r [.ref a] H Q
theorem KN{r:Ic->Hp->VK->Prop}{f:Bs}(hd:CW G r f){σ:St}{H:Hp}{Q:VK}(t:iK G E (mL f ml) σ H Q):wN r (HV (xI G E ml) HU) σ H Q:=by obtain⟨μ,ρ,h,rs,s,o⟩:=t;refine⟨μ,ρ,h,rs,s,(o.bind (R1:=RL G)).mono λv H1⟨μ1,xs,h1,x1,s1,⟨a,vs,ev,ea,_,r1⟩,o1⟩=>?_⟩;subst ev;exact hd E μ1 h1 H1 xs a vs Q s1 ea r1 o1
theorem KO{r:Ic->Hp->VK->Prop}{f:Bs}(hc:Cf X (.builtin bid) r)(hd:CW G r f)(hg:Gl X x)(hm:X.mg x=none)(hv:dk x=some (.builtin bid))(ha:oF X G E e ml)(hn:x≠"__name__":=by decide)(Ft:(x==Ib)=false:=by decide)(he:aq [e] X.env=[(false,eval e X.env)]:=by rfl):aK X G E (.Call (.Name x p) [e] [] pos) (mL f ml):=λhK=>
 Hj (qZ hc hg hm hv (iJ (ha hK) jU he) hn Ft he rfl) λ_ _ _ t=>KN hd t
theorem XM{r:Ic->Hp->VK->Prop}{f:Bs}(hc:Cf X (.type T) r)(hd:CW G r f)(hg:Gl X x)(hm:X.mg x=none)(hv:dk x=some (.type T))(ha:oF X G E e ml)(hn:x≠"__name__":=by decide)(Ft:(x==Ib)=false:=by decide)(he:aq [e] X.env=[(false,eval e X.env)]:=by rfl):aK X G E (.Call (.Name x p) [e] [] pos) (mL f ml):=λhK=>
 Hj (rA hc hg hm hv (iJ (ha hK) jU he) hn Ft he rfl) λ_ _ _ t=>KN hd t
theorem XN:dk "all"=some (.builtin "all"):=by decide+kernel
theorem XO:dk "any"=some (.builtin "any"):=by decide+kernel
def hV(xs:Bt)(h:Hs):Rs Dv:=match cD lF xs with
 |some bs=>.ok (.bl (bs.all id)) h
 |none=>.bad
def uD(xs:Bt)(h:Hs):Rs Dv:=match cD lF xs with
 |some bs=>.ok (.bl (bs.any id)) h
 |none=>.bad
theorem pT(hc:X.calm=true)(hg:Gl X "all")(hm:X.mg "all"=none)(ha:oF X G E e ml)(he:aq [e] X.env=[(false,eval e X.env)]:=by rfl):aK X G E (.Call (.Name "all" p) [e] [] pos) (mL hV ml):=
 KO (XI hc) (λE μ h H xs a vs Q s ea r o=>by
  unfold hV at o
  cases q:cD lF xs with
  |none=>rw[q]at o;exact o.elim
  |some bs=>rw[q]at o;exact⟨a,bs,rfl,by rw[ea,CU r q],o.val s rfl⟩) hg hm XN ha (by decide) (by decide) he
theorem XQ(hc:X.calm=true)(hg:Gl X "any")(hm:X.mg "any"=none)(ha:oF X G E e ml)(he:aq [e] X.env=[(false,eval e X.env)]:=by rfl):aK X G E (.Call (.Name "any" p) [e] [] pos) (mL uD ml):=
 KO (XJ hc) (λE μ h H xs a vs Q s ea r o=>by
  unfold uD at o
  cases q:cD lF xs with
  |none=>rw[q]at o;exact o.elim
  |some bs=>rw[q]at o;exact⟨a,bs,rfl,by rw[ea,CU r q],o.val s rfl⟩) hg hm XO ha (by decide) (by decide) he
def CY(xs:Bt)(h:Hs):Rs Dv:=.ok (.tup xs) h
theorem XR(hg:Gl X "tuple")(hm:X.mg "tuple"=none)(ha:oF X G E e ml)(he:aq [e] X.env=[(false,eval e X.env)]:=by rfl):aK X G E (.Call (.Name "tuple" p) [e] [] pos) (mL CY ml):=XM IQ (λE μ h H xs a vs Q s ea r o=>⟨a,vs,rfl,.inl ⟨Hr ea,λl hl=>o μ _ _ (Hg (dD hl)) (s.same (dD hl)) ⟨l,vs,rfl,dR,Hf (Hg (dD hl)) _ _ r⟩⟩⟩) hg hm xD ha (by decide) (by decide) he
end
section
variable{o e i:bp}{mo me mi:M Dv}{ml:M Bt}{pos apos cpos:Pos}
theorem XS{H:Hp}{a:ai}{vs:Ic}(e:H a=some (.lst vs)):wQ X.K "list" (.ref a) H:=.inl ⟨rfl,vs,Hr e⟩
def kL(o d:Dv)(h:Hs):Rs Dv:=match o with
 |.ref j=>match getL h j with
  |some xs=>if xs.length<1000000 then .ok .non (h.set j (.lst (xs++[d])))else .bad
  |none=>.bad
 |_=>.bad
def jD(o:Dv)(h:Hs):Bool:=match o with
 |.ref j=>(getL h j).isSome
 |_=>false
def gC(mo me:M Dv):M Dv:=λρ h=>(mo ρ h).bind λx h1=>if jD x h1=true then(me ρ h1).bind λd h2=>kL x d h2 else .bad
theorem CZ{μ:Nat->ai}{h:Hs}{H:Hp}{x:Dv}{v:V}(s:Cm G μ h H)(r:Ca G μ h.length H x v)(e:jD x h=true):wQ X.K "list" v H:=by
 cases x with
 |ref j=>obtain⟨xs,q⟩:=yx.mp (show(getL h j).isSome=true from e);obtain⟨vs,ea,_⟩:=s.ob j _ (fG q);obtain⟨_,rfl⟩:=r;exact XS ea
 |_=>cases e
theorem rS{y:Str}{np:Pos}(ho:aK X G E (.Name y np) mo)(he:aK X G E e me)(hs:aq [e] X.env=[(false,eval e X.env)]:=by rfl)(hl:(apos.endLine==cpos.line)=true:=by rfl):aK X G E (.Call (.Attribute (.Name y np) "append" apos) [e] [] cpos) (gC mo me):=λhK=>
 Hj (BN si ym yn IV (ho hK) (iJ (he hK) jU hs) rfl (by rw[hs];rfl) hl hs rfl) λσ H Q⟨μ,ρ,h,rs,s,oo⟩=>gF rs s oo λμ1 x h1 vx H1 x1 Cr s1 r1 o1=>by
  split at o1
  ·rename_i hl;refine⟨CZ s1 r1 hl,gF Cr s1 o1 λμ2 d h2 vd H2 x2 Em s2 r2 o2=>?_⟩
   cases x with
   |ref j=>
    dsimp only[kL]at o2
    cases q:getL h2 j with
    |none=>rw[q]at o2;exact o2.elim
    |some xs=>
     rw[q]at o2;dsimp only at o2
     split at o2
     ·rename_i hz;obtain⟨vs,ea,ra⟩:=s2.ob j _ (fG q);obtain⟨_,rfl⟩:=Hq x2 _ _ r1;obtain⟨x3,s3⟩:=s2.write (fG q) (ra.append (Hl r2 Hn));exact⟨_,vs,vd,rfl,rfl,ea,by rw[ra.length];exact av hz (by decide),o2 μ2 _ _ x3 s3 rfl⟩
     ·exact o2.elim
   |_=>exact o2.elim
  ·exact o1.elim
end
section
variable{e i:bp}{mo me mi:M Dv}{ml:M Bt}{pos apos cpos np:Pos}{y:Str}
def xM(o i d:Dv)(h:Hs):Option Hs:=match o,i with
 |.ref j,.int k=>match getL h j with
  |some xs=>match dS xs.length k with
   |some n=>some (h.set j (.lst (xs.set n d)))
   |none=>none
  |none=>none
 |_,_=>none
def uE(mo mi me:M Dv):MS:=λρ h=>(me ρ h).thenS λd h1=>(mo ρ h1).thenS λo h2=>(mi ρ h2).thenS λi h3=>match xM o i d h3 with
 |some h4=>.nx ρ h4
 |none=>.bad
theorem KQ{o:bp}{spos:Pos}(ho:aK X G E o mo)(hi:aK X G E i mi)(he:aK X G E e me)(ha:∀v,assign (.Subscript o i spos) X.env v=(do
   let ov <-holding [v] (eval o X.env)
   let iv <-holding [v,ov] (eval i X.env)
   standAt spos
   holding [v,ov,iv] (setItem ov iv v)
   release [v,ov,iv] []):=by intro _;rfl)(hs:swapsWithSole [.Subscript o i spos] e pos.line X.env=pure false:=by rfl)(hw:swappedStores [.Subscript o i spos] e X.env=pure none:=by rfl)(h1:(assignEach [.Subscript o i spos] X.env).map (·.2)=[assign (.Subscript o i spos) X.env]:=by rfl):iE X G E (.Assign [.Subscript o i spos] e pos) (uE mo mi me):=λhK=>
 PS.imp (A8 (he hK) (HJ (ho hK) (hi hK) UR ha) hs hw h1) λD σ H⟨μ,ρ,h,rs,s,oo⟩=>kK rs s oo λμ1 d h1 v H1 x1 Cr s1 r1 o1=>kK Cr s1 o1 λμ2 ob h2 vo H2 x2 Em s2 r2 o2=>kK Em s2 o2 λμ3 ix h3 vi H3 x3 rs3 s3 r3 o3=>by
  cases ob with
  |ref j=>
   cases ix with
   |int k=>
    dsimp only[xM]at o3
    cases q:getL h3 j with
    |none=>rw[q]at o3;exact o3.elim
    |some xs=>
     rw[q]at o3;dsimp only at o3
     cases q2:dS xs.length k with
     |none=>rw[q2]at o3;exact o3.elim
     |some n=>rw[q2]at o3;obtain⟨vs,ea,ra⟩:=s3.ob j _ (fG q);obtain⟨_,rfl⟩:=Hq x3 _ _ r2;rw[Ca]at r3;subst r3;obtain⟨x4,s4⟩:=s3.write (fG q) (RelDL.set (Hq (x2.trans x3) _ _ r1) n ra);exact⟨_,vs,k,n,rfl,rfl,ea,by rw[ra.length];exact q2,o3 μ3 _ σ x4 s4 (rs3.mono x4)⟩
   |_=>exact o3.elim
  |_=>cases ix<;>exact o3.elim
end
section
variable{prog:bj}{w:cb}{A:bx}{E:af->ag->Prop}{s:ag}
theorem XT{it t:ai}{i:Nat}{items:Array af}{x:af}{Q:af->ag->Prop}(hit:s.heap.IsTupleIter it t i)(ht:s.heap.IsTuple t items)(hx:items[i]?=some x)(k:∀h',h'.IsTupleIter it t (i+1)->ig it s.heap h'->Q x {s with heap:=h'}):wpAny (model prog w) A (fz (.ref it)) Q E s:=by
 obtain⟨o,ho,hc,hd⟩:=id hit;obtain⟨ol,hol,hcl,nl,hdl⟩:=id ht;refine ae (gr (name:=mr "__next__") hit.typeIs F.slot_tuple_iterator_next (fe F.slot_tuple_iterator_next hit.typeIs F.entry_tuple_iterator_next ?_ (F.args_tuple_iterator_next_1 _)));have q0:∀{Q':af->ag->Prop}{E':af->ag->Prop}{B:bx},Q' (.ref t) s->wpAny (model prog w) B (field (.ref it) 0) Q' E' s:=λq=>gw ho hd (x:=.ref t) rfl q;have q1:∀{Q':af->ag->Prop}{E':af->ag->Prop}{B:bx},Q' (.int i 0) s->wpAny (model prog w) B (field (.ref it) 1) Q' E' s:=λq=>gw ho hd (x:=.int i 0) rfl q;refine ae (aj (ae (q0 ?_)));dsimp only;rw[if_neg (by simp)];refine ae (q1 (ae (jy hol hdl ?_)));rw[show((i:Int)).toNat=i from dh i];dsimp only;rw[hx];refine ae (Aw ho hd (by simp) (aj ⟨x,rfl,aj (k _ ⟨_,pq _ ho (Bg (wc hd _)),?_,?_⟩ (km ..))⟩))
 ·rw[Obj.cls_mapFields];exact hc
 ·rw[wc hd];simp[rawInt]
end
section
variable{prog:bj}{w:cb}{A:bx}{E:af->ag->Prop}{s:ag}
theorem XU{α:Type}{Q:α->ag->Prop}(hh:A.handled=none)(k:∀h' e,(∀b o,s.heap.get? b=some o->h'.get? b=some o)->(∃o,h'.get? e=some o/\o.cls=.type "StopIteration")->E (.ref e) {s with heap:=h'}):
  wpAny (model prog w) A (sv:Sem α) Q E s:=by
 have e0:firstArgMember (.type "StopIteration") []=pure jn:=by show(pure (if _ then jn else jn):Sem af)=_;rw[ite_self]
 unfold sv newExc newTuple;refine ae (ae (fh (ae (wb e0 (fh (wpAny_raiseNew_none hh (k _ _ (λb o q=>ak _ (ak _ q)) ⟨_,aw _ rfl,rfl⟩)) (by size_fits)))) (by size_fits)))
theorem XW{it t:ai}{i:Nat}{items:Array af}{Q:af->ag->Prop}(hh:A.handled=none)(hit:s.heap.IsTupleIter it t i)(ht:s.heap.IsTuple t items)(hx:items[i]?=none)(k:∀h' e,xv it s.heap h'->(∃o,h'.get? e=some o/\o.cls=.type "StopIteration")->E (.ref e) {s with heap:=h'}):wpAny (model prog w) A (fz (.ref it)) Q E s:=by
 obtain⟨o,ho,hc,hd⟩:=id hit;obtain⟨ol,hol,hcl,nl,hdl⟩:=id ht;refine ae (gr (name:=mr "__next__") hit.typeIs F.slot_tuple_iterator_next (fe F.slot_tuple_iterator_next hit.typeIs F.entry_tuple_iterator_next ?_ (F.args_tuple_iterator_next_1 _)));have q0:∀{Q':af->ag->Prop}{E':af->ag->Prop}{B:bx},Q' (.ref t) s->wpAny (model prog w) B (field (.ref it) 0) Q' E' s:=λq=>gw ho hd (x:=.ref t) rfl q;have q1:∀{Q':af->ag->Prop}{E':af->ag->Prop}{B:bx},Q' (.int i 0) s->wpAny (model prog w) B (field (.ref it) 1) Q' E' s:=λq=>gw ho hd (x:=.int i 0) rfl q;refine ae (aj (ae (q0 ?_)));dsimp only;rw[if_neg (by simp)];refine ae (q1 (ae (jy hol hdl ?_)));rw[show((i:Int)).toNat=i from dh i];dsimp only;rw[hx];refine ae (tq (ae (Aw ho hd (by simp) (XU (show A.in1.handled=none from hh) λh' e kp st=>k h' e (λb u hb q=>kp b u ?_) st))));rw[pg _ _ (dg hb)];exact q
end
structure Draws(prog:bj)(w:cb)(it src:ai)(xs:List af)(st:Nat->cq->Prop):Prop where
 keep:∀i h h',st i h->(∀b o,b=it∨b=src->h.get? b=some o->h'.get? b=some o)->st i h'
 there:∀i h,st i h->∃o vs,h.get? it=some o/\o.data=.fields vs
 item:∀(A:bx)(i:Nat)(x:af)(s:ag)(Q:af->ag->Prop)(E:af->ag->Prop),xs[i]?=some x->st i s.heap->
  (∀h',st (i+1) h'->ig it s.heap h'->Q x {s with heap:=h'})->wpAny (model prog w) A (fz (.ref it)) Q E s
 done:∀(A:bx)(i:Nat)(s:ag)(Q:af->ag->Prop)(E:af->ag->Prop),A.handled=none->xs[i]?=none->st i s.heap->
  (∀h' e,xv it s.heap h'->(∃o,h'.get? e=some o/\o.cls=.type "StopIteration")->E (.ref e) {s with heap:=h'})->wpAny (model prog w) A (fz (.ref it)) Q E s
structure Four(z TI TO i j u v:ai):Prop where
 a:z≠TO
 b:z≠i
 c:z≠j
 d:TO≠i
 e:TO≠j
 f:i≠j
 g:TI≠z
 h:TI≠TO
 k:TI≠i
 l:TI≠j
 u1:u≠z
 u2:u≠TO
 u3:u≠i
 u4:u≠j
 v1:v≠z
 v2:v≠TO
 v3:v≠i
 v4:v≠j
theorem iO{b x y c:ai}(h:b=x∨b=y)(p:x≠c)(q:y≠c):b≠c:=by
 rcases h with h|h
 ·rw[h];exact p
 ·rw[h];exact q
def xN(z TO i j:ai)(h h':cq):Prop:=∀b o,b≠z->b≠TO->b≠i->b≠j->h.get? b=some o->h'.get? b=some o
section
variable{prog:bj}{w:cb}{A:bx}{E:af->ag->Prop}{s:ag}{z TI TO i j u v:ai}{xs ys:List af}{st su:Nat->cq->Prop}
theorem XX{n:Nat}{x y a b:af}{Q:af->ag->Prop}(F4:Four z TI TO i j u v)(P:Draws prog w i u xs st)(R:Draws prog w j v ys su)(hz:zu s.heap z TI TO .none)(hTI:qf s.heap TI (.ref i) (.ref j))(hTO:qf s.heap TO a b)(p:st n s.heap)(r:su n s.heap)(hx:xs[n]?=some x)(hy:ys[n]?=some y)(k:∀h' T,s.heap.objs.size<=T->zu h' z TI TO (rawInt T)->qf h' TI (.ref i) (.ref j)->qf h' TO x y->st (n+1) h'->su (n+1) h'->qf h' T x y->xN z TO i j s.heap h'->Q (.ref T) {s with heap:=h'}):
  wpAny (model prog w) A (my.«zip.__next__» ⟨[.ref z],[]⟩) (λfin s'=>∃v,fin=.done (.ret v)/\Q v s') E s:=by
 refine ae (aj (ae (gw hz rfl (x:=.bool false) rfl (ae (gw hz rfl (x:=.ref TI) rfl (ae (jy hTI rfl ?_)))))));have fr:∀{Q':Bool->ag->Prop}{E':af->ag->Prop},Q' true s->wpAny (model prog w) A (rz (.ref z)) Q' E' s:=λq=>ae (gw hz rfl (x:=.none) rfl (aj q));refine ae (fr ?_);rw[if_pos rfl];refine ae (tq (ae (gw hz rfl (x:=.ref TO) rfl (ae (iz hz (by simp) λg1 z1 b1=>?_)))));have z1':zu g1 z TI TO .ellipsis:=z1;refine ae ?_;show wpAny _ _ (forIn [(jd i,0),(jd j,1)] _ _) _ _ _;rw[qo];refine ae (ae (um ?_));show wpAny _ _ (fz (.ref i) >>=_) _ _ _;refine ae (P.item A n x _ _ _ hx (P.keep n _ _ p λb o hb q=>b1.extBut _ _ (iO hb (dg F4.b) F4.u1) q) λg2 p2 b2=>aj ?_);have t2:qf g2 TO a b:=b2.extBut _ _ F4.d (b1.extBut _ _ (dg F4.a) hTO);refine ae (jy t2 rfl (ae (we t2 λg3 t3 b3=>ae (wpAny_letGo (aj ?_)))));have t3':qf g3 TO x b:=t3;dsimp only;rw[qo];refine ae (ae (um ?_));show wpAny _ _ (fz (.ref j) >>=_) _ _ _;have r3:su n g3:=R.keep n _ _ r λb o hb q=>b3.extBut _ _ (iO hb (dg F4.e) F4.v2) (b2.extBut _ _ (iO hb (dg F4.f) F4.v3) (b1.extBut _ _ (iO hb (dg F4.c) F4.v1) q));refine ae (R.item A n y _ _ _ hy r3 λg4 r4 b4=>aj ?_);have t4:qf g4 TO x b:=b4.extBut _ _ F4.e t3';refine ae (jy t4 rfl (ae (we t4 λg5 t5 b5=>ae (wpAny_letGo (aj ?_)))));have t5':qf g5 TO x y:=t5;dsimp only;rw[List.forIn_nil];refine aj ?_;refine ae (jy t5' rfl (ae (wpAny_newTuple ?_)));have z5:zu g5 z TI TO .ellipsis:=b5.extBut _ _ F4.a (b4.extBut _ _ F4.c (b3.extBut _ _ F4.a (b2.extBut _ _ F4.b z1')));have sz:g5.objs.size=s.heap.objs.size:=by rw[b5.1,b4.1,b3.1,b2.1,b1.1]
 have all5:xN z TO i j s.heap g5:=λc o c1 c2 c3 c4 q=>b5.extBut _ _ c2 (b4.extBut _ _ c4 (b3.extBut _ _ c2 (b2.extBut _ _ c3 (b1.extBut _ _ c1 q))));have p5:st (n+1) g5:=P.keep _ _ _ p2 λb o hb q=>b5.extBut _ _ (iO hb (dg F4.d) F4.u2) (b4.extBut _ _ (iO hb F4.f F4.u4) (b3.extBut _ _ (iO hb (dg F4.d) F4.u2) q));have r5:su (n+1) g5:=R.keep _ _ _ r4 λb o hb q=>b5.extBut _ _ (iO hb (dg F4.e) F4.v2) q;generalize hob:({cls:=.type "tuple",dict:=none,data:=.seq [x,y].toArray}:Obj)=ob;have zp:zu (g5.push ob) z TI TO .ellipsis:=ak _ z5;refine ae (ae (iz zp (by simp) λg7 z7 b7=>?_));have z7':zu g7 z TI TO (rawInt g5.objs.size):=z7;refine iz z7' (by simp) λg8 z8 b8=>aj ⟨_,rfl,?_⟩;have up:∀c o,c≠z->g5.get? c=some o->g8.get? c=some o:=λc o c1 q=>b8.extBut _ _ c1 (b7.extBut _ _ c1 (ak _ q));have lz:z<g5.objs.size:=au z5;have T8:qf g8 g5.objs.size x y:=b8.extBut _ _ (jh lz) (b7.extBut _ _ (jh lz) (by rw[<-hob];exact aw _ rfl));refine k g8 g5.objs.size (rf sz.symm) z8 (up _ _ F4.g (all5 _ _ F4.g F4.h F4.k F4.l hTI)) (up _ _ (dg F4.a) t5') (P.keep _ _ _ p5 λb o hb q=>up _ _ (iO hb (dg F4.b) F4.u1) q) (R.keep _ _ _ r5 λb o hb q=>up _ _ (iO hb (dg F4.c) F4.v1) q) T8 λc o c1 c2 c3 c4 q=>up _ _ c1 (all5 c o c1 c2 c3 c4 q)
end
section
variable{prog:bj}{w:cb}{A:bx}{E:af->ag->Prop}{s:ag}{z TI TO i j u v:ai}{xs ys:List af}{st su:Nat->cq->Prop}
theorem XY{n:Nat}{a b:af}{Q:PySem.Fin->ag->Prop}(hh:A.handled=none)(F4:Four z TI TO i j u v)(P:Draws prog w i u xs st)(R:Draws prog w j v ys su)(hz:zu s.heap z TI TO .none)(hTI:qf s.heap TI (.ref i) (.ref j))(hTO:qf s.heap TO a b)(p:st n s.heap)(r:su n s.heap)(hend:xs[n]?=none∨ys[n]?=none)(k:∀h' e,xN z TO i j s.heap h'->(∃o,h'.get? e=some o/\o.cls=.type "StopIteration")->E (.ref e) {s with heap:=h'}):
  wpAny (model prog w) A (my.«zip.__next__» ⟨[.ref z],[]⟩) Q E s:=by
 refine ae (aj (ae (gw hz rfl (x:=.bool false) rfl (ae (gw hz rfl (x:=.ref TI) rfl (ae (jy hTI rfl ?_)))))));have fr:∀{Q':Bool->ag->Prop}{E':af->ag->Prop},Q' true s->wpAny (model prog w) A (rz (.ref z)) Q' E' s:=λq=>ae (gw hz rfl (x:=.none) rfl (aj q));refine ae (fr ?_);rw[if_pos rfl];refine ae (tq (ae (gw hz rfl (x:=.ref TO) rfl (ae (iz hz (by simp) λg1 z1 b1=>?_)))));have z1':zu g1 z TI TO .ellipsis:=z1;have p1:st n g1:=P.keep n _ _ p λb o hb q=>b1.extBut _ _ (iO hb (dg F4.b) F4.u1) q;have fin:∀(g:cq)(e:ai),zu g z TI TO .ellipsis->xN z TO i j s.heap g->(∃o,g.get? e=some o/\o.cls=.type "StopIteration")->
   wpAny (model prog w) A (setField (.ref z) 0 .none) (λ_ s'=>E (.ref e) s') E {s with heap:=g}:=λg e zz bt⟨o,he,hc⟩=>
  iz zz (by simp) λg' _ b'=>k g' e (λc u c1 c2 c3 c4 q=>b'.extBut _ _ c1 (bt c u c1 c2 c3 c4 q)) ⟨o,b'.extBut _ _ (λq=>by subst q;rw[zz]at he;cases he;simp at hc) he,hc⟩
 refine ae ?_;show wpAny _ _ (forIn [(jd i,0),(jd j,1)] _ _) _ _ _;rw[qo];refine ae (ae (um ?_));show wpAny _ _ (fz (.ref i) >>=_) _ _ _
 cases hx:xs[n]? with
 |none=>exact ae (P.done A n _ _ _ hh hx p1 λg2 e b2 he=>fin g2 e (b2 _ _ F4.b z1') (λc u c1 _ c3 _ q=>b2 _ _ c3 (b1.extBut _ _ c1 q)) he)
 |some x=>
  have hy:ys[n]?=none:=by
   rcases hend with q|q
   ·rw[hx]at q;cases q
   ·exact q
  refine ae (P.item A n x _ _ _ hx p1 λg2 p2 b2=>aj ?_);have t2:qf g2 TO a b:=b2.extBut _ _ F4.d (b1.extBut _ _ (dg F4.a) hTO);refine ae (jy t2 rfl (ae (we t2 λg3 t3 b3=>ae (wpAny_letGo (aj ?_)))));dsimp only;rw[qo];refine ae (ae (um ?_));show wpAny _ _ (fz (.ref j) >>=_) _ _ _;have r3:su n g3:=R.keep n _ _ r λb o hb q=>b3.extBut _ _ (iO hb (dg F4.e) F4.v2) (b2.extBut _ _ (iO hb (dg F4.f) F4.v3) (b1.extBut _ _ (iO hb (dg F4.c) F4.v1) q));exact ae (R.done A n _ _ _ hh hy r3 λg4 e b4 he=>fin g4 e (b4 _ _ F4.c (b3.extBut _ _ F4.a (b2.extBut _ _ F4.b z1'))) (λc u c1 c2 c3 c4 q=>b4 _ _ c4 (b3.extBut _ _ c2 (b2.extBut _ _ c3 (b1.extBut _ _ c1 q)))) he)
theorem xO{it t:ai}{items:Array af}(hne:t≠it):Draws prog w it t items.toList (λi h=>h.IsTupleIter it t i/\h.IsTuple t items) where
 keep:=λi h h'⟨⟨o,e,r⟩,⟨o2,e2,r2⟩⟩k=>⟨⟨o,k _ _ (.inl rfl) e,r⟩,⟨o2,k _ _ (.inr rfl) e2,r2⟩⟩
 there:=λi h⟨⟨o,e,_,d⟩,_⟩=>⟨o,_,e,d⟩
 item:=λA i x s Q E hx⟨a,b⟩k=>XT a b (by simpa using hx) λh' a' sb=>k h' ⟨a',b.extBut sb.extBut hne⟩ sb
 done:=λA i s Q E hh hx⟨a,b⟩k=>XW hh a b (by simpa using hx) k
end
def DB(K:ar)(t u:ai):It:=
 ⟨λi H=>∃vs ws v w,Ct K H t vs/\Ct K H u ws/\vs[i]?=some v/\ws[i]?=some w,
  λi H x H'=>∃p v w,x=.ref p/\H p=none/\H'=aV H p (.tup [v,w])/\(∀vs,Ct K H t vs->vs[i]?=some v)/\∀ws,Ct K H u ws->ws[i]?=some w,
  λi H=>∃vs ws,Ct K H t vs/\Ct K H u ws/\(vs.length<=i∨ws.length<=i)⟩
structure ZipAt(z TI TO i j t u:ai)(n:Nat)(h:cq):Prop where
 zp:zu h z TI TO .none
 ti:qf h TI (.ref i) (.ref j)
 to:∃a b,qf h TO a b
 i1:h.IsTupleIter i t n
 i2:h.IsTupleIter j u n
section
variable{X:Cx}{pins:List (ai×Obj)}{σ:St}{H:Hp}{s:ag}
theorem Inv.turns{h':cq}{ch:List ai}{T:ai}{vs:Ic}{its:List af}(I:Inv X pins σ H s)(Fy:∀b∈ch,eN X pins H b)(k:∀b o,b∉ch->s.heap.get? b=some o->h'.get? b=some o)(there:∀b∈ch,∃o,h'.get? b=some o)(hT:s.heap.objs.size<=T)(hv:Cc vs its)(hl:vs.length<=cp)(tp:Dc h' T its.toArray):Inv X pins σ (aV H T (.tup vs)) {s with heap:=h'}:=by
 have nT:H T=none:=I.hok.fresh hT;have nch:∀b o,H b=some o->b∉ch:=λb o q z=>by rw[(Fy b z).1]at q;cases q
 have un:Un (eY X.stack) ch H (aV H T (.tup vs)) s.heap h':=
  ⟨λb o q _ _ hb=>k b o hb q,λb o q _ _ hb=>⟨o.slots,k b o hb q⟩,λb o q n _=>by rw[cB (ay (av (au q) hT))];exact n,
   λb o q hb=>⟨o,k b o hb q⟩,λb xs q=>dD nT b _ q,λb o u q=>dD nT b _ q,λb ps q=>⟨#[],by rw[dD nT b _ q];simp⟩⟩
 have ok:Dn X.prog X.w (aV H T (.tup vs)) h':=λb o q=>by
  by_cases hb:b=T
  ·subst hb;rw[dR]at q;cases q;exact⟨hl,its,hv,tp⟩
  ·rw[cB hb]at q;refine(I.hok b o q).stay (λc v hc z=>k c v ?_ z) (λc z=>dD nT c _ z) λc xs z=>dD nT c _ z
   rcases hc with rfl|hc
   ·exact nch c o q
   ·exact nch c _ hc
 exact I.call (g':=s.gens) (d':=s.drawn) (t':=s.toks) un ok I.bare λb hb=>let ⟨_,f1,_,f3,f4,f5⟩:=Fy b hb;⟨f3,f1,f4,f5⟩
theorem Inv.turns0{h':cq}{ch:List ai}(I:Inv X pins σ H s)(Fy:∀b∈ch,eN X pins H b)(k:∀b o,b∉ch->s.heap.get? b=some o->h'.get? b=some o):Inv X pins σ H {s with heap:=h'}:=by
 have nch:∀b o,H b=some o->b∉ch:=λb o q z=>by rw[(Fy b z).1]at q;cases q
 refine I.call (g':=s.gens) (d':=s.drawn) (t':=s.toks) (ch:=ch) ⟨λb o q _ _ hb=>k b o hb q,λb o q _ _ hb=>⟨o.slots,k b o hb q⟩,λ_ _ _ n _=>n,λb o q hb=>⟨o,k b o hb q⟩,λ_ _ q=>q,λ_ _ _ q=>q,λb ps q=>⟨#[],by rw[q];simp⟩⟩ (λb o q=>?_) I.bare λb hb=>let ⟨_,f1,_,f3,f4,f5⟩:=Fy b hb;⟨f3,f1,f4,f5⟩;refine(I.hok b o q).stay (λc v hc z=>k c v ?_ z) (λ_ z=>z) λ_ _ z=>z
 rcases hc with rfl|hc
 ·exact nch c o q
 ·exact nch c _ hc
end
theorem XZ{P:bj}{w:cb}{K:ar}{elts:List bp}{kk:Nat}{tp:Pos}{z TI TO i j t u:ai}(F4:Four z TI TO i j t u)(hti:t≠i)(huj:u≠j):
  Turn P w K (.Tuple elts kk tp) (DB K t u) [z,TI,TO,i,j] z (ZipAt z TI TO i j t u) where
 mem:=by simp
 obj:=λn h st b hb=>by
  obtain⟨zp,ti,⟨a,b',to⟩,⟨o1,e1,_,d1⟩,⟨o2,e2,_,d2⟩⟩:=st;simp at hb
  rcases hb with rfl|rfl|rfl|rfl|rfl
  ·exact⟨_,zp,λv q=>by cases q⟩
  ·exact⟨_,ti,λv q=>by cases q⟩
  ·exact⟨_,to,λv q=>by cases q⟩
  ·exact⟨_,e1,λv q=>by rw[d1]at q;cases q⟩
  ·exact⟨_,e2,λv q=>by rw[d2]at q;cases q⟩
 keep:=λn h h' st k=>by obtain⟨zp,ti,⟨a,b',to⟩,⟨o1,e1,r1⟩,⟨o2,e2,r2⟩⟩:=st;exact⟨k _ (by simp) _ zp,k _ (by simp) _ ti,⟨a,b',k _ (by simp) _ to⟩,⟨o1,k _ (by simp) _ e1,r1⟩,⟨o2,k _ (by simp) _ e2,r2⟩⟩
 item:=by
  intro X hP hw hK hc n pins s σ H E I hf st hg;subst hP hw hK;obtain⟨vs,ws,v,w',hq,hr,hv,hw'⟩:=hg;obtain⟨its,rv,p1,z1⟩:=I.tuple hq;obtain⟨jts,rw',p2,z2⟩:=I.tuple hr;obtain⟨x,hx,rx⟩:=rv.get hv;obtain⟨y,hy,ry⟩:=rw'.get hw';obtain⟨zp,ti,⟨a,b,to⟩,i1,i2⟩:=st;have hT:s.TypeIs (.ref z) "zip":=⟨_,zp,rfl⟩;unfold pyNext;refine ae (uq (gr (name:=mr "__next__") hT F.slot_zip_next (fe F.slot_zip_next hT F.entry_zip_next
   (XX F4 (xO (items:=its.toArray) hti) (xO (items:=jts.toArray) huj) zp ti to ⟨i1,p1⟩ ⟨i2,p2⟩ (by simpa using hx) (by simpa using hy) λh' T Fo a1 a2 a3 a4 a5 a6 bt=>aj ⟨_,rfl,?_⟩) (F.args_zip_next_1 _))))
  refine wpAny_letOwnedTupleGo_zip a1 λh2 z2' sb=>?_;have kp:∀b o,b∉[z,TI,TO,i,j]->s.heap.get? b=some o->h2.get? b=some o:=λb o hb q=>by simp at hb;obtain⟨n1,n2,n3,n4,n5⟩:=hb;exact sb.extBut _ _ n1 (bt b o n1 n3 n4 n5 q)
  have Tz:T≠z:=jh (av (au zp) Fo);have T2:qf h2 T x y:=sb.extBut _ _ Tz a6;have th:∀b∈[z,TI,TO,i,j],∃o,h2.get? b=some o:=λb hb=>by
   obtain⟨⟨o1,e1,_⟩,_⟩:=a4;obtain⟨⟨o2,e2,_⟩,_⟩:=a5;simp at hb
   rcases hb with rfl|rfl|rfl|rfl|rfl
   ·exact⟨_,z2'⟩
   ·exact⟨_,sb.extBut _ _ F4.g a2⟩
   ·exact⟨_,sb.extBut _ _ (dg F4.a) a3⟩
   ·exact⟨_,sb.extBut _ _ (dg F4.b) e1⟩
   ·exact⟨_,sb.extBut _ _ (dg F4.c) e2⟩
  have I2:=Inv.turns (T:=T) (vs:=[v,w']) (its:=[x,y]) I hf kp th Fo (.cons rx (.cons ry .nil)) (by show 2<=cp;decide) ⟨_,T2,rfl,rfl,_,rfl⟩;have nT:H T=none:=I.hok.fresh Fo;refine⟨.ref T,_,I2,rfl,⟨T,v,w',rfl,nT,rfl,λDr h'=>by rw[I.tuple_inj h' hq];exact hv,λws' h'=>by rw[I.tuple_inj h' hr];exact hw'⟩,?_,λb hb=>?_⟩
  ·exact⟨z2',sb.extBut _ _ F4.g a2,⟨_,_,sb.extBut _ _ (dg F4.a) a3⟩,a4.1.extBut sb.extBut (dg F4.b),a5.1.extBut sb.extBut (dg F4.c)⟩
  ·obtain⟨o,q,_⟩:∃o,s.heap.get? b=some o/\True:=by
    obtain⟨o1,e1,_⟩:=i1;obtain⟨o2,e2,_⟩:=i2;simp at hb
    rcases hb with rfl|rfl|rfl|rfl|rfl
    ·exact⟨_,zp,trivial⟩
    ·exact⟨_,ti,trivial⟩
    ·exact⟨_,to,trivial⟩
    ·exact⟨_,e1,trivial⟩
    ·exact⟨_,e2,trivial⟩
   rw[cB (ay (av (au q) Fo))];exact(hf b hb).1
 done:=by
  intro X hP hw hK hc n pins s σ H E I hf st hg;subst hP hw hK;obtain⟨vs,ws,hq,hr,hend⟩:=hg;obtain⟨its,rv,p1,z1⟩:=I.tuple hq;obtain⟨jts,rw',p2,z2⟩:=I.tuple hr;have l1:=rv.length;have l2:=rw'.length;obtain⟨zp,ti,⟨a,b,to⟩,i1,i2⟩:=st;have hT:s.TypeIs (.ref z) "zip":=⟨_,zp,rfl⟩;unfold pyNext;refine ae (uq (gr (name:=mr "__next__") hT F.slot_zip_next (fe F.slot_zip_next hT F.entry_zip_next
   (XY (show X.A.in1.handled=none from I.ok.hd hc) F4 (xO (items:=its.toArray) hti) (xO (items:=jts.toArray) huj) zp ti to ⟨i1,p1⟩ ⟨i2,p2⟩ (by
    rcases hend with q|q
    ·exact .inl (by simp;lia)
    ·exact .inr (by simp;lia)) λh' e bt⟨o,he,hcl⟩=>ae (uy (T:="StopIteration") (b:=true) ⟨o,he,hcl⟩ Ax (aj ⟨rfl,?_⟩))) (F.args_zip_next_1 _))))
  refine Inv.turns0 I hf λb o hb q=>?_;simp at hb;exact bt b o hb.1 hb.2.2.1 hb.2.2.2.1 hb.2.2.2.2 q
 self:=λ_ _ _ _ _ st h=>wpAny_pyIter_zip st.zp h
def KR(t u:ai)(h:cq)(z:ai)(h':cq):Prop:=∃TI TO i j,ZipAt z TI TO i j t u 0 h'/\Four z TI TO i j t u/\(∀b∈[z,TI,TO,i,j],h.objs.size<=b)/\∀b o,h.get? b=some o->h'.get? b=some o
theorem uF{h h':cq}{o:Obj}(e:h'=h.push o)(nf:o.isFreed=false):h'.get? h.objs.size=some o:=by rw[e];exact aw _ nf
theorem X0(n t u:Nat)(lt:t<n)(lu:u<n):Four (n+4) (n+2) (n+3) n (n+1) t u:=by
 have ne:∀{a b:Nat},(a<b∨b<a)->a≠b:=λh=>by lia
 exact⟨ne (by lia),ne (by lia),ne (by lia),ne (by lia),ne (by lia),ne (by lia),ne (by lia),ne (by lia),ne (by lia),ne (by lia),ne (by lia),ne (by lia),ne (by lia),ne (by lia),ne (by lia),ne (by lia),ne (by lia),ne (by lia)⟩
theorem X1{t u:ai}{hp h1 h2 h3 h4 h5:cq}{n:Nat}(hn:n=hp.objs.size)(lt:t<n)(lu:u<n)(e1:h1=hp.push {cls:=.type "tuple_iterator",data:=.fields #[.ref t,.int 0 0]})(e2:h2=h1.push {cls:=.type "tuple_iterator",data:=.fields #[.ref u,.int 0 0]})(e3:h3=h2.push {cls:=.type "tuple",data:=.seq #[.ref n,.ref (n+1)]})(e4:h4=h3.push {cls:=.type "tuple",data:=.seq #[.none,.none]})(e5:h5=h4.push {cls:=.type "zip",data:=.fields #[.none,.bool false,.bool false,.ref (n+2),.ref (n+3)]}):KR t u hp (n+4) h5:=by
 have z1:h1.objs.size=n+1:=by rw[e1,fw,hn]
 have z2:h2.objs.size=n+2:=by rw[e2,fw,z1]
 have z3:h3.objs.size=n+3:=by rw[e3,fw,z2]
 have z4:h4.objs.size=n+4:=by rw[e4,fw,z3]
 have up:∀(h:cq)(o:Obj)(b:ai)(q:Obj),h.get? b=some q->(h.push o).get? b=some q:=λh o b q e=>ak _ e;have g1:=uF e1 rfl;have g2:=uF e2 rfl;have g3:=uF e3 rfl;have g4:=uF e4 rfl;have g5:=uF e5 rfl;rw[<-hn]at g1;rw[z1]at g2;rw[z2]at g3;rw[z3]at g4;rw[z4]at g5;have u2:∀b q,h2.get? b=some q->h5.get? b=some q:=λb q e=>by rw[e5,e4,e3];exact up _ _ _ _ (up _ _ _ _ (up _ _ _ _ e))
 have u1:∀b q,h1.get? b=some q->h5.get? b=some q:=λb q e=>u2 b q (by rw[e2];exact up _ _ _ _ e);have u3:∀b q,h3.get? b=some q->h5.get? b=some q:=λb q e=>by rw[e5,e4];exact up _ _ _ _ (up _ _ _ _ e)
 have u4:∀b q,h4.get? b=some q->h5.get? b=some q:=λb q e=>by rw[e5];exact up _ _ _ _ e
 refine⟨n+2,n+3,n,n+1,⟨g5,u3 _ _ g3,⟨_,_,u4 _ _ g4⟩,⟨_,u1 _ _ g1,rfl,rfl⟩,⟨_,u2 _ _ g2,rfl,rfl⟩⟩,?_,?_,λb q e=>u1 b q (by rw[e1];exact up _ _ _ _ e)⟩
 ·exact X0 n t u lt lu
 ·intro b hb;rw[<-hn];simp at hb
  rcases hb with rfl|rfl|rfl|rfl|rfl
  ·exact ue _ _
  ·exact ue _ _
  ·exact ue _ _
  ·exact ao _
  ·exact ue _ _
theorem X2{t u:ai}(xs ys:Array af):Meets (my.«zip.__new__» ⟨[.type "zip",.ref t,.ref u],[]⟩) (λ_ R s=>s.heap.IsTuple t xs/\s.heap.IsTuple u ys/\∀h' z,KR t u s.heap z h'->R (.ok (.ret (.ref z))) {s with heap:=h'}):=
 .of_wp λprog w A R s h=>by
  obtain⟨ht,hu,k⟩:=h;obtain⟨hp,g,d,tk,os⟩:=s;have sub:=sub_zip;have ht':(⟨hp,g,d,tk,os⟩:ag).heap.IsTuple t xs:=ht;have Cs:(⟨hp.push {cls:=.type "tuple_iterator",data:=.fields #[.ref t,.int 0 0]},g,d,tk,os⟩:ag).heap.IsTuple u ys:=hu.push _
  wp_walk using tj ht',tj Cs
  have lt:t<hp.objs.size:=by obtain⟨o,e,_⟩:=ht;exact au e
  have lu:u<hp.objs.size:=by obtain⟨o,e,_⟩:=hu;exact au e
  simp only[fw];refine⟨_,rfl,k _ _ (X1 rfl lt lu rfl rfl rfl rfl ?_)⟩;simp only[fw];rfl
section
variable{a b:bp}{elts:List bp}{kk:Nat}{tp p pos:Pos}{ta:TA}{ms:M Bt}
def X3(K:ar)(ta:TA):TI:=λσ H R=>ta σ H λvs H1=>∃t u xs ys,vs=[.ref t,.ref u]/\Ct K H1 t xs/\Ct K H1 u ys/\R (DB K t u) H1
theorem X4:dk "zip"=some (.type "zip"):=by decide+kernel
theorem X5(hg:Gl X "zip")(hm:X.mg "zip"=none)(ha:PA X [a,b] ta)(hs:aq [a,b] X.env=[(false,eval a X.env),(false,eval b X.env)]:=by rfl)(hs2:aq [b] X.env=[(false,eval b X.env)]:=by rfl):
  PI X (.Tuple elts kk tp) (.Call (.Name "zip" p) [a,b] [] pos) (X3 X.K ta):=by
 intro pins s σ H R I h;refine Call_ (qW I hg hm X4 (lb (bQ (ha pos pins s σ H _ I h) λus s1⟨vs,H1,I1,r1,q1⟩=>?_) (by rw[hs,hs2]) (by rw[hs2];rfl)));obtain⟨t,u,xs,ys,e,hq,hr,q⟩:=q1;subst e;obtain⟨u1,u2,rfl,e1,e2⟩:=tP r1;cases e1;cases e2;obtain⟨its,rv,p1,_⟩:=I1.tuple hq;obtain⟨jts,rw',p2,_⟩:=I1.tuple hr;refine callType_new F.called_zip (by decide) (F.typeCall_zip_2 _ _) (F.newCall_zip_2 _ _) (λobj=>F.args_object_init_3 obj _ _) F.entry_zip_new (X2 its.toArray jts.toArray) ⟨p1,p2,λh' z nz=>?_⟩;obtain⟨TI,TO,i,j,za,f4,fresh,kp⟩:=nz;refine⟨⟨_,za.zp,rfl⟩,?_⟩;have I2:Inv X pins σ H1 {s1 with heap:=h'}:=I1.kept (t':=s1.toks) kp;refine wpAny_pyIter_zip za.zp ⟨z,[z,TI,TO,i,j],_,_,H1,rfl,I2,XZ f4 f4.u3 f4.v4,za,λb hb=>I1.fpOk (fresh b hb) (I1.hok.fresh (fresh b hb)),q⟩
def oG(xs ys:Bt):Src:=cY ((xs.zip ys).map λq=>.tup [q.1,q.2])
def oH:Bt->Hs->Rs Src
 |[.tup xs,.tup ys],h=>.ok (oG xs ys) h
 |_,_=>.bad
theorem Eb.zip{μ:Nat->ai}{n:Nat}{H:Hp}{t u:ai}{vs ws:Ic}{xs ys:Bt}{K:ar}(e:H t=some (.tup vs))(e':H u=some (.tup ws))(r:RelDL G μ n H xs vs)(r':RelDL G μ n H ys ws):Eb G μ n H (oG xs ys) (DB K t u):=by
 intro k μ2 h2 H2 x2 s2;have f:=x2.im t (.tup vs) trivial e;have f':=x2.im u (.tup ws) trivial e';have g:=Hf x2 _ _ r;have g':=Hf x2 _ _ r';have hl:(oG xs ys).n=min xs.length ys.length:=by simp[oG,cY]
 constructor
 ·intro hk d hd;have Fx:((xs.zip ys).map λq=>Ia [q.1,q.2])[k]?=some d:=hd;rw[dm]at Fx
  cases q:(xs.zip ys)[k]? with
  |none=>rw[q]at Fx;cases Fx
  |some xy=>
   rw[q]at Fx;cases Fx;obtain⟨qx,qy⟩:=sd.mp q;obtain⟨v,ev,rv⟩:=g.get qx;obtain⟨w',ew,rw'⟩:=g'.get qy;refine⟨⟨vs,ws,v,w',Hk f,Hk f',ev,ew⟩,λx H' hy=>?_⟩;obtain⟨pp,v1,w1,rfl,np,rfl,a1,a2⟩:=hy;have b1:=a1 vs (Hk f);have b2:=a2 ws (Hk f');rw[ev]at b1;rw[ew]at b2
   cases b1;cases b2
   have sm:Dw H2 (aV H2 pp (.tup [v,w'])):=dD np;exact⟨sm,pp,_,rfl,dR,Hl (Hq (Hg sm) _ _ rv) (Hl (Hq (Hg sm) _ _ rw') Hn)⟩
 ·intro hk _;refine⟨vs,ws,Hk f,Hk f',?_⟩;rw[g.length,g'.length,hk,hl];lia
theorem KS(hg:Gl X "zip")(hm:X.mg "zip"=none)(ha:eO X G E [a,b] ms)(hs:aq [a,b] X.env=[(false,eval a X.env),(false,eval b X.env)]:=by rfl)(hs2:aq [b] X.env=[(false,eval b X.env)]:=by rfl):
  jC X G E (.Tuple elts kk tp) (.Call (.Name "zip" p) [a,b] [] pos) (aX oH ms):=λhK=>
 PI.imp (X5 hg hm (ha hK) hs hs2) λσ H R⟨μ,ρ,h,rs,s,o⟩=>kZ rs s o λμ1 ds h1 vs H1 x1 Cr s1 r1 o1=>by
  unfold oH at o1
  split at o1
  ·rename_i xs ys;obtain⟨v,v',rfl,rv,rv'⟩:=CF r1;obtain⟨t,us,rfl,e,r⟩:=rv;obtain⟨u,ws,rfl,e',r'⟩:=rv';exact⟨t,u,us,ws,rfl,Hk e,Hk e',o1.val s1 (Eb.zip e e' r r')⟩
  ·exact o1.elim
end
section
variable{prog:bj}{w:cb}{A:bx}{E:af->ag->Prop}{s:ag}{K:Frag}{e C N:ai}{o:Obj}
theorem X6{Q:Bool->ag->Prop}(X:K.In s.heap)(he:s.heap.get? e=some o)(hc:o.cls=.ref C)(hn:subIn K (.ref N) (.type "BaseException")=some true)(ht:subIn K (.type "type") (.type "tuple")=some false)(hk:kitCls K (.ref N) (.ref N)=some true){b:Bool}(hs:subIn K (.ref C) (.ref N)=some b)(q:Q b s):
  wpAny (model prog w) A (excMatches (.ref e) (.ref N)) Q E s:=by
 have L1:=(kit_cls (M:=model prog w) X hk).1;have L2:=(kit_cls (M:=model prog w) X hk).2.1;have L3:=looks_subIn (M:=model prog w) X hn;have L4:=looks_subIn (M:=model prog w) X hs;have L5:=looks_subIn (M:=model prog w) X ht;obtain⟨hp,g,d,tk,os⟩:=s;unfold excMatches
 repeat (any_goals (first|assumption|(with_reducible refine wpAny_loadPart_at he ?_;rw[hc])|with_reducible refine L1.at ?_|with_reducible refine L2.at ?_|with_reducible refine L3.at ?_|with_reducible refine L4.at ?_|with_reducible refine L5.at ?_|wp_step))
 cases b
 all_goals (repeat (any_goals (first|assumption|wp_step)))
end
def jZ(P:bj)(w:cb)(K:ar)(mg:Str->Option af)(base:cq)(N:Br)(qual:Str)(scope:fy)(f:ai)(cd:af)(cl:List (Str×ai))(A:bx)(outer:List Env)(s:ag)(H:Hp)(E:XK):Cx where
 prog:=P
 w:=w
 K:=K
 mg:=mg
 base:=base
 A:=A.deeper (oz qual scope s.heap.objs.size f cd cl)
 N:=N
 s₀:=s
 H₀:=H
 env:=oz qual scope s.heap.objs.size f cd cl
 outer:=outer
 stack:=oz qual scope s.heap.objs.size f cd cl::outer
 ex:=[]
 calm:=true
 fn:=λ_=>false
 pn:=[]
 xe:=λe s'=>wpAny (model P w) (A.deeper (oz qual scope s.heap.objs.size f cd cl)) (leaving (oz qual scope s.heap.objs.size f cd cl) e) (λ_ s''=>cA P w base outer H s E e s'') (λe' s''=>cA P w base outer H s E e' s'') s'
structure Di(N:Br)(sc:fy):Prop where
 kind:sc.kind=.function
 co:sc.isCoroutine=false
 gen:sc.isGenerator=false
 nocell:∀x∈sc.names,x.2≠.cell
 fr:∀x∈N,sc.names.lookup x=some .free
 all:∀x∈sc.names,x.2=.free->x.1∈N
structure Gj(G:Cfg)(base:cq)(H:Hp)(μ:Nat->ai)(n:Nat)(N:Br)(params:ju)(body:bp)(scope:fy)(f c':ai)(cl:List (Str×ai))(ds:Bt):Prop where
 ob:∃pm ctv,H f=some (.frz (kh "<lambda>" G.lq params body scope cl pm c' ctv) (.own 0))
 cd:∃oc,H c'=some (.frz oc (.own 0))/\Fh G.lq oc
 inj:∀x y c,cl.lookup x=some c->cl.lookup y=some c->x=y
 len:ds.length=N.length
 at_:∀(i:Nat)(x:Str),N[i]?=some x->∃c,cl.lookup x=some c
 cell:∀(x:Str)(c:ai),cl.lookup x=some c->∃o u,base.get? c=some o/\o.data=.cell u
 val:∀(i:Nat)(x:Str)(c:ai)(d:Dv),N[i]?=some x->ds[i]?=some d->cl.lookup x=some c->∃o u v,base.get? c=some o/\o.data=.cell (some u)/\RelV v u/\Ca G μ n H d v
section
variable{P:bj}{w:cb}{K:ar}{mg:Str->Option af}{base:cq}{N:Br}{qual:Str}{scope:fy}{f:ai}{cdv:af}{cl:List (Str×ai)}{A:bx}{outer:List Env}{s0:ag}{H0:Hp}{E0:XK}{G:Cfg}{E:XK}{k:Nat}
theorem X7(hr:Cv k (A.deeper (oz qual scope s0.heap.objs.size f cdv cl)))(hK:K=G.K)(hE:∀u H',E u none H'->E0 u none H')(hF:CP E):
  Good (jZ P w K mg base N qual scope f cdv cl A outer s0 H0 E0) G E k where
 calm:=rfl
 room:=hr
 K:=hK
 own:=Af
 pas:=by intro pins σ H s u s' I ⟨e,C,H',eu,os,bare,un,hok,fl,he⟩;subst eu;have I':=I.call' os un hok bare (λb z=>absurd z (by simp));refine ae (CO (P:=P) (w:=w) (H:=H') (base:=base) I'.ok.frames I'.stack rfl hok I'.stkFree fl λh'' H'' un2 Ep Gy sx=>?_);have I2:=I'.call (h':=h'') (g':=s'.gens) (d':=s'.drawn) (t':=s'.toks) un2 Ep I'.bare (λb z=>absurd z (by simp));obtain⟨T,a0,h1,_⟩:=id fl;obtain⟨T2,a2,h3,_⟩:=id Gy;have xe1:fF C e T a0 s'.heap:=(show Ce P w H' s'.heap e _ from hok e _ h1).1;have:E (.ref e) none H'':=hF e H' H'' sx ⟨C,T,a0,T2,a2,h1,⟨_,xe1⟩,h3⟩ he;exact⟨e,C,H'',rfl,I2.os,I2.bare,I2.base,Ep,Gy,hE _ _ this⟩
 rais:=by intro pins σ H s h' e C args I mx he;refine ae (J8 (P:=P) (w:=w) (H:=H) (base:=base) I.ok.frames I.stack rfl I.hok I.stkFree I.bk mx λh'' H'' un2 Ep Gy sm=>?_);have I2:=I.call (h':=h'') (g':=s.gens) (d':=s.drawn) (t':=s.toks) un2 Ep I.bare (λb z=>absurd z (by simp));obtain⟨T2,a2,h3,_⟩:=id Gy;exact⟨e,C,H'',rfl,I2.os,I2.bare,I2.base,Ep,Gy,hE _ _ (he H'' sm ⟨T2,a2,h3⟩)⟩
end
def KU{α:Type}:Rs α->Sr
 |.ex c h=>.ex c h
 |_=>.bad
section
variable{P:bj}{w:cb}{K:ar}{mg:Str->Option af}{base:cq}{N:Br}{params:ju}{body:bp}{scope:fy}{f c':ai}{cl:List (Str×ai)}{A:bx}{outer:List Env}{s:ag}{H:Hp}{E:XK}{G:Cfg}{k:Nat}{μ:Nat->ai}{h:Hs}{ds:Bt}
theorem X8{h1:cq}{tk:Nat}{σ:St}{E₀:XK}(S:Di N scope)(hd:A.handled=none)(e0:Hb P w K mg base A outer s H)(L:Gj G base H μ h.length N params body scope f c' cl ds)(hall:∀x c,cl.lookup x=some c->x∈N)(hns:h1.Ns s.heap.objs.size λ_=>none)(hk1:∀b o,s.heap.get? b=some o->h1.get? b=some o)(hσ:σ.length=N.length)(hv:∀(i:Nat)(x:Str)(v:V),N[i]?=some x->σ[i]?=some (some v)->∃c o u,cl.lookup x=some c/\base.get? c=some o/\o.data=.cell (some u)/\RelV v u):
  Inv (jZ P w K mg base N G.lq scope f (.ref c') cl A outer s H E₀) [] σ H {s with heap:=h1,toks:=tk}:=by
 have noA:∀b:ai,b∉(jZ P w K mg base N G.lq scope f (.ref c') cl A outer s H E₀).ex:=λb z=>absurd (show b∈([]:List ai) from z) (by simp);have kfree:∀x,scope.names.lookup x=some .free->x∈N:=λx e=>S.all _ (gb e) rfl;refine⟨⟨e0.mod,S.kind,rfl,rfl,ao _,L.inj,λx hx=>?_,λx c z=>(nomatch z),λ_=>hd,Ac e0.frames,.inr ⟨rfl,rfl⟩,λb z=>absurd z (noA b),e0.bs,e0.bsz,λb _ _=>noA b,λb z=>absurd z (noA b),e0.funs,e0.frf⟩,
  rfl,e0.bare,Un.kept hk1,⟨_,hns,λi x v h1' h2 h3=>?_⟩,λx c e=>?_,e0.hok.fresh (ao _),λx c e=>?_,λp hp=>absurd (show p∈([]:List (ai×Obj)) from hp) (by simp),e0.hok.kept hk1,hσ⟩
 ·have hx:scope.names.lookup x=some .cell∨scope.names.lookup x=some .free:=hx
  rcases hx with hx|hx
  ·exact absurd rfl (S.nocell _ (gb hx))
  ·obtain⟨i,hi⟩:=List.getElem?_of_mem (kfree x hx);exact L.at_ i x hi
 ·obtain⟨c,o,u,e1,e2,e3,r⟩:=hv i x v h1' h2;refine⟨u,r,.inr ⟨.inr (S.fr x (cx h1')),c,e1,o,hk1 _ _ (e0.bs _ _ e2).1,e3⟩⟩
 ·obtain⟨o,u,e2,e3⟩:=L.cell x c e;exact⟨u,o,hk1 _ _ (e0.bs _ _ e2).1,e3⟩
 ·obtain⟨o,u,e2,e3⟩:=L.cell x c e;exact(e0.bs _ _ e2).2
theorem X9{me:M Dv}{Q:VK}(S:Di N scope)(hK:K=G.K)(hb:∀(cl:List (Str×ai))(pm cdv ct:af),bindArgs (qw "<lambda>" G.lq params body scope cl pm cdv ct) ⟨[],[]⟩=pure [])(Cz:∀(f:ai)(cdv:af)(cl:List (Str×ai))(A:bx)(outer:List Env)(s:ag)(H:Hp)(E₀ E:XK),Good (jZ P w K mg base N G.lq scope f cdv cl A outer s H E₀) G E k->aK (jZ P w K mg base N G.lq scope f cdv cl A outer s H E₀) G E body me)(hr:Cv (k+1) A)(e0:Hb P w K mg base A outer s H)(L:Gj G base H μ h.length N params body scope f c' cl ds)(hall:∀x c,cl.lookup x=some c->x∈N)(sm:Cm G μ h H)(o:Out G E μ h.length H (me (ds.map some) h) (Ca G) Q):
  codeAny (model P w) A (.call (.ref f) ⟨[],[]⟩) (CR (cA P w base) outer P w H s Q E) s:=by
 obtain⟨pm,ctv,ho⟩:=L.ob;obtain⟨oc,hc,vs,t,hcd,hq⟩:=L.cd;have lim:s.heap.NoLimit:=e0.mod.nolimit.keeps λb o e=>(e0.bs b o e).1;have gc:s.heap.get? c'=some oc:=(e0.hok c' _ hc).1;refine PySem.W.kla_callFunE hr.depth (e0.hok f _ ho).1 rfl S.co S.gen rfl ⟨c',oc,vs,t,rfl,gc,hcd,hq⟩ ?_;rw[hb];refine aj (wpAny_newFunctionEnv S.nocell (λx hx=>absurd hx (by simp)) (λh₁ hns hsb=>⟨lim.fresh _ hsb,?_⟩) S.kind);show codeAny _ _ (.expr body (oz G.lq scope s.heap.objs.size f (.ref c') cl)) _ _;have hk₁:∀b o,s.heap.get? b=some o->h₁.get? b=some o:=λb o e=>hsb.extBut b o (ay (au e)) (ak _ e);have hvs:∀(i:Nat),i<N.length->∃v:V,∀d,ds[i]?=some d->Ca G μ h.length H d v/\∀x,N[i]?=some x->∃c o u,cl.lookup x=some c/\base.get? c=some o/\o.data=.cell (some u)/\RelV v u:=λi hi=>by
  obtain⟨x,hx⟩:∃x,N[i]?=some x:=⟨_,bo hi⟩
  obtain⟨d,hd⟩:∃d,ds[i]?=some d:=⟨_,bo (by rw[L.len];exact hi)⟩
  obtain⟨c,ec⟩:=L.at_ i x hx;obtain⟨oo,u,v,e1,e2,r1,r2⟩:=L.val i x c d hx hd ec;refine⟨v,λd' Fx=>?_⟩;rw[hd]at Fx;cases Fx;refine⟨r2,λx' hx'=>?_⟩;rw[hx]at hx';cases hx';exact⟨c,oo,u,ec,e1,e2,r1⟩
 have Fy:∃vs:Ic,vs.length=N.length/\∀(i:Nat)(v:V),vs[i]?=some v->∀d,ds[i]?=some d->Ca G μ h.length H d v/\∀x,N[i]?=some x->∃c o u,cl.lookup x=some c/\base.get? c=some o/\o.data=.cell (some u)/\RelV v u:=by
  have:∀m,m<=N.length->∃vs:Ic,vs.length=m/\∀(i:Nat)(v:V),vs[i]?=some v->∀d,ds[i]?=some d->Ca G μ h.length H d v/\∀x,N[i]?=some x->∃c o u,cl.lookup x=some c/\base.get? c=some o/\o.data=.cell (some u)/\RelV v u:=by
   intro m
   induction m with
   |zero=>exact λ_=>⟨[],rfl,λi v e=>by simp at e⟩
   |succ m ih=>
    intro hm;obtain⟨vs,hl,hv⟩:=ih (by lia);obtain⟨v,hv'⟩:=hvs m (by lia);refine⟨vs++[v],by simp[hl],λi v' e d hd=>?_⟩
    by_cases hi:i<vs.length
    ·rw[ed hi]at e;exact hv i v' e d hd
    ·rw[gj (by lia)]at e;have:i=m:=by have:=(ba.mp e).1;simp at this;lia
     subst this;simp[hl]at e;subst e;exact hv' d hd
  exact this _ (ao _)
 obtain⟨Dr,hl,hv⟩:=Fy;have I:Inv (jZ P w K mg base N G.lq scope f (.ref c') cl A outer s H E) [] (Dr.map some) H {s with heap:=h₁,toks:=s.toks+([]:List (Str×af)).length}:=by
  refine X8 S hr.hd e0 L hall hns hk₁ (by simp[hl]) λi x v h1 h2=>?_;have h3:Dr[i]?=some v:=by
   rw[dm]at h2
   cases q:Dr[i]? with
   |none=>rw[q]at h2;cases h2
   |some a=>rw[q]at h2;cases h2;rfl
  obtain⟨d,hd⟩:∃d,ds[i]?=some d:=⟨_,bo (by rw[L.len];exact(ba.mp h1).1)⟩
  exact(hv i v h3 d hd).2 x h1
 have rs:Cj G μ h.length H (ds.map some) (Dr.map some):=⟨by simp[hl,L.len],λi d e=>by
  have h3:ds[i]?=some d:=by
   rw[dm]at e
   cases q:ds[i]? with
   |none=>rw[q]at e;cases e
   |some a=>rw[q]at e;cases e;rfl
  have hi:i<Dr.length:=by rw[hl,<-L.len];exact(ba.mp h3).1
  exact⟨Dr[i],by rw[dm,bo hi];rfl,(hv i _ (bo hi) d h3).1⟩⟩
 have gd:Good (jZ P w K mg base N G.lq scope f (.ref c') cl A outer s H E) G (EB G μ h.length H (KU (me (ds.map some) h))) k:=X7 (hr.deeper _) hK (λu H'⟨c,h',μ',er,x,s',fl⟩=>by
  cases q:me (ds.map some) h with
  |ok d hh=>rw[q]at er;cases er
  |bad=>rw[q]at er;cases er
  |ex c1 h1=>rw[q]at er o;cases er;exact o μ' H' u x s' fl) CS
 refine PySem.W.kla_codeExpr (kz (Cz f (.ref c') cl A outer s H E _ gd hK [] _ (Dr.map some) H Q I ⟨μ,ds.map some,h,rs,sm,?_⟩) (λu s'⟨v,H',J,rv,q⟩=>⟨v,H',J.os,J.bare,J.base,J.hok,rv,q⟩) λe s' hs=>hs)
 cases q:me (ds.map some) h with
 |ok d hh=>rw[q]at o;exact o
 |bad=>rw[q]at o;exact o
 |ex c1 h1=>exact λμ' H' u x' s' fl=>⟨c1,h1,μ',rfl,x',s',fl⟩
end
section
variable{X:Cx}{pins:List (ai×Obj)}{σ:St}{H:Hp}{s:ag}
theorem YA{i:Nat}{x:Str}{h':cq}{tk:Nat}{m:Str->Option af}{v:Option af}(I:Inv X pins σ H s)(hN:X.N.Nodup)(hi:X.N[i]?=some x)(hn:s.heap.Ns X.env.locals m)(hl:∀(i:Nat)(x:Str)(v:V),X.N[i]?=some x->σ[i]?=some (some v)->pF X.env.scope x->∃u,RelV v u/\HC X.env s.heap m x u)(hs:ig X.env.locals s.heap h')(hn':h'.Ns X.env.locals (λy=>if y=x then v else m y)):Inv X pins (σ.set i none) H {s with heap:=h',toks:=tk}:=by
 have cne:=I.cne;have hok:Dn X.prog X.w H h':=λb ob e=>by
  refine(I.hok b ob e).stay (λc w' hc q=>(hs.2 c ?_).trans q) (λ_ q=>q) λ_ _ q=>q
  rintro rfl
  have hfree:=I.free
  rcases hc with hc|hc
  ·rw[<-hc]at e;rw[hfree]at e;cases e
  ·rw[hfree]at hc;cases hc
 refine⟨I.ok,I.os,I.bare,⟨λb o e n hb hx=>?_,λb o e n hb hx=>?_,I.base.free,λb o e hx=>?_,I.base.tups,I.base.frzs,I.base.tbls⟩,⟨_,hn',λj y v' e1 e2 e3=>?_⟩,λy c e=>?_,I.free,I.freeC,λp hp=>?_,hok,by simpa using I.len⟩
 ·exact(hs.2 b (ay (av (au e) I.ok.above))).trans (I.base.keep b o e n hb hx)
 ·obtain⟨sl,e1⟩:=I.base.slot b o e n hb hx;exact⟨sl,(hs.2 b (ay (av (au e) I.ok.above))).trans e1⟩
 ·obtain⟨o',e1⟩:=I.base.there b o e hx;exact⟨o',(hs.2 b (ay (av (au e) I.ok.above))).trans e1⟩
 ·by_cases hj:j=i
  ·subst hj;have hiσ:j<σ.length:=by rw[I.len];exact(ba.mp hi).1
   rw[dv hiσ]at e2;cases e2
  ·rw[da (dg hj)]at e2;obtain⟨u',r',q⟩:=hl j y v' e1 e2 e3;refine⟨u',r',?_⟩
   rcases q with⟨k,e⟩|⟨k,c,e,z⟩
   ·refine .inl ⟨k,?_⟩;have:y≠x:=λe=>hj (A1 hN e1 (e▸hi));show(if y=x then v else m y)=some u';rw[if_neg this];exact e
   ·exact .inr ⟨k,c,e,z.sameBut hs (cne y c e)⟩
 ·obtain⟨w',z⟩:=I.cell y c e;exact⟨w',z.sameBut hs (cne y c e)⟩
 ·obtain⟨e,n,ne,nf,d⟩:=I.pin p hp;exact⟨(hs.2 p.1 ne).trans e,n,ne,nf,d⟩
def rV(X:Cx)(e:af):Cx:={X with A:=X.A.mark (some e),calm:=false,xe:=λ_ _=>False}
theorem KW(e:af)(I:Inv X pins σ H s):Inv (rV X e) pins σ H s:=
 have ok:=I.ok
 ⟨⟨ok.mod,ok.kind,ok.glob,ok.blt,ok.above,ok.inj,ok.has,ok.cab,λz=>(nomatch z),ok.frames,ok.stk,ok.exf,ok.bs,ok.bsz,ok.noex,ok.exfs,ok.funs,ok.frf⟩,I.os,I.bare,I.base,I.loc,I.cell,I.free,I.freeC,I.pin,I.hok,I.len⟩
theorem YB{e:af}(ok:X.Ok)(I:Inv (rV X e) pins σ H s):Inv X pins σ H s:=⟨ok,I.os,I.bare,I.base,I.loc,I.cell,I.free,I.freeC,I.pin,I.hok,I.len⟩
end
section
variable{k:Nat}{N:Br}{params:ju}{body:bp}{scope:fy}{me:M Dv}{ncl:Nat}{NE:ai}
theorem YC{x xn en nm:Str}{p cpos epos np xp ep apos hpos tpos:Pos}{pins:List (ai×Obj)}{σ:St}{H:Hp}{s:ag}{D:Ends}{f c':ai}{cl:List (Str×ai)}{μ:Nat->ai}{h:Hs}{ds:Bt}(hK:X.K=G.K)(Fj:X.stack=X.env::X.outer)(hfr:X.env.frame=some X.env.locals)(hnd:X.N.Nodup)(h0:X.N[0]?=some x)(h1:X.N[1]?=some xn)(h2:X.N[2]?=some en)(hfn:∀y,X.fn y=true)(l0:X.env.scope.names.lookup x=some .local)(l1:X.env.scope.names.lookup xn=some .local)(l2:X.env.scope.names.lookup en=some .local)(d0:(x==Ib)=false)(c0:(x==("__classdict__":Str))=false)(d2:(en==Ib)=false)(c2:(en==("__classdict__":Str))=false)(dn:(nm==Ib)=false)(hsw:swapsWith (.Call (.Name x p) [] [] cpos) none epos.line X.env=pure false)(hsw2:swapsWith (.Name en ep) (some (.Name xn xp)) apos.line X.env=pure false)(hg:Gl X nm)(hm:X.mg nm=some (.ref NE))(hx1:ku X.K (.ref NE) (.type "BaseException")=some true)(hx2:ku X.K (.type "type") (.type "tuple")=some false)(hx3:xw X.K (.ref NE) (.ref NE)=some true)(hsub:∀c,c<ncl->ku X.K (.ref (G.cl c)) (.ref NE)=some true)(S:Di N scope)(hb:∀(cl:List (Str×ai))(pm cdv ct:af),bindArgs (qw "<lambda>" G.lq params body scope cl pm cdv ct) ⟨[],[]⟩=pure [])(Cz:∀(f:ai)(cdv:af)(cl:List (Str×ai))(A:bx)(outer:List Env)(s:ag)(H:Hp)(E₀ E:XK),Good (jZ X.prog X.w X.K X.mg X.base N G.lq scope f cdv cl A outer s H E₀) G E k->aK (jZ X.prog X.w X.K X.mg X.base N G.lq scope f cdv cl A outer s H E₀) G E body me)(hr:Cv (k+1) X.A)(I:Inv X pins σ H s)(hσ:σ[0]?=some (some (.ref f)))(L:Gj G X.base H μ h.length N params body scope f c' cl ds)(hall:∀x c,cl.lookup x=some c->x∈N)(sm:Cm G μ h H)(hD:match me (ds.map some) h with
   |.ok _ h1=>∀μ' H',Ext μ h.length H μ' h1.length H'->Cm G μ' h1 H'->D.nx σ H'
   |.ex c h1=>c<ncl/\∀μ' H' a,Ext μ h.length H μ' h1.length H'->Cm G μ' h1 H'->Ca G μ' h1.length H' (.exc c) (.ref a)->D.nx (((σ.set 2 (some (.ref a))).set 1 (some (.ref a))).set 2 none) H'
   |.bad=>False):
  wpAny (model X.prog X.w) X.A (exec (.Try [.Expr (.Call (.Name x p) [] [] cpos) epos] [.ExceptHandler (some (.Name nm np)) (some en) [.Assign [.Name xn xp] (.Name en ep) apos] hpos] [] [] tpos) X.env) (SP X pins D) X.xe s:=by
 have hcls:(X.env.scope.kind==.class||(X.env.scope.kind==.module&&X.env.locals !=X.env.globals))=false:=by rw[I.ok.kind];rfl
 refine wpAny_Try_except ?_;obtain⟨pm,ctv,ho⟩:=L.ob;refine qu (wpAny_Expr_any (ph (bQ (kz (A3 (X:=X.nox) (pos:=p) h0 (.inl l0) d0 c0 pins s σ H (λv H'=>v=.ref f/\H'=H) (I.wish _) ⟨_,hσ,rfl,rfl⟩) (λ_ _ q=>q) λ_ _ z=>ja z) λu s1⟨v,H',I',r,e1,e2⟩=>?_)) I.quiet hsw);subst e1;subst e2;cases r;have I1:Inv X pins σ H' s1:=I'.unwish;refine PySem.W.callWith_F0 ⟨_,_,_,_,(I1.hok f _ ho).1⟩ ?_;refine Am (pz (X9 (E:=EB G μ h.length H' (KU (me (ds.map some) h))) (Q:=λ_ H2=>∃d hh μ',me (ds.map some) h=.ok d hh/\Ext μ h.length H' μ' hh.length H2/\Cm G μ' hh H2) S hK hb Cz hr I1.env0 L hall sm ?_) λr s' hq=>?_)
 ·cases q:me (ds.map some) h with
  |ok d hh=>exact λμ' H' v x' s' _=>⟨d,hh,μ',rfl,x',s'⟩
  |bad=>rw[q]at hD;exact hD.elim
  |ex c1 h1=>exact λμ' H' u x' s' fl=>⟨c1,h1,μ',rfl,x',s',fl⟩
 cases r with
 |ok fl=>
  cases fl with
  |ret u=>obtain⟨v,H2,I2,r2,d,hh,μ',e1,x1,s1⟩:=I1.after hq;refine pf (pf ?_);rw[e1]at hD;exact⟨σ,H2,I2,hD μ' H2 x1 s1⟩
  |next=>exact ja hq
  |brk=>exact ja hq
  |cont=>exact ja hq
 |error ev=>
  obtain⟨e,C,H2,rfl,os,bare,un,hok,fl,c,hh,μ',er,x1,sm1,e',φ,eu,g1,g2⟩:=hq;cases eu
  cases qm:me (ds.map some) h with
  |ok d h3=>rw[qm]at er;cases er
  |bad=>rw[qm]at er;cases er
  |ex c3 h3=>
  rw[qm]at er hD;cases er;obtain⟨hc,hD⟩:=hD;have I2:Inv X pins σ H2 s':=I1.call' os un hok bare (λb z=>absurd z (by simp));refine CO (P:=X.prog) (w:=X.w) (H:=H2) (base:=X.base) (env:=X.env) (outer:=X.outer) (by rw[<-Fj];exact I2.ok.frames) (by rw[<-Fj];exact I2.stack) hfr hok (by rw[<-Fj];exact I2.stkFree) fl λh4 H4 un4 hok4 fl4 sx4=>?_;have I4:Inv X pins σ H4 {s' with heap:=h4}:=I2.call (h':=h4) (g':=s'.gens) (d':=s'.drawn) (t':=s'.toks) (by rw[Fj];exact un4) hok4 I2.bare (λb z=>absurd z (by simp));obtain⟨sm4,x4⟩:=sm1.sameX sx4 ⟨_,g1⟩;obtain⟨T,a0,w1,w2,w3,w4⟩:=id fl4;obtain⟨T0,b0,v1,_,_,_⟩:=id fl;have hC:C=.ref (G.cl c):=by have xo:fF C e T0 b0 s'.heap:=(show Ce X.prog X.w H2 s'.heap e _ from hok e _ v1).1;rw[v1]at g1;cases g1;obtain⟨oo,q1,q2⟩:=g2 _ xo;obtain⟨o2,vs2,q3,q4,_⟩:=xo;rw[q3]at q1;cases q1;rw[<-q4,q2]
  subst hC;have xo4:fF (.ref (G.cl c)) e T a0 h4:=(show Ce X.prog X.w H4 h4 e _ from hok4 e _ w1).1;obtain⟨oe,vs,y1,y2,y3,y4,y5,y6⟩:=id xo4;refine wpAny_handleBy_cons (codeAny_handlers_test (kz (tK (X:=rV X (.ref e)) (E:=λ_ _=>False) (Q:=λu s5=>u=.ref NE/\Inv X pins σ H4 s5/\s5.heap=h4) (KW _ I4) hg hm ⟨rfl,I4,rfl⟩ dn) (λcv s5 hs5=>?_) λ_ _ z=>ja z)) (by intro z;cases z);obtain⟨rfl,I5,e5⟩:=hs5;refine X6 (K:=X.K) I5.kIn (by rw[e5];exact y1) y2 hx1 hx2 hx3 (hsub c hc) ?_;obtain⟨oT,ts,z1,z2,z3⟩:fJ T h4:=(show Ce X.prog X.w H4 h4 T _ from hok4 T _ w2).1;have l3:3<ts.size:=(dw.mp z3).1;refine codeAny_handlers_suite_as (J4 (e:=e) (T:=T) (by rw[e5];exact y1) y3 y5 (by rw[e5];exact z1) z2 l3 λh6 sb6 tb6=>?_);rw[e5]at sb6;have ge6:h6.get? e=some oe:=sb6.extBut _ _ (dg w4) y1;have I6:Inv X pins σ (aV H4 T (.ext (fJ T))) {s5 with heap:=h6}:=I5.write (x:=T) (e:=T) (o:=.ext (fJ T)) (h':=h6) (t':=s5.toks) (by rw[w2];trivial) (.inl rfl) (λb u hb q=>by rw[e5]at q;exact sb6.extBut _ _ hb q) (let ⟨oo,_,q,_⟩:=tb6;⟨oo,q⟩) (xK tb6);have se:Dw H4 (aV H4 T (.ext (fJ T))):=λb o q=>by
   by_cases hb:b=T
   ·subst hb;rw[w2]at q;cases q;exact dR
   ·rw[cB hb];exact q
  have w1':(aV H4 T (.ext (fJ T))) e=some (.ext (fF (.ref (G.cl c)) e T a0)):=se _ _ w1;have I7:Inv X pins σ (aV (aV H4 T (.ext (fJ T))) e (.frz oe (.own 0))) {s5 with heap:=h6}:=I6.write (x:=e) (e:=e) (o:=.frz oe (.own 0)) (h':=h6) (t':=s5.toks) (by rw[w1'];trivial) (.inl rfl) (λb u hb q=>q) ⟨_,ge6⟩ ⟨ge6,oe,ge6⟩;have sx7:uB e (aV H4 T (.ext (fJ T))) (aV (aV H4 T (.ext (fJ T))) e (.frz oe (.own 0))):=λb o hb q=>by rw[cB hb];exact q
  obtain⟨sm7,x7⟩:=(sm4.same se).sameX sx7 ⟨_,w1'⟩;have xx:Ext μ h.length H' μ' hh.length (aV (aV H4 T (.ext (fJ T))) e (.frz oe (.own 0))):=x1.trans ((x4 _).trans ((Hg se).trans (x7 _)));generalize hH7:aV (aV H4 T (.ext (fJ T))) e (.frz oe (.own 0))=H7 at *;have rl:Ca G μ' hh.length H7 (.exc c) (.ref e):=by rw[Ca,<-hH7];exact⟨e,oe,.own 0,rfl,dR,y2,y6,vs,y3⟩
  refine A2 (v:=.ref e) I7 hnd h2 (.inl l2) rfl (λs8 I8=>?_) (.inr l2);have I8':Inv (rV X (.ref e)) pins (σ.set 2 (some (.ref e))) H7 s8:=KW _ I8;have hlen:2<σ.length:=by rw[I.len];exact(ba.mp h2).1
  refine kz (HI (A9 (X:=rV X (.ref e)) (i:=1) (pos:=apos) (pos':=xp) hnd h1 (.inl l1) (A3 (X:=rV X (.ref e)) (pos:=ep) h2 (.inl l2) d2 c2) hsw2 (.inr l1)) pins s8 (σ.set 2 (some (.ref e))) H7 {nx:=λσ' H'=>σ'=(σ.set 2 (some (.ref e))).set 1 (some (.ref e))/\H'=H7,rt:=λ_ _=>False} I8' ⟨.ref e,dv hlen,rfl,rfl⟩) (λfl9 s9 hs9=>?_) λ_ _ z=>ja z
  cases fl9 with
  |ret u=>obtain⟨_,_,_,_,_,z⟩:=hs9;exact z.elim
  |brk=>obtain⟨_,_,_,z⟩:=hs9;exact z.elim
  |cont=>obtain⟨_,_,_,z⟩:=hs9;exact z.elim
  |next=>obtain⟨σ9,H9,I9,e9,f9⟩:=hs9;subst e9;subst f9;have I9':Inv X pins _ H9 s9:=YB I8.ok I9;obtain⟨m,hn,hl⟩:=id I9'.loc;refine wpAny_nameGoes_keeps l2 hn hcls λh10 v10 hn10 hs10=>?_;exact⟨_,H9,YA I9' hnd h2 hn hl hs10 hn10,hD μ' H9 e xx sm7 rl⟩
end
def uG:Sr->Rs Dv
 |.rt d h=>.ok d h
 |.nx _ h=>.ok .non h
 |_=>.bad
def oI(n:Nat)(d:Dv):Ev:=none::some d::bu (n-2) none
def uH(n ncl:Nat)(mb:MS):Rs Dv->Rs Dv
 |.ok _ h1=>uG (mb (oI n .non) h1)
 |.ex c h1=>if c<ncl then uG (mb (oI n (.exc c)) h1)else .bad
 |.bad=>.bad
def DC(G:Cfg)(base:cq)(Nl:Br)(params:ju)(body:bp)(scope:fy)(me:M Dv)(n ncl:Nat)(mb:MS):Sp:=λvs H Q E=>∃f c' cl ds μ h,vs=[.ref f]/\Gj G base H μ h.length Nl params body scope f c' cl ds/\(∀x c,cl.lookup x=some c->x∈Nl)/\Cm G μ h H/\Out G E μ h.length H (uH n ncl mb (me (ds.map some) h)) (Ca G) Q
theorem KY{G:Cfg}{E:XK}{μ μ1:Nat->ai}{n n1:Nat}{H H1:Hp}{r:Sr}{Q:VK}(o:Out G E μ n H (uG r) (Ca G) Q)(x:Ext μ n H μ1 n1 H1):Dd G (λ_ _ _=>False) μ1 n1 H1 r {nx:=λ_ H'=>Q .non H',rt:=Q}:=by
 cases r with
 |nx ρ h'=>exact λμ' H' σ' y s _=>o μ' H' .non (x.trans y) s rfl
 |rt d h'=>exact λμ' H' v y s r=>o μ' H' v (x.trans y) s r
 |bk ρ h'=>exact o.elim
 |ct ρ h'=>exact o.elim
 |ex c h'=>exact o.elim
 |bad=>exact o
theorem KZ{G:Cfg}{μ:Nat->ai}{n:Nat}{H:Hp}{m:Nat}{d:Dv}{v:V}{σ:St}(hl:σ.length=m)(hm:2<=m)(h1:σ[1]?=some (some v))(r:Ca G μ n H d v):Cj G μ n H (oI m d) σ:=by
 refine⟨by simp[oI,hl];lia,λi d' e=>?_⟩;unfold oI at e
 match i,e with
 |0,e=>simp at e
 |1,e=>simp at e;subst e;exact⟨v,h1,r⟩
 |i+2,e=>
  simp only[tw,tu]at e
  split at e<;>cases e
section
variable{P:bj}{w:cb}{K:ar}{mg:Str->Option af}{base:cq}{f:ai}{G:Cfg}{k:Nat}{Nm Nl:Br}{params:ju}{body:bp}{scope:fy}{me:M Dv}{ncl:Nat}{NE:ai}{mb:MS}
theorem YD{x xn en nm q qual:Str}{st:iq}{fd:bq}{p cpos epos np xp ep apos hpos tpos zpos zp npos:Pos}{j:Nat}{rest:List iq}(Fn:Fun K q qual st f fd)(S:Cb Nm [x] (bJ st))(hK:K=G.K)(hdef:jV st=.Assign [.Name xn zp] (.Constant .none j npos) zpos::.Try [.Expr (.Call (.Name x p) [] [] cpos) epos] [.ExceptHandler (some (.Name nm np)) (some en) [.Assign [.Name xn xp] (.Name en ep) apos] hpos] [] [] tpos::rest)(h0:Nm[0]?=some x)(h1:Nm[1]?=some xn)(h2:Nm[2]?=some en)(l0:(bJ st).names.lookup x=some .local)(l1:(bJ st).names.lookup xn=some .local)(l2:(bJ st).names.lookup en=some .local)(d0:(x==Ib)=false)(c0:(x==("__classdict__":Str))=false)(d2:(en==Ib)=false)(c2:(en==("__classdict__":Str))=false)(dn:(nm==Ib)=false)(hsw:∀L cd,swapsWith (.Call (.Name x p) [] [] cpos) none epos.line (envOfC qual (bJ st) L f cd)=pure false)(hsw2:∀L cd,swapsWith (.Name en ep) (some (.Name xn xp)) apos.line (envOfC qual (bJ st) L f cd)=pure false)(hsw3:∀L cd,swapsWith (.Constant .none j npos) (some (.Name xn zp)) zpos.line (envOfC qual (bJ st) L f cd)=pure false)(hg:(bJ st).names.lookup nm=some .globalImplicit)(hm:mg nm=some (.ref NE))(hx1:ku K (.ref NE) (.type "BaseException")=some true)(hx2:ku K (.type "type") (.type "tuple")=some false)(hx3:xw K (.ref NE) (.ref NE)=some true)(hsub:∀c,c<ncl->ku K (.ref (G.cl c)) (.ref NE)=some true)(LS:Di Nl scope)(hb:∀(cl:List (Str×ai))(pm cdv ct:af),bindArgs (qw "<lambda>" G.lq params body scope cl pm cdv ct) ⟨[],[]⟩=pure [])(Cz:∀(f:ai)(cdv:af)(cl:List (Str×ai))(A:bx)(outer:List Env)(s:ag)(H:Hp)(E₀ E:XK),Good (jZ P w K mg base Nl G.lq scope f cdv cl A outer s H E₀) G E k->aK (jZ P w K mg base Nl G.lq scope f cdv cl A outer s H E₀) G E body me)(hrest:∀(cdv:af)(A:bx)(outer:List Env)(s:ag)(H:Hp)(E₀ E:XK),Good (gU (cA P w base) P w K mg base Nm qual (bJ st) f cdv A outer s H E₀) G E (k+1)->jY (gU (cA P w base) P w K mg base Nm qual (bJ st) f cdv A outer s H E₀) G E rest mb):
  Cg P w K mg base (cA P w base) (k+2) f fd [x] (DC G base Nl params body scope me Nm.length ncl mb):=by
 obtain⟨oc,od,kV,doc,pm,an,cdv,ct,osl,rfl,lk,hcd⟩:=Fn.ex;have hNl:2<Nm.length:=(ba.mp h2).1;refine BH lk hcd S (λvs H Q E⟨f,c',cl,ds,μ,h,e,_⟩=>by rw[e];rfl) λA outer s H vs Q E hr hsp=>?_;obtain⟨fl,c',cl,ds,μ,h,rfl,L,hall,sm,o⟩:=hsp;refine⟨λD σ H1=>σ=start Nm [.ref fl]/\H1=H/\D={nx:=λ_ H'=>Q .non H',rt:=Q},?_,rfl,rfl,rfl⟩;intro pins s1 σ H1 D I ⟨eσ,eH,eD⟩;subst eH;have hσl:σ.length=Nm.length:=I.len;have hσ0:σ[0]?=some (some (.ref fl)):=by rw[eσ];rfl
 rw[hdef];have gd:Good (gU (cA P w base) P w K mg base Nm qual (bJ st) f cdv A outer s H1 E) G (λ_ _ _=>False) (k+1):=CQ hr hK (λ_ _ z=>z.elim) (λ_ _ _ _ _ z=>z);have hset:(σ.set 1 (some .non))[0]?=some (some (.ref fl)):=by rw[da (by decide)];exact hσ0
 refine qu (bQ (A9 (X:=gU (cA P w base) P w K mg base Nm qual (bJ st) f cdv A outer s H1 E) (i:=1) (pos:=zpos) (pos':=zp) S.nd h1 (.inl l1) (HE (j:=j) (pos:=npos)) (hsw3 _ _) (.inl rfl) pins s1 σ H1 {nx:=λσ' H'=>σ'=σ.set 1 (some .non)/\H'=H1,rt:=λ_ _=>False} I ⟨rfl,rfl⟩) λGy s2 q2=>?_)
 cases Gy with
 |ret u=>obtain⟨_,_,_,_,_,z⟩:=q2;exact z.elim
 |brk=>obtain⟨_,_,_,z⟩:=q2;exact z.elim
 |cont=>obtain⟨_,_,_,z⟩:=q2;exact z.elim
 |next=>
  obtain⟨σ2,H2,I2,e2,f2⟩:=q2;subst e2;subst f2;refine qu (bQ (YC (X:=gU (cA P w base) P w K mg base Nm qual (bJ st) f cdv A outer s H2 E) (G:=G) (N:=Nl) (me:=me) (ncl:=ncl) (NE:=NE) (k:=k) (D:={nx:=xF G (λ_ _ _=>False) mb D,rt:=λ_ _=>False})
   hK rfl rfl S.nd h0 h1 h2 (λ_=>rfl) l0 l1 l2 d0 c0 d2 c2 dn (hsw _ _) (hsw2 _ _) hg hm hx1 hx2 hx3 hsub LS hb Cz hr I2 hset L hall sm ?_) λfl3 s3 q3=>?_)
  ·cases qm:me (ds.map some) h with
   |bad=>rw[qm]at o;exact o
   |ok d hh=>rw[qm]at o;intro μ' H' x' s';refine⟨μ',oI Nm.length .non,hh,KZ (v:=.non) (by rw[kr];exact hσl) (by lia) (dv (by lia)) rfl,s',?_⟩;rw[eD];exact KY o x'
   |ex c hh=>
    rw[qm]at o;unfold uH at o;dsimp only at o
    split at o
    ·rename_i hc;refine⟨hc,λμ' H' a x' s' r'=>?_⟩;refine⟨μ',oI Nm.length (.exc c),hh,KZ (v:=.ref a) (by simp only[kr];exact hσl) (by lia) ?_ r',s',?_⟩
     ·rw[da (by decide),dv (by simp only[kr];lia)]
     ·rw[eD];exact KY o x'
    ·exact o.elim
  ·cases fl3 with
   |ret u=>obtain⟨_,_,_,_,_,z⟩:=q3;exact z.elim
   |brk=>obtain⟨_,_,_,z⟩:=q3;exact z.elim
   |cont=>obtain⟨_,_,_,z⟩:=q3;exact z.elim
   |next=>obtain⟨σ3,H3,I3,q3⟩:=q3;exact hrest cdv A outer s H2 E _ gd hK pins s3 σ3 H3 D I3 q3
end
theorem YE:∀(l:List af)(a b:Int)(t u:Tok)(c:af),wu l->wu (l++[.int a t,.int b u,c]):=by
 intro l a b t u c h
 fun_induction wu l with
 |case1=>trivial
 |case2 x t y u z rest ih=>exact ih h
 |case3 l h1 h2=>exact h.elim
theorem YF{pos:Pos}{cv c:af}{a b:Int}{t u:Tok}:∀(l:List af),wu l->codeAmong pos (l++[.int a t,.int b u,c])=some cv->codeAmong pos l=some cv∨cv=c:=by
 intro l h
 fun_induction wu l with
 |case1=>
  intro e;simp only[yc,codeAmong]at e
  split at e
  ·cases e;exact .inr rfl
  ·cases e
 |case2 x t y u z rest ih=>
  intro e;simp only[xh,codeAmong]at e⊢
  split at e
  ·rename_i hc;rw[if_pos hc];exact .inl e
  ·rename_i hc;rw[if_neg hc];exact ih h e
 |case3 l h1 h2=>exact h.elim
def mI(mg:Str->Option af)(base:cq):Prop:=∃bm ob,mg "__builtins__"=some (.ref bm)/\bm≠builtinsNs/\base.get? bm=some ob/\ob.cls=.type "module"/\ob.dict=some builtinsNs/\ob.data=.plain
def K0(H H':Hp):Prop:=∀a o,(∀ps,o≠.tbl ps)->H a=some o->H' a=some o
section
variable{X:Cx}{G:Cfg}{params:ju}{body:bp}{scope:fy}{lpos:Pos}{c P:ai}
theorem YG(hdef:defaultsOf params X.env=([],[]))(hq:X.env.qual++"<lambda>"=G.lq)(hP:G.tabs P=some G.lq)(hcode:X.env.code=.ref c)(hC:pb X.base c P)(hB:mI X.mg X.base)(hfree:∀x,(x,ck)∈scope.names->X.env.kindOf x=some .cell∨X.env.kindOf x=some .free):
  PE X (.Lambda params body scope lpos) (λσ H Q=>Es G H/\∀f c' pm ctv oc H1,H f=none->K0 H H1->Es G H1->H1 f=some (.frz (kh "<lambda>" G.lq params body scope (eE X.env scope.names []) pm c' ctv) (.own 0))->H1 c'=some (.frz oc (.own 0))->Fh G.lq oc->Q (.ref f) H1):=by
 intro pins s σ H Q I ⟨hT,h⟩;obtain⟨ps,t1,t2,t3⟩:=hT P _ hP;have gP:s.heap.get? P=some (qz ps):=I.hok P _ t1;have hcl:closureFor scope X.env=pure (eE X.env scope.names []):=BP λx hx=>I.ok.has x (hfree x hx);have hgs:s.heap.Ns du X.mg:=I.mod.glob.keeps I.bk;obtain⟨bm,ob,b1,b2,b3,b4,b5,b6⟩:=hB;have b3':=I.bk _ _ b3;have hgP:du≠P:=λq=>by obtain⟨o,es,ep,e,hd,_⟩:=hgs;rw[q,gP]at e;cases e;cases hd
 have hbP:bm≠P:=λq=>by rw[q,gP]at b3';cases b3';cases b4
 have hbG:bm≠du:=λq=>by obtain⟨o,es,ep,e,hd,_⟩:=hgs;rw[<-q,b3']at e;cases e;rw[hd]at b6;cases b6
 have hba:s.heap.BuiltinsAt X.mg P:=⟨bm,ob,b1,b2,hbG,hbP,b3',b4,b5,b6⟩
 refine PySem.W.kla_eval hdef ?_;rw[hq]
 cases hc:codeAmong lpos ps.toList with
 |some cv=>obtain⟨c',oc,ec,h2,h3⟩:=t3 lpos cv hc;subst ec;refine PySem.W.kla_makeFunctionHit (mg:=X.mg) hcl I.ok.glob hgs hcode (hC.keeps I.bk) gP t2 hc hba λctv h' tk hk hsz=>?_;have hn:H h'.objs.size=none:=I.hok.fresh hsz;have kk:∀b u,s.heap.get? b=some u->(h'.push {cls:=.type "function",data:=.func (qw "<lambda>" G.lq params body scope (eE X.env scope.names []) ((X.mg "__name__").getD .none) (.ref c') ctv)}).get? b=some u:=λb u q=>ak _ (hk b u q);have gf:=aw h' (o:=kh "<lambda>" G.lq params body scope (eE X.env scope.names []) ((X.mg "__name__").getD .none) c' ctv) rfl;have I1:=I.laid (a:=h'.objs.size) (o:=.frz (kh "<lambda>" G.lq params body scope (eE X.env scope.names []) ((X.mg "__name__").getD .none) c' ctv) (.own 0)) (t':=tk) kk hsz ⟨gf,_,gf⟩;have sm:Dw H (aV H h'.objs.size (.frz (kh "<lambda>" G.lq params body scope (eE X.env scope.names []) ((X.mg "__name__").getD .none) c' ctv) (.own 0))):=dD hn;exact⟨.ref h'.objs.size,_,I1,rfl,h _ c' _ ctv oc _ hn (λa o _ q=>sm a o q) (hT.keep λa o _ _ q=>sm a o q) dR (sm _ _ h2) h3⟩
 |none=>
  refine PySem.W.kla_makeFunction (mg:=X.mg) hcl I.ok.glob hgs hcode (hC.keeps I.bk) gP t2 hc hgP hba λc' ctv h' tk hx hge hlt hrec htb=>?_;obtain⟨c₂,oc,vs,t,e2,hoc,hd,hv⟩:=hrec;cases e2;generalize hfo:kh "<lambda>" G.lq params body scope (eE X.env scope.names []) ((X.mg "__name__").getD .none) c' ctv=fo;have nfo:fo.isFreed=false:=by rw[<-hfo];rfl
  have gf:(h'.push fo).get? h'.objs.size=some fo:=aw h' nfo;have goc:(h'.push fo).get? c'=some oc:=ak _ hoc;have gP':=ak fo htb;generalize hps:ps++#[rawInt lpos.line,rawInt lpos.col,.ref c']=ps' at gP';have lP:P<s.heap.objs.size:=au gP;have kk:∀b u,b≠P->s.heap.get? b=some u->(h'.push fo).get? b=some u:=λb u hb q=>ak _ (hx b u hb q);have lt0:∀b u,s.heap.get? b=some u->b<s.heap.objs.size:=λb u q=>au q;have nPc:P≠c':=ay (av lP hge);have nPf:P≠h'.objs.size:=ay (av lP (df hge (gh hlt)));have ncf:c'≠h'.objs.size:=ay hlt;have lH:∀b o,H b=some o->b<s.heap.objs.size:=λb o q=>I.hok.lt q;have H1e:∀b,b≠P->b<s.heap.objs.size->aV (aV (aV H P (.tbl ps')) c' (.frz oc (.own 0))) h'.objs.size (.frz fo (.own 0)) b=H b:=λb h1 h2=>by rw[cB (ay (av h2 (df hge (gh hlt)))),cB (ay (av h2 hge)),cB h1]
  have eP:aV (aV (aV H P (.tbl ps')) c' (.frz oc (.own 0))) h'.objs.size (.frz fo (.own 0)) P=some (.tbl ps'):=by rw[cB nPf,cB nPc,dR]
  have ec:aV (aV (aV H P (.tbl ps')) c' (.frz oc (.own 0))) h'.objs.size (.frz fo (.own 0)) c'=some (.frz oc (.own 0)):=by rw[cB ncf,dR]
  have ef:aV (aV (aV H P (.tbl ps')) c' (.frz oc (.own 0))) h'.objs.size (.frz fo (.own 0)) h'.objs.size=some (.frz fo (.own 0)):=dR;have cases1:∀b o,aV (aV (aV H P (.tbl ps')) c' (.frz oc (.own 0))) h'.objs.size (.frz fo (.own 0)) b=some o->(b=h'.objs.size/\o=.frz fo (.own 0))∨(b=c'/\o=.frz oc (.own 0))∨(b=P/\o=.tbl ps')∨(b≠P/\H b=some o):=λb o q=>by
   by_cases q1:b=h'.objs.size
   ·subst q1;rw[dR]at q;cases q;exact .inl ⟨rfl,rfl⟩
   rw[cB q1]at q
   by_cases q2:b=c'
   ·subst q2;rw[dR]at q;cases q;exact .inr (.inl ⟨rfl,rfl⟩)
   rw[cB q2]at q
   by_cases q3:b=P
   ·subst q3;rw[dR]at q;cases q;exact .inr (.inr (.inl ⟨rfl,rfl⟩))
   rw[cB q3]at q;exact .inr (.inr (.inr ⟨q3,q⟩))
  generalize aV (aV (aV H P (.tbl ps')) c' (.frz oc (.own 0))) h'.objs.size (.frz fo (.own 0))=H1 at *;have keepO:∀b o,(∀ps,o≠.tbl ps)->H b=some o->H1 b=some o:=λb o hn q=>by rw[H1e b (λz=>by subst z;rw[t1]at q;cases q;exact hn _ rfl) (lH b o q)];exact q
  have un:Un X.fs [] H H1 s.heap (h'.push fo):=by
   have nP:∀b,H b=none->b≠P:=λb n z=>by subst z;rw[t1]at n;cases n
   refine⟨λb o q n _ _=>kk b o (nP b n) q,λb o q n _ _=>⟨o.slots,kk b o (nP b n) q⟩,λb o q n _=>by rw[H1e b (nP b n) (lt0 b o q)];exact n,λb o q _=>?_,λb xs q=>keepO b _ (λ_ z=>by cases z) q,λb o u q=>keepO b _ (λ_ z=>by cases z) q,λb qs q=>?_⟩
   ·by_cases hb:b=P
    ·subst hb;exact⟨_,gP'⟩
    ·exact⟨_,kk b o hb q⟩
   ·by_cases hb:b=P
    ·subst hb;rw[t1]at q;cases q;exact⟨#[rawInt lpos.line,rawInt lpos.col,.ref c'],by rw[eP,hps]⟩
    ·exact⟨#[],by rw[H1e b hb (lH b _ q),q];simp⟩
  have hok1:Dn X.prog X.w H1 (h'.push fo):=λb o q=>by
   rcases cases1 b o q with⟨rfl,rfl⟩|⟨rfl,rfl⟩|⟨rfl,rfl⟩|⟨hb,q⟩
   ·exact⟨gf,_,gf⟩
   ·exact⟨goc,_,goc⟩
   ·exact gP'
   ·refine(I.hok b o q).stay (λb2 u Fz z=>kk b2 u ?_ z) (λb2 z=>keepO b2 _ (λ_ z=>by cases z) z) λb2 xs z=>keepO b2 _ (λ_ z=>by cases z) z
    rcases Fz with rfl|Fz
    ·exact hb
    ·rintro rfl;rw[t1]at Fz;cases Fz
  have I1:Inv X pins σ H1 {s with heap:=h'.push fo,toks:=tk}:=I.un un hok1;refine⟨.ref h'.objs.size,H1,I1,rfl,h h'.objs.size c' ((X.mg "__name__").getD .none) ctv oc H1 (I.hok.fresh (df hge (gh hlt))) keepO ?_ (by rw[hfo];exact ef) ec ⟨vs,t,hd,hv⟩⟩;intro P' lq' eP'
  by_cases hPP:P'=P
  case neg=>obtain⟨qs,u1,u2,u3⟩:=hT P' lq' eP';refine⟨qs,by rw[H1e P' hPP (lH P' _ u1)];exact u1,u2,λpos cv q=>?_⟩;obtain⟨a,oa,z1,z2,z3⟩:=u3 pos cv q;exact⟨a,oa,z1,keepO a _ (λ_ z=>by cases z) z2,z3⟩
  subst hPP;rw[hP]at eP';cases eP';have hl:ps'.toList=ps.toList++[rawInt lpos.line,rawInt lpos.col,.ref c']:=by rw[<-hps];simp
  refine⟨ps',eP,by rw[hl];exact YE _ _ _ _ _ _ t2,λpos cv q=>?_⟩;rw[hl]at q
  rcases YF _ t2 q with q|q
  ·obtain⟨a,oa,z1,z2,z3⟩:=t3 pos cv q;exact⟨a,oa,z1,keepO a _ (λ_ z=>by cases z) z2,z3⟩
  ·exact⟨c',oc,q,ec,vs,t,hd,hv⟩
end
def mJ:A'->Ev->Option Bt 
 |[],_=>some []
 |i::r,ρ=>match ρ[i]? with
  |some (some d)=>(match mJ r ρ with
   |some ds=>some (d::ds)
   |none=>none)
  |_=>none
theorem K1{ρ:Ev}:∀{caps:A'}{ds:Bt},mJ caps ρ=some ds->ds.length=caps.length/\∀(i:Nat)(d:Dv),ds[i]?=some d->∃j,caps[i]?=some j/\ρ[j]?=some (some d)
 |[],ds,e=>by unfold mJ at e;cases e;exact⟨rfl,λi d e=>by simp at e⟩
 |j::r,ds,e=>by
  unfold mJ at e
  split at e
  ·rename_i d0 h0
   split at e
   ·rename_i ds0 h1;cases e;obtain⟨l,k⟩:=K1 h1;refine⟨by simp[l],λi d q=>?_⟩
    cases i with
    |zero=>simp at q;subst q;exact⟨j,rfl,h0⟩
    |succ i=>exact k i d (by simpa using q)
   ·cases e
  ·cases e
def oJ(caps:A')(n ncl:Nat)(mb:MS)(me:M Dv):M Dv:=λρ h=>match mJ caps ρ with
 |some ds=>uH n ncl mb (me (ds.map some) h)
 |none=>.bad
def jN(base h:cq)(cs:List ai):cq:=PySem.W.hideAll h ((az h.objs.size).filter λb=>!((base.get? b).isSome||cs.contains b))
theorem xP{base h:cq}{cs:List ai}{b:ai}{o:Obj}(e:h.get? b=some o)(hb:(∃u,base.get? b=some u)∨b∈cs):(jN base h cs).get? b=some o:=
 Ab _ e λz=>by
  have:=(kq.mp z).2
  rcases hb with⟨u,hb⟩|hb
  ·simp[hb]at this
  ·simp[hb]at this
theorem K2{base h:cq}{cs:List ai}{b:ai}{o:Obj}(e:(jN base h cs).get? b=some o):h.get? b=some o/\((∃u,base.get? b=some u)∨b∈cs):=by
 have e1:=Ak _ e;refine⟨e1,?_⟩
 by_cases hb:(∃u,base.get? b=some u)∨b∈cs
 ·exact hb
 ·exfalso
  have hm:b∈(az h.objs.size).filter λb=>!((base.get? b).isSome||cs.contains b):=by
   refine kq.mpr ⟨br.mpr (au e1),?_⟩
   cases q:base.get? b with
   |some u=>exact absurd (.inl ⟨u,q⟩) hb
   |none=>have:b∉cs:=λz=>hb (.inr z);simp[this]
  have:=zy (h:=h) _ hm;unfold jN at e;rw[this]at e;cases e
theorem Out.ext{α β:Type}{G:Cfg}{E:XK}{μ μ1:Nat->ai}{n n1:Nat}{H H1:Hp}{r:Rs α}{R:(Nat->ai)->Nat->Hp->α->β->Prop}{Q:β->Hp->Prop}(o:Out G E μ n H r R Q)(x:Ext μ n H μ1 n1 H1):Out G E μ1 n1 H1 r R Q:=by
 cases r with
 |bad=>exact o
 |ex c h'=>exact λμ' H' u y=>o μ' H' u (x.trans y)
 |ok d h'=>exact λμ' H' u y=>o μ' H' u (x.trans y)
theorem YH{env:Env}{scope:fy}{x:Str}{c:ai}(hf:∀x,(x,ck)∈scope.names->∃c,env.cells.lookup x=some c)(e:(eE env scope.names []).lookup x=some c):(x,ck)∈scope.names/\env.cells.lookup x=some c:=by
 rcases wU _ _ e with q|⟨q1,q2⟩
 ·cases q
 ·obtain⟨c',h'⟩:=hf x q1;rw[h']at q2;subst q2;exact⟨q1,h'⟩
section
variable{X:Cx}{G:Cfg}
open Classical in
def isT(H:Hp)(tx:Dt)(u:af):Bool:=decide (∃v t,RelV v u/\Den kJ H t v/\bU t tx=true)
open Classical in
theorem K4{H:Hp}{tx t:Dt}{u:af}{v:V}(r:RelV v u)(d:Den kJ H t v):isT H tx u=bU t tx:=by
 unfold isT
 cases q:bU t tx with
 |true=>exact decide_eq_true ⟨v,t,r,d,q⟩
 |false=>refine decide_eq_false λ⟨v',t',r',d',q'⟩=>?_;have e:=r'.inj r;subst e;rw[Den.inj t' t v' d' d,q]at q';cases q'
theorem uI{H:Hp}{tx:Dt}:∀{ts:List Dt}{vs:Ic}{us:List af},Ci kJ H ts vs->Cc vs us->us.any (isT H tx)=ts.any λt=>bU t tx
 |[],_,_,d,r=>by rw[Ci]at d;subst d;cases r;rfl
 |t::ts,_,_,d,r=>by
  rw[Ci]at d;obtain⟨v,rr,rfl,d1,d2⟩:=d
  cases r with
  |cons r1 r2=>rw[List.any_cons,List.any_cons,K4 r1 d1,uI d2 r2]
def xQ(K:ar)(neg:Bool):R2:=λx y H Q=>∃a vs ts tx,y=.ref a/\(Dj K H a vs∨Ct K H a vs)/\Ci kJ H ts vs/\Den kJ H tx x/\(∀t∈ts,fT t<=cK/\nod t=true)/\nod tx=true/\Q (.bl (if neg then !(ts.any λt=>bU t tx)else ts.any λt=>bU t tx)) H
theorem xR{pins:List (ai×Obj)}{σ:St}{H:Hp}{s:ag}{x:V}{v:af}{vs:Ic}{its:List af}{ts:List Dt}{tx:Dt}(hu:X.A.units+64<cLine)(I:Inv X pins σ H s)(rx:RelV x v)(r:Cc vs its)(d:Ci kJ H ts vs)(dx:Den kJ H tx x)(ht:∀t∈ts,fT t<=cK/\nod t=true)(nx:nod tx=true):∀y,y∈its.toArray->lr X.A.in1 s y v (isT H tx y):=λy hy=>by
 have hy':y∈its:=by simpa using hy
 obtain⟨j,hj,e⟩:=vc.mp hy';have hl:=r.length;obtain⟨u,eu,ru⟩:=r.get (i:=j) (x:=vs[j]'(by lia)) (bo (by lia));have:u=y:=by rw[bo hj,e]at eu;cases eu;rfl
 subst this;obtain⟨t,et,dt⟩:=d.get (i:=j) (bo (by lia:j<vs.length));obtain⟨h1,h2⟩:=ht t (cx et);rw[K4 ru dt];exact(JO I.hok cK X.A.in1 t tx _ x _ v h1 (by show X.A.units+1+cK+1<cLine;unfold cK;lia) h2 nx dt dx ru rx).2
theorem K5(hu:X.A.units+64<cLine):Cw X (compareOp .In) (xQ X.K false):=by
 intro pins s σ H x y v u Q I r1 r2 ⟨a,vs,ts,tx,e,hs,d,dx,ht,nx,q⟩;subst e;cases r2
 rcases hs with hs|hs
 ·obtain⟨its,r,pl,hz⟩:=I.list hs;refine SeqAt.in_listAt (isT H tx) pl.isList (xR hu I r1 r d dx ht nx) ?_;exact⟨.bl _,H,I,by rw[show its.toArray.any (isT H tx)=its.any (isT H tx)by simp,uI d r];rfl,q⟩
 ·obtain⟨its,r,pl,hz⟩:=I.tuple hs;refine SeqAt.in_tupleAt (isT H tx) pl (xR hu I r1 r d dx ht nx) ?_;exact⟨.bl _,H,I,by rw[show its.toArray.any (isT H tx)=its.any (isT H tx)by simp,uI d r];rfl,q⟩
theorem K6(hu:X.A.units+64<cLine):Cw X (compareOp .NotIn) (xQ X.K true):=by
 intro pins s σ H x y v u Q I r1 r2 ⟨a,vs,ts,tx,e,hs,d,dx,ht,nx,q⟩;subst e;cases r2
 rcases hs with hs|hs
 ·obtain⟨its,r,pl,hz⟩:=I.list hs;refine SeqAt.notIn_listAt (isT H tx) pl.isList (xR hu I r1 r d dx ht nx) ?_;exact⟨.bl _,H,I,by rw[show its.toArray.any (isT H tx)=its.any (isT H tx)by simp,uI d r];rfl,q⟩
 ·obtain⟨its,r,pl,hz⟩:=I.tuple hs;refine SeqAt.notIn_tupleAt (isT H tx) pl (xR hu I r1 r d dx ht nx) ?_;exact⟨.bl _,H,I,by rw[show its.toArray.any (isT H tx)=its.any (isT H tx)by simp,uI d r];rfl,q⟩
def mK(scr:y')(neg:Bool)(x c:Dv)(h:Hs):Rs Dv:=match gH scr c h with
 |some ys=>match cD (bS cK h) ys,bS cK h x with
  |some ts,some tx=>.ok (.bl (if neg then !(ts.any λt=>bU t tx)else ts.any λt=>bU t tx)) h
  |_,_=>.bad
 |none=>.bad
theorem K7{μ:Nat->ai}{h:Hs}{H:Hp}(s:Cm G μ h H):∀{xs:Bt}{vs:Ic}{ts:List Dt},RelDL G μ h.length H xs vs->cD (bS cK h) xs=some ts->Ci kJ H ts vs/\∀t∈ts,fT t<=cK/\nod t=true
 |[],_,_,r,e=>by cases e;rw[RelDL]at r;subst r;exact⟨Ci.nil,λt ht=>by simp at ht⟩
 |x::xs,_,_,r,e=>by
  rw[RelDL]at r;obtain⟨v,rr,rfl,r1,r2⟩:=r;unfold cD at e
  cases q:bS cK h x with
  |none=>rw[q]at e;cases e
  |some y=>
   rw[q]at e;dsimp only at e
   cases q2:cD (bS cK h) xs with
   |none=>rw[q2]at e;cases e
   |some ys=>
    rw[q2]at e;cases e;obtain⟨a1,a2,a3⟩:=rJ s _ x v y r1 q;obtain⟨b1,b2⟩:=K7 s r2 q2;refine⟨Ci.cons a1 b1,λt ht=>?_⟩
    rcases bc.mp ht with rfl|ht
    ·exact⟨a2,a3⟩
    ·exact b2 t ht
theorem YI(neg:Bool):fY G (xQ G.K neg) (mK G.scr neg):=by
 intro E μ h H x y vx vy Q s rx ry o;unfold mK at o
 cases q:gH G.scr y h with
 |none=>rw[q]at o;exact o.elim
 |some ys=>
  rw[q]at o;dsimp only at o
  split at o
  ·rename_i ts tx e1 e2;obtain⟨a,vs,rfl,hs,r⟩:=CG s ry q;obtain⟨b1,b2⟩:=K7 s r e1;obtain⟨c1,c2,c3⟩:=rJ s _ x vx tx rx e2;exact⟨a,vs,ts,tx,rfl,hs,b1,c1,b2,c3,o.val s rfl⟩
  ·exact o.elim
end
section
variable{X:Cx}{G:Cfg}
theorem K8{M:yf}{A:bx}{E:af->ag->Prop}{s:ag}{x:V}{u:af}{b:Bool}{Q:Bool->ag->Prop}(r:RelV x u)(q:Q (decide (x=.bl b)) s):wpAny M A (isSame u (.bool b)) Q E s:=by
 cases x with
 |non=>cases r;exact aj q
 |bl c=>
  cases r;refine aj ?_;have:decide (V.bl c=V.bl b)=(vn c==vn b):=by cases c<;>cases b<;>rfl
  rw[this]at q;exact q
 |int i=>obtain⟨t,rfl⟩:=r;exact aj q
 |str i=>obtain⟨t,rfl⟩:=r;exact aj q
 |byt i=>obtain⟨t,rfl⟩:=r;exact aj q
 |flt i=>obtain⟨t,rfl⟩:=r;exact aj q
 |ref a=>cases r;exact aj q
 |ty n=>cases r;exact aj q
def DD(neg:Bool):R2:=λx y H Q=>∃b,y=.bl b/\Q (.bl (if neg then !decide (x=.bl b)else decide (x=.bl b))) H
theorem YJ:Cw X (compareOp .Is) (DD false):=by intro pins s σ H x y v u Q I rx ry ⟨b,e,q⟩;subst e;cases ry;exact ae (K8 rx (aj ⟨.bl _,H,I,rfl,q⟩))
theorem YK:Cw X (compareOp .IsNot) (DD true):=by intro pins s σ H x y v u Q I rx ry ⟨b,e,q⟩;subst e;cases ry;exact ae (K8 rx (aj ⟨.bl _,H,I,rfl,q⟩))
def xS:Dv->Dv->Option Bool
 |.non,.non=>some true
 |_,.non=>some false
 |.bl a,.bl b=>some (a==b)
 |_,.bl _=>some false
 |_,_=>none
def iP(neg:Bool)(x y:Dv)(h:Hs):Rs Dv:=match xS x y with
 |some b=>.ok (.bl (if neg then !b else b)) h
 |none=>.bad
def DE(neg:Bool):R2:=λx y H Q=>(y=.non/\Q (.bl (if neg then !decide (x=.non)else decide (x=.non))) H)∨DD neg x y H Q
theorem YL:Cw X (compareOp .Is) (DE false):=Cw.or S7 YJ
theorem YM:Cw X (compareOp .IsNot) (DE true):=Cw.or S8 YK
theorem YN{μ:Nat->ai}{n:Nat}{H:Hp}{x:Dv}{v:V}{b:Bool}(r:Ca G μ n H x v)(e:xS x .non=some b):decide (v=.non)=b:=by
 cases x with
 |non=>cases e;rw[Ca]at r;subst r;rfl
 |bl c=>cases e;rw[Ca]at r;subst r;rfl
 |int c=>cases e;rw[Ca]at r;subst r;rfl
 |str c=>cases e;rw[Ca]at r;subst r;rfl
 |tup c=>cases e;obtain⟨a,vs,rfl,_⟩:=r;rfl
 |ref c=>cases e;obtain⟨_,rfl⟩:=r;rfl
 |edc=>cases e;obtain⟨a,rfl,_⟩:=r;rfl
 |exc c=>cases e;obtain⟨a,o,u,rfl,_⟩:=r;rfl
 |scr=>cases e;obtain⟨rfl,_⟩:=r;rfl
theorem YO{μ:Nat->ai}{n:Nat}{H:Hp}{x:Dv}{v:V}{b c:Bool}(r:Ca G μ n H x v)(e:xS x (.bl c)=some b):decide (v=.bl c)=b:=by
 cases x with
 |non=>cases e;rw[Ca]at r;subst r;rfl
 |bl d=>cases e;rw[Ca]at r;subst r;cases c<;>cases d<;>rfl
 |int c=>cases e;rw[Ca]at r;subst r;rfl
 |str c=>cases e;rw[Ca]at r;subst r;rfl
 |tup c=>cases e;obtain⟨a,vs,rfl,_⟩:=r;rfl
 |ref c=>cases e;obtain⟨_,rfl⟩:=r;rfl
 |edc=>cases e;obtain⟨a,rfl,_⟩:=r;rfl
 |exc c=>cases e;obtain⟨a,o,u,rfl,_⟩:=r;rfl
 |scr=>cases e;obtain⟨rfl,_⟩:=r;rfl
theorem K9(neg:Bool):fY G (DE neg) (iP neg):=by
 intro E μ h H x y vx vy Q s rx ry o;unfold iP at o
 cases q:xS x y with
 |none=>rw[q]at o;exact o.elim
 |some b=>
  rw[q]at o
  cases y with
  |non=>rw[Ca]at ry;exact .inl ⟨ry,by rw[YN rx q];exact o.val s rfl⟩
  |bl c=>rw[Ca]at ry;exact .inr ⟨c,ry,by rw[YO rx q];exact o.val s rfl⟩
  |_=>cases x<;>cases q
end
def lG(c:M Bool)(body:MS):Nat->MS
 |0=>λ_ _=>.bad
 |f+1=>λρ h=>(c ρ h).thenS λb h1=>if b=true then(match body ρ h1 with
  |.nx ρ2 h2=>lG c body f ρ2 h2
  |.ct ρ2 h2=>lG c body f ρ2 h2
  |.bk ρ2 h2=>.nx ρ2 h2
  |r=>r)else .nx ρ h1
section
variable{c:bp}{body:List iq}{mc:M Bool}{mb:MS}{pos:Pos}
theorem YQ(n:Nat)(hp:zf (model X.prog X.w) X.A X.env X.xe)(hc:gE X G E c mc)(hb:jY X G E body mb):iE X G E (.While c body [] pos) (lG mc mb n):=λhK=>PS.imp (R7 hp (hc hK) (hb hK)) λD σ H⟨μ,ρ,h,rs,s,o⟩=>by
 refine⟨λm σ H=>∃μ ρ h,Cj G μ h.length H ρ σ/\Cm G μ h H/\Dd G E μ h.length H (lG mc mb m ρ h) D,⟨n,μ,ρ,h,rs,s,o⟩,?_⟩
 rintro m σ1 H1 ⟨μ1,ρ1,h1,Cr,s1,o1⟩
 cases m with
 |zero=>exact o1.elim
 |succ m=>
  refine J2 Cr s1 o1 λμ2 b h2 H2 x2 Em s2 o2=>?_
  cases b with
  |false=>rw[if_neg (by decide)]at o2⊢;exact o2 μ2 H2 σ1 Hm s2 Em
  |true=>
   rw[if_pos rfl]at o2⊢;refine⟨λσ' H'=>∃μ ρ h,Cj G μ h.length H' ρ σ'/\Cm G μ h H'/\Dd G E μ h.length H' (lG mc mb m ρ h) D,λσ' H' z=>⟨m,lg m,z⟩,μ2,ρ1,h2,Em,s2,?_⟩
   cases q:mb ρ1 h2 with
   |nx ρ3 h3=>rw[q]at o2;exact λμ4 H4 σ4 x4 s4 pE=>⟨μ4,ρ3,h3,pE,s4,Dd.ext o2 x4⟩
   |ct ρ3 h3=>rw[q]at o2;exact λμ4 H4 σ4 x4 s4 pE=>⟨μ4,ρ3,h3,pE,s4,Dd.ext o2 x4⟩
   |bk ρ3 h3=>rw[q]at o2;exact o2
   |rt d h3=>rw[q]at o2;exact o2
   |ex d h3=>rw[q]at o2;exact o2
   |bad=>rw[q]at o2;exact o2.elim
end
section
variable{e o:bp}{mo me:M Dv}{pos apos cpos np p2:Pos}{y:Str}
def rW(x i:Dv)(h:Hs):Rs Dv:=match x,i with
 |.ref j,.int n=>match getL h j with
  |some xs=>match dS xs.length n with
   |some k=>match xs[k]? with
    |some d=>if xs.length<=1000000 then .ok d (h.set j (.lst (xs.eraseIdx k)))else .bad
    |none=>.bad
   |none=>.bad
  |none=>.bad
 |_,_=>.bad
theorem LA{μ:Nat->ai}{n:Nat}{H:Hp}:∀{ds:Bt}{vs:Ic}(k:Nat),RelDL G μ n H ds vs->RelDL G μ n H (ds.eraseIdx k) (vs.eraseIdx k)
 |[],_,_,h=>by rw[RelDL]at h;subst h;exact Hn
 |d::ds,_,0,h=>by rw[RelDL]at h;obtain⟨v,r,rfl,h1,h2⟩:=h;exact h2
 |d::ds,_,k+1,h=>by rw[RelDL]at h;obtain⟨v,r,rfl,h1,h2⟩:=h;exact Hl h1 (LA k h2)
def oK(mo me:M Dv):M Dv:=λρ h=>(mo ρ h).bind λx h1=>if jD x h1=true then(me ρ h1).bind λd h2=>rW x d h2 else .bad
theorem LB(ho:aK X G E (.Name y np) mo)(he:aK X G E e me)(hs:aq [e] X.env=[(false,eval e X.env)]:=by rfl)(hl:(apos.endLine==cpos.line)=true:=by rfl):aK X G E (.Call (.Attribute (.Name y np) "pop" apos) [e] [] cpos) (oK mo me):=λhK=>
 Hj (BN si PySem.F.slot_list_pop PySem.F.type_list_pop VD (ho hK) (iJ (he hK) jU hs) rfl (by rw[hs];rfl) hl hs rfl) λσ H Q⟨μ,ρ,h,rs,s,oo⟩=>gF rs s oo λμ1 x h1 vx H1 x1 Cr s1 r1 o1=>by
  split at o1
  ·rename_i hl;refine⟨CZ s1 r1 hl,gF Cr s1 o1 λμ2 d h2 vd H2 x2 Em s2 r2 o2=>?_⟩
   cases x with
   |ref j=>
    cases d with
    |int n=>
     dsimp only[rW]at o2
     cases q:getL h2 j with
     |none=>rw[q]at o2;exact o2.elim
     |some xs=>
      rw[q]at o2;dsimp only at o2
      cases q2:dS xs.length n with
      |none=>rw[q2]at o2;exact o2.elim
      |some k=>
       rw[q2]at o2;dsimp only at o2
       cases q3:xs[k]? with
       |none=>rw[q3]at o2;exact o2.elim
       |some d'=>
        rw[q3]at o2;dsimp only at o2
        split at o2
        ·rename_i hz;obtain⟨vs,ea,ra⟩:=s2.ob j _ (fG q);obtain⟨_,rfl⟩:=Hq x2 _ _ r1;rw[Ca]at r2;subst r2;obtain⟨v,ev,rv⟩:=ra.get q3;obtain⟨i1,i2,i3,i4⟩:=BI q2;obtain⟨x3,s3⟩:=s2.write (fG q) (LA k ra);exact⟨_,vs,n,k,v,rfl,rfl,ea,by lia,by lia,by rw[ra.length];exact i1,ev,o2 μ2 _ _ x3 s3 (Hq x3 _ _ rv)⟩
        ·exact o2.elim
    |_=>exact o2.elim
   |_=>exact o2.elim
  ·exact o1.elim
def oM(xs:Bt)(lo hi:Option Int):Bt:=(xs.drop (HT.sIx xs.length 0 lo)).take (HT.sIx xs.length xs.length hi-HT.sIx xs.length 0 lo)
theorem LC{μ:Nat->ai}{n:Nat}{H:Hp}{xs:Bt}{vs:Ic}(r:RelDL G μ n H xs vs)(lo hi:Option Int):RelDL G μ n H (oM xs lo hi) (nX vs lo hi):=by unfold oM nX;rw[r.length];exact(r.drop _).take _
abbrev MO:=Ev->Hs->Rs (Option Int)
def YR(G:Cfg)(E:XK)(m:MO):TO:=TOu G E m (λ_ _ _ a b=>b=a)
def xT(X:Cx)(G:Cfg)(E:XK)(pe:Option bp)(m:MO):Prop:=X.K=G.K->PO X pe (YR G E m)
theorem PO.imp{pe:Option bp}{t t':TO}(h:PO X pe t)(i:∀σ H Q,t' σ H Q->t σ H Q):PO X pe t':=λpins s σ H Q I q=>h pins s σ H Q I (i σ H Q q)
def uJ:MO:=λ_ h=>.ok none h
def LD:Dv->Hs->Rs (Option Int)
 |.int i,h=>.ok (some i) h
 |_,_=>.bad
def uK(m:M Dv):MO:=λρ h=>(m ρ h).bind LD
theorem YS:xT X G E none uJ:=λ_=>PO.imp UH λσ H Q⟨μ,ρ,h,rs,s,oo⟩=>oo.val s rfl
theorem YT(he:aK X G E e me):xT X G E (some e) (uK me):=λhK=>PO.imp (UI (he hK)) λσ H Q⟨μ,ρ,h,rs,s,oo⟩=>gF rs s oo λμ1 d h1 v H1 x1 Cr s1 r1 o1=>by
 cases d with
 |int i=>exact⟨i,r1,o1.val s1 rfl⟩
 |_=>exact o1.elim
end
section
variable{pos:Pos}
theorem YU:aK X G E (.Dict [] [] pos) (mC .edc):=λ_ pins s σ H Q I⟨μ,ρ,h,rs,sm,o⟩=>by have hb:sysModules<s.heap.objs.size:=Av (by decide) (I.mod.glob.keeps I.bk).lt;have hn:=I.hok.fresh (ao s.heap.objs.size);refine wpAny_Dict_empty ⟨.ref s.heap.objs.size,_,I.laid (a:=s.heap.objs.size) (o:=.dK []) (t':=s.toks) (λ_ _ q=>ak _ q) (ao _) ⟨gg _,beq_eq_false_iff_ne.mpr (dg (ay hb)),[],.nil,Heap.DictOf.new s.heap⟩,rfl,?_⟩;exact o μ _ _ (Hg (dD hn)) (sm.same (dD hn)) ⟨_,rfl,dR⟩
theorem YV{x:Str}{i:Int}{t:Tok}(hg:Gl X x)(hm:X.mg x=some (.int i t))(hd:(x==Ib)=false:=by decide):aK X G E (.Name x pos) (aG i):=λ_=>Hj (HF (v:=.int i) hg hm ⟨t,rfl⟩ hd) λσ H Q⟨μ,ρ,h,rs,s,o⟩=>o.val s (show Ca G μ _ H (.int i) (.int i) from rfl)
def DF:Dv->Hs->Rs Dv
 |.int i,h=>.ok (.int (-i)) h
 |_,_=>.bad
theorem YW:lB G (rU λi=>.int (-i)) DF:=by
 intro E μ h H x vx Q s r o
 cases x with
 |int i=>rw[Ca]at r;subst r;exact⟨i,rfl,o.val s rfl⟩
 |_=>exact o.elim
end
structure Lawful(lp:bj)(w:cb)(K:ar)(mg:Str->Option af)(base:cq)(k:Nat)(fa:ai)(fd:bq)(x:Str)(Ps:List ai)(a:ai)(ns:y'):Prop where
 ex:∃(G:Cfg)(lawF:Bs)(hh:Hs),G.K=K/\G.scr=ns/\G.sa=a/\(∀P lq,G.tabs P=some lq->P∈Ps)/\lawF [.scr] []=.ok (.bl true) hh/\Cg lp w K mg base (cA lp w base) k fa fd [x] (cW G lawF)
theorem DG{lp:bj}{w:cb}{K:ar}{mg mb:Str->Option af}{k:Nat}{fa a:ai}{cps:List (ai×ai)}{fd:bq}{x:Str}{s₁:ag}{vs:List af}{ns:y'}(KX:K.In s₁.heap)(hns:s₁.heap.Ns du mg)(hb:s₁.heap.Ns builtinsNs mb)(hbb:∀x:Str,x≠"__name__"->mb x=dk x)(hlim:s₁.heap.NoLimit)(hg:s₁.gens=#[])(ha:s₁.heap.get? a=some {cls:=.type "list",data:=.seq vs.toArray})(hi:mn vs ns)(hl:ns.length<=cp)(hr:Cv k callerA)(hC:∀y∈cps,pb s₁.heap y.1 y.2)(hP':∀y∈cps,s₁.heap.get? y.2=some (qz #[]))(hB:mI mg s₁.heap)(hnt:PySem.W.noTabs K=true)(F:∀base:cq,K.In base->base.Ns du mg->(∀y∈cps,pb base y.1 y.2)->mI mg base->Lawful lp w K mg base k fa fd x (cps.map gz) a ns)(hbind:∀(s:ag)(u:af),yh s fd ⟨[u],[]⟩ [(x,u)]):
  codeAny (model lp w) callerA (.call (.ref fa) ⟨[.ref a],[]⟩) (λr s'=>r=.ok (.ret (.bool true))/\OldK s₁.heap s'.heap/\s'.os=s₁.os/\uf s'.gens) s₁:=by
 have rv:=pG hi;have lenV:=hi.length;have hP:∀{P:ai},P∈cps.map gz->s₁.heap.get? P=some (qz #[]):=λ{P}h=>by obtain⟨y,hy,rfl⟩:=bz.mp h;exact hP' y hy
 have KP:∀{P:ai},P∈cps.map gz->K.lookup P=none:=λ{P}hm=>by
  cases q:K.lookup P with
  |none=>rfl
  |some o=>have e:=KX P o q;rw[hP hm]at e;cases e;have:=iw.mp hnt (P,qz #[]) (PySem.W.mem_of_lookupK q);exact absurd (show false=true from this) gu
 have aP:a∉cps.map gz:=λz=>by rw[hP z]at ha;cases ha
 have core:∀H:Hp,(∀P∈cps.map gz,H P=some (.tbl #[]))->FzL K H a (ns.map Hi)->Dn lp w H s₁.heap->(∀b,H b≠none->b=a∨b∈cps.map gz)->(H a≠none->K.lookup a=none)->(∀u,H a=some u->∃o xs,u=.frz o (.lst xs))->
   codeAny (model lp w) callerA (.call (.ref fa) ⟨[.ref a],[]⟩) (λr s'=>r=.ok (.ret (.bool true))/\OldK s₁.heap s'.heap/\s'.os=s₁.os/\uf s'.gens) s₁:=by
  intro H hHP hS hok hA hK hF;have base_of:∀{b:ai}{o:Obj},s₁.heap.get? b=some o->H b=none->(kU s₁.heap H).get? b=some o:=λe n=>Q2 e n;have none_of:∀{b:ai},b≠a->b∉cps.map gz->H b=none:=λ{b}h1 h2=>by
   cases q:H b with
   |none=>rfl
   |some u=>exact((hA b (by rw[q];simp)).elim h1 h2).elim
  have noD:∀{b:ai}{o:Obj}{es:Array zk}{ep:Nat},s₁.heap.get? b=some o->o.data=.dict es ep->H b=none:=λ{b o es ep}e d=>none_of (λz=>by
    subst z;rw[ha]at e;cases e;have d':Data.seq vs.toArray _=Data.dict es ep:=d
    cases d') (λz=>by
    rw[hP z]at e;cases e;have d':Data.fields _=Data.dict es ep:=d
    cases d')
  have nsK:∀{b:ai}{m:Str->Option af},s₁.heap.Ns b m->(kU s₁.heap H).Ns b m:=λ{b m}⟨o,es,ep,e,d,r⟩=>⟨o,es,ep,base_of e (noD e d),d,r⟩
  have hKb:K.In (kU s₁.heap H):=λb o e=>base_of (KX b o e) (by
   cases q:H b with
   |none=>rfl
   |some u=>
    rcases hA b (by rw[q];simp)with z|z
    ·subst z;rw[hK (by rw[q];simp)]at e;cases e
    ·rw[KP z]at e;cases e)
  have hM:Mod K mg (kU s₁.heap H):=⟨hKb,nsK hns,⟨mb,nsK hb,hbb⟩,let ⟨mc,h1,h2⟩:=hlim;⟨mc,nsK h1,h2⟩⟩
  have hCb:∀y∈cps,pb (kU s₁.heap H) y.1 y.2:=λy hy=>by
   obtain⟨o,Dr,file,tf,flags,tg,inF,text,tt,e1,r1,r⟩:=hC y hy;refine⟨o,Dr,file,tf,flags,tg,inF,text,tt,base_of e1 (none_of (λz=>?_) (λz=>?_)),r1,r⟩
   rotate_left
   ·rw[hP z]at e1;cases e1;cases r1
   rw[z,ha]at e1;cases e1;exact absurd r1 (by intro w;injection w with w;exact absurd w (by decide))
  have hBb:mI mg (kU s₁.heap H):=by
   obtain⟨bm,ob,b1,b2,b3,b4,b5,b6⟩:=hB;refine⟨bm,ob,b1,b2,base_of b3 (none_of (λz=>?_) (λz=>?_)),b4,b5,b6⟩
   ·subst z;rw[ha]at b3;cases b3;exact absurd b4 (by intro w;injection w with w;exact absurd w (by decide))
   ·rw[hP z]at b3;cases b3;cases b4
  have e0:Hb lp w K mg (kU s₁.heap H) callerA [] s₁ H:=⟨rfl,hM,λb o e=>Q3 e,rf (Q0 _ _),trivial,λb hb=>absurd (show b∈([]:List ai) from hb) (by simp),hok,.of_eq hg⟩
  obtain⟨G,lawF,hh,g1,g2,g3,g4,hlaw,Fn⟩:=(F _ hKb (nsK hns) hCb hBb).ex;have rd:RelDL G (λ_=>0) 0 H [.scr] [.ref a]:=by refine Hl ?_ Hn;rw[Ca,g1,g2,g3];exact⟨rfl,hS⟩
  have sm:Cm G (λ_=>0) [] H:=⟨λi j h1=>absurd h1 (by simp),λi o q=>by simp at q,λP' lq e=>by
   exact⟨#[],hHP P' (g4 P' lq e),trivial,λpos cv q=>by
    have q':(none:Option af)=some cv:=q
    cases q'⟩⟩
  refine pz (Fn.run callerA [] s₁ H ⟨[.ref a],[]⟩ [.ref a] [.ref a] (λv _=>v=.bl true) (λ_ _ _=>False) hr e0 (hbind s₁ (.ref a)) (.cons rfl .nil) ⟨λ_=>0,[],[.scr],rd,sm,?_⟩) λr s' h=>?_
  ·rw[hlaw];exact λμ' H' v _ _ r=>r
  cases r with
  |error e=>obtain⟨_,_,_,_,_,_,_,_,_,z⟩:=h;exact z.elim
  |ok fl=>
   cases fl with
   |next=>exact ja h
   |brk=>exact ja h
   |cont=>exact ja h
   |ret u=>
    obtain⟨v,H',os,bare,un,hok',r',q⟩:=h;have q':v=.bl true:=q;subst q';obtain rfl:u=vn true:=r';have kept:∀b o,b∉cps.map gz->s₁.heap.get? b=some o->s'.heap.get? b=some o:=λb o hbP e=>by
     cases q:H b with
     |none=>exact un.keep b o e q (by intro z;exact absurd (show b∈([]:List ai) from z) (by simp)) (by simp)
     |some u=>
      rcases hA b (by rw[q];simp)with z|z
      ·subst z;obtain⟨ob,xs,rfl⟩:=hF u q;have z2:=un.frzs b ob _ q;obtain⟨e1,_⟩:=hok b _ q;obtain⟨e2,_⟩:=hok' b _ z2;rw[e]at e1;cases e1;exact e2
      ·exact absurd z hbP
    have gP':∀P∈cps.map gz,∃more,s'.heap.get? P=some (qz (#[]++more)):=λP h=>by obtain⟨more,hm⟩:=un.tbls P #[] (hHP P h);exact⟨more,hok' P _ hm⟩
    refine⟨rfl,⟨λb o e=>?_,λb o e=>?_⟩,os,bare⟩
    ·by_cases hb:b∈cps.map gz
     ·rw[hP hb]at e;cases e;obtain⟨more,gP⟩:=gP' b hb;obtain⟨y,hy,rfl⟩:=bz.mp hb;exact .inr (.inl ⟨((hC y hy).tab (hP hb)).isCodeTable,rfl,#[],more,rfl,gP⟩)
     ·exact .inl (kept b o hb e)
    ·by_cases hb:b∈cps.map gz
     ·obtain⟨more,gP⟩:=gP' b hb;exact⟨_,gP⟩
     ·exact⟨_,kept b o hb e⟩
 cases hk:K.lookup a with
 |some o=>
  have e:=KX a o hk;rw[ha]at e;cases e;refine core (λb=>if b∈cps.map gz then some (.tbl #[])else none) (λP h=>if_pos h) (.inr ⟨_,vs.toArray,_,hk,rfl,rfl,rfl,by rw[bg,lenV];exact hl,by simpa using rv⟩) (λb u z=>?_) (λb z=>?_) (λz=>absurd (if_neg aP) z) (λu z=>?_)
  ·by_cases hb:b∈cps.map gz
   ·have z':=(if_pos hb).symm.trans z;cases z';exact hP hb
   ·have z':=(if_neg hb).symm.trans z;cases z'
  ·by_cases hb:b∈cps.map gz
   ·exact .inr hb
   ·exact absurd (if_neg hb) z
  ·have z':=(if_neg aP).symm.trans z;cases z'
 |none=>
  have ea:(λb=>if b=a then some (HO.frz {cls:=.type "list",data:=.seq vs.toArray} (.lst (ns.map Hi)))else if b∈cps.map gz then some (.tbl #[])else none) a=some (.frz {cls:=.type "list",data:=.seq vs.toArray} (.lst (ns.map Hi))):=if_pos rfl;refine core (λb=>if b=a then some (.frz {cls:=.type "list",data:=.seq vs.toArray} (.lst (ns.map Hi)))else if b∈cps.map gz then some (.tbl #[])else none) (λP h=>(if_neg (λz:P=a=>aP (by rw[<-z];exact h))).trans (if_pos h)) (.inl ⟨{cls:=.type "list",data:=.seq vs.toArray},ea⟩) (λb u z=>?_) (λb z=>?_) (λ_=>hk) (λu z=>?_)
  ·by_cases hb:b=a
   ·have z':=(if_pos hb).symm.trans z;cases z';subst hb;exact⟨ha,by rw[bf];exact hl,vs,_,rv,ha⟩
   ·have z':=(if_neg hb).symm.trans z
    by_cases Fz:b∈cps.map gz
    ·have z2:=(if_pos Fz).symm.trans z';cases z2;exact hP Fz
    ·have z2:=(if_neg Fz).symm.trans z';cases z2
  ·by_cases hb:b=a
   ·exact .inl hb
   ·by_cases Fz:b∈cps.map gz
    ·exact .inr Fz
    ·exact absurd ((if_neg hb).trans (if_neg Fz)) z
  ·have z':=ea.symm.trans z;cases z';exact⟨_,_,rfl⟩
theorem jE{α:Type}{P:List α->Prop}(h:∀a,P [a]):∀us:List α,us.length=1->P us
 |[a],_=>h a
theorem iQ{α:Type}{P:List α->Prop}(h:∀a b,P [a,b]):∀us:List α,us.length=2->P us
 |[a,b],_=>h a b
theorem LF{α:Type}{P:List α->Prop}(h:∀a b c,P [a,b,c]):∀us:List α,us.length=3->P us
 |[a,b,c],_=>h a b c
theorem YX{α:Type}{P:List α->Prop}(h:∀a b c d,P [a,b,c,d]):∀us:List α,us.length=4->P us
 |[a,b,c,d],_=>h a b c d
theorem jF{P:Nat->Bool->Prop}:∀c b,List.lookup c ([]:List (Nat×Bool))=some b->P c b:=λ_ _ h=>nomatch h
theorem jG{P:Nat->Bool->Prop}{x:Nat}{y:Bool}{l:List (Nat×Bool)}(h:P x y)(hl:∀c b,l.lookup c=some b->P c b):∀c b,List.lookup c ((x,y)::l)=some b->P c b:=λc b e=>by
 rw[gi]at e
 cases q:c==x with
 |true=>rw[q]at e;exact eq_of_beq q▸(cn e)▸h
 |false=>rw[q]at e;exact hl c b e
theorem YY{P:Nat->Prop}:∀c,c<0->P c:=λc h=>absurd h (yo c)
theorem jO{P:Nat->Prop}{n:Nat}(h0:P 0)(h:∀c,c<n->P (c+1)):∀c,c<n+1->P c
 |0,_=>h0
 |c+1,hc=>h c (Nat.lt_of_succ_lt_succ hc)
open PySem.Calls
abbrev Ys{β:Type}(ob:Frag->β)(obE:β):cb->cq->Prop:=λ_ h=>∃K:Frag,K.In h/\noTabs K=true/\ob K=obE
theorem ys_of{β:Type}{ob:Frag->β}{obE:β}:∀(w:cb)(s:ag),ob (tI s.heap)=obE->Ys ob obE w s.heap:=λ_ s e=>⟨tI s.heap,wC _ _,wD _ _,e⟩
theorem ys_keeps{β:Type}{ob:Frag->β}{obE:β}:∀(w:cb)(h h':cq),Ys ob obE w h->(∀b o,h.get? b=some o->h'.get? b=some o)->Ys ob obE w h':=λ_ _ _⟨K,x,n,e⟩k=>⟨K,x.keeps k,n,e⟩
theorem z6y{β:Type}{ob:Frag->β}{obE:β}{l:OpenLaw}{n k:Nat}{q:bj}{loose:Br}{XP:(Str->Option af)->cq->Prop}{d:Au}{x:Str}(hn:l.most=some n)(hn2:n<=cp)(hdf:d.params.defaults=[])(hr:Cv k callerA)(Gf:(recsOf q).find? (λe=>e.name==d.name)=some d)(F:∀(K:Frag)(w:cb)(mg:Str->Option af)(fa:ai)(h:cq),ob K=obE->noTabs K=true->K.In h->h.Ns du mg->mg d.name=some (.ref fa)->
   ∃(fd:bq)(c P:ai),(∀(s:ag)(u:af),yh s fd ⟨[u],[]⟩ [(x,u)])/\tabIn K d.name=some (c,P)/\noTabs K=true/\
    ∀(base:cq)(a:ai)(ns:y'),ns.length<=n->K.In base->base.Ns du mg->CodeHd base c P->mI mg base->Lawful l.prog w K mg base k fa fd x [P] a ns):
  WalkO q loose XP (Ys ob obE) l.row.toRowW d [] (λf vs=>yj f vs):=by
 refine Att.attach_call hn hdf λw s₀ s₁ mg mb fa o pm cd doc a vs ns G Y ho hd hcd hmg Gx hints hlen hg=>?_;obtain⟨K,KX,hnt',hob⟩:=Y;obtain⟨fd,c,P,hb,ht,hnt,hF⟩:=F K w mg fa _ hob hnt' KX G.T.g hmg;obtain⟨hC,hP⟩:=tab_of G.T KX Gf ht;exact DG KX G.T.g G.T.b G.T.builtins G.T.nolimit hg Gx hints (df hlen hn2) hr (cps:=[(c,P)]) (by simpa using hC) (by simpa using hP) G.T.bmain hnt (λbase h1 h2 h3 h4=>hF base a ns hlen h1 h2 (h3 (c,P) (by simp)) h4) hb
theorem YZ{K:Frag}{f c:ai}{st:iq}{n:Str}{ps:Br}(h:dQ K f=some (fnOf n n (nY st) (jV st) (bJ st) .none .none .none .none none (.ref c) .none))(hc:codeIn K (.ref c) n=true)(hk:keepIn K (.ref f)=true)(hb:∀(kV doc pm:af)(an:Option ai)(cdv ct:af)(us:List af),us.length=ps.length->bindArgs (fnOf n n (nY st) (jV st) (bJ st) .none kV doc pm an cdv ct) ⟨us,[]⟩=pure (ps.zip us)):
  ∃fd:bq,Fun K n n st f fd/\Binds K fd ps []/\fd.code=.ref c/\∀us:List af,us.length=ps.length->bindArgs fd ⟨us,[]⟩=pure (ps.zip us):=by
 obtain⟨oc,od,kV,dc,pm,an,ct,sl,e⟩:=QI h;exact⟨_,IY e hc hk,(IY e hc hk).binds hb,rfl,hb kV dc pm an (.ref c) ct⟩
theorem walkK2{β:Type}{ob:Frag->β}{obE:β}{l:OpenLaw}{n k:Nat}{q:bj}{loose:Br}{XP:(Str->Option af)->cq->Prop}{d:Au}{x:Str}(nm:Str)(hn:l.most=some n)(hn2:n<=cp)(hdf:d.params.defaults=[])(hr:Cv k callerA)(Gf:∃d2:Au,(recsOf q).find? (λe=>e.name==nm)=some d2/\d2.name=nm)(F:∀(K:Frag)(w:cb)(mg:Str->Option af)(fa:ai)(h:cq),ob K=obE->noTabs K=true->K.In h->h.Ns du mg->mg d.name=some (.ref fa)->
   ∃(fd:bq)(c P:ai),(∀(s:ag)(u:af),yh s fd ⟨[u],[]⟩ [(x,u)])/\tabIn K nm=some (c,P)/\noTabs K=true/\
    ∀(base:cq)(a:ai)(ns:y'),ns.length<=n->K.In base->base.Ns du mg->CodeHd base c P->mI mg base->Lawful l.prog w K mg base k fa fd x [P] a ns):
  WalkO q loose XP (Ys ob obE) l.row.toRowW d [] (λf vs=>yj f vs):=by
 refine Att.attach_call hn hdf λw s₀ s₁ mg mb fa o pm cd doc a vs ns G Y ho hd hcd hmg Gx hints hlen hg=>?_;obtain⟨K,KX,hnt',hob⟩:=Y;obtain⟨fd,c,P,hb,ht,hnt,hF⟩:=F K w mg fa _ hob hnt' KX G.T.g hmg;obtain⟨d2,hf,hnm⟩:=Gf;have hf':(recsOf q).find? (λe=>e.name==d2.name)=some d2:=by rw[hnm];exact hf
 obtain⟨hC,hP⟩:=tab_of G.T KX hf' (by rw[hnm];exact ht);exact DG KX G.T.g G.T.b G.T.builtins G.T.nolimit hg Gx hints (df hlen hn2) hr (cps:=[(c,P)]) (by simpa using hC) (by simpa using hP) G.T.bmain hnt (λbase h1 h2 h3 h4=>hF base a ns hlen h1 h2 (h3 (c,P) (by simp)) h4) hb
def Cfg.at(G:Cfg)(q:Str):Cfg:={G with lq:=q}
section
variable{G:Cfg}{q:Str}{μ:Nat->ai}{n:Nat}{H:Hp}
mutual
theorem DH:∀(d:Dv)(v:V),Ca (G.at q) μ n H d v↔Ca G μ n H d v
 |.non,v=>by simp only[Ca]
 |.bl b,v=>by simp only[Ca]
 |.int i,v=>by simp only[Ca]
 |.str x,v=>by simp only[Ca]
 |.tup ds,v=>by
  simp only[Ca];constructor
  ·rintro ⟨a,vs,e,h1,h2⟩;exact⟨a,vs,e,h1,(pU ds vs).mp h2⟩
  ·rintro ⟨a,vs,e,h1,h2⟩;exact⟨a,vs,e,h1,(pU ds vs).mpr h2⟩
 |.ref i,v=>by simp only[Ca]
 |.edc,v=>by simp only[Ca]
 |.exc c,v=>by simp only[Ca];exact yy
 |.scr,v=>by simp only[Ca];exact yy
theorem pU:∀(ds:Bt)(vs:Ic),RelDL (G.at q) μ n H ds vs↔RelDL G μ n H ds vs
 |[],vs=>by simp only[RelDL]
 |d::ds,vs=>by
  simp only[RelDL];constructor
  ·rintro ⟨v,r,e,h1,h2⟩;exact⟨v,r,e,(DH d v).mp h1,(pU ds r).mp h2⟩
  ·rintro ⟨v,r,e,h1,h2⟩;exact⟨v,r,e,(DH d v).mpr h1,(pU ds r).mpr h2⟩
end
theorem Gs{h:Hs}:Cm (G.at q) μ h H↔Cm G μ h H:=by
 constructor
 ·intro s;refine⟨s.inj,λi o e=>?_,s.tab⟩;have r:=s.ob i o e
  cases o with
  |lst xs=>obtain⟨vs,h1,h2⟩:=r;exact⟨vs,h1,(pU xs vs).mp h2⟩
  |clo k t=>exact r
  |dct ks=>exact r
 ·intro s;refine⟨s.inj,λi o e=>?_,s.tab⟩;have r:=s.ob i o e
  cases o with
  |lst xs=>obtain⟨vs,h1,h2⟩:=r;exact⟨vs,h1,(pU xs vs).mpr h2⟩
  |clo k t=>exact r
  |dct ks=>exact r
theorem Y0{F:Bs}{vs:Ic}{Q:VK}{E:XK}(h:cW G F vs H Q E):cW (G.at q) F vs H Q E:=by
 obtain⟨μ,hs,ds,r,s,o⟩:=h;refine⟨μ,hs,ds,(pU ds vs).mpr r,Gs.mpr s,?_⟩
 cases e:F ds hs with
 |ok d h'=>rw[e]at o;exact λμ' H' v x s' r'=>o μ' H' v x (Gs.mp s') ((DH d v).mp r')
 |ex c h'=>rw[e]at o;exact λμ' H' u x s' r'=>o μ' H' u x (Gs.mp s') (let ⟨e,φ,a,b,c⟩:=r';⟨e,φ,a,b,c⟩)
 |bad=>rw[e]at o;exact o
end
theorem Y1{p:ai}{q:Str}:∀P lq,(if P=p then some q else none)=some lq->P∈[p]:=λP lq h=>by
 by_cases z:P=p
 ·simp[z]
 ·rw[if_neg z]at h;cases h
theorem z6z{β:Type}{ob:Frag->β}{obE:β}{l:OpenLaw}{n k:Nat}{q:bj}{loose:Br}{XP:(Str->Option af)->cq->Prop}{d:Au}{x:Str}(nm nm':Str)(hn:l.most=some n)(hn2:n<=cp)(hdf:d.params.defaults=[])(hr:Cv k callerA)(Gf:∃d2:Au,(recsOf q).find? (λe=>e.name==nm)=some d2/\d2.name=nm)(hfind':∃d2:Au,(recsOf q).find? (λe=>e.name==nm')=some d2/\d2.name=nm')(F:∀(K:Frag)(w:cb)(mg:Str->Option af)(fa:ai)(h:cq),ob K=obE->noTabs K=true->K.In h->h.Ns du mg->mg d.name=some (.ref fa)->
   ∃(fd:bq)(c P c' P':ai),(∀(s:ag)(u:af),yh s fd ⟨[u],[]⟩ [(x,u)])/\tabIn K nm=some (c,P)/\tabIn K nm'=some (c',P')/\noTabs K=true/\
    ∀(base:cq)(a:ai)(ns:y'),ns.length<=n->K.In base->base.Ns du mg->CodeHd base c P->CodeHd base c' P'->mI mg base->Lawful l.prog w K mg base k fa fd x [P,P'] a ns):
  WalkO q loose XP (Ys ob obE) l.row.toRowW d [] (λf vs=>yj f vs):=by
 refine Att.attach_call hn hdf λw s₀ s₁ mg mb fa o pm cd doc a vs ns G Y ho hd hcd hmg Gx hints hlen hg=>?_;obtain⟨K,KX,hnt',hob⟩:=Y;obtain⟨fd,c,P,c',P',hb,ht,ht',hnt,hF⟩:=F K w mg fa _ hob hnt' KX G.T.g hmg;obtain⟨d2,hf,hnm⟩:=Gf;obtain⟨d3,hf3,hnm3⟩:=hfind';obtain⟨hC,hP⟩:=tab_of G.T KX (by rw[hnm];exact hf:(recsOf q).find? (λe=>e.name==d2.name)=some d2) (by rw[hnm];exact ht);obtain⟨hC',hP'⟩:=tab_of G.T KX (by rw[hnm3];exact hf3:(recsOf q).find? (λe=>e.name==d3.name)=some d3) (by rw[hnm3];exact ht');refine DG KX G.T.g G.T.b G.T.builtins G.T.nolimit hg Gx hints (df hlen hn2) hr (cps:=[(c,P),(c',P')]) (λy hy=>?_) (λy hy=>?_) G.T.bmain hnt (λbase h1 h2 h3 h4=>hF base a ns hlen h1 h2 (h3 (c,P) (by simp)) (h3 (c',P') (by simp)) h4) hb
 ·rcases bc.mp hy with rfl|hy
  ·exact hC
  ·rw[cg.mp hy];exact hC'
 ·rcases bc.mp hy with rfl|hy
  ·exact hP
  ·rw[cg.mp hy];exact hP'
theorem dB{F:List (Frag->Bool)}{K:Frag}(h:F.all (λf=>f K)=true)(i:Nat){g:Frag->Prop}[∀K,Decidable (g K)](e:F[i]?=some (λK=>decide (g K)):=by rfl):g K:=dA h i e
theorem cS{K:Frag}{h:cq}{mg:Str->Option af}{n:Str}{v:af}{F:List (Frag->Bool)}(X:K.In h)(G:h.Ns du mg)(hc:F.all (λf=>f K)=true)(i:Nat)(e:F[i]?=some (λK=>decide (nsIn K du n=some (some v))):=by rfl):mg n=some v:=mg_of X G (dA hc i e)
theorem DI{env:Env}{x:Str}:∀{l:List (Str×mq)},l.lookup x=some .free->(l.map λ(n,k)=>if(k==ck&&env.scope.kind==.function&&env.kindOf n==some .cell)then(n,dy)else(n,k)).lookup x≠some .local
 |[],h=>by simp at h
 |(n,q)::r,h=>by
  rw[gi]at h;rw[cy]
  cases e:x==n with
  |true=>
   rw[e]at h;have hq:q=.free:=cn h;subst hq;dsimp only
   split
   ·rw[gi,e];simp
   ·rw[gi,e];simp
  |false=>
   rw[e]at h;dsimp only
   split
   ·rw[gi,e];exact DI h
   ·rw[gi,e];exact DI h
theorem Y2{X:Cx}{sc os:fy}{oN N:Br}{cap:List (Option Nat)}(hs:X.env.scope.names=os.names)(hN:X.N=oN)(h1:sc.kind=.function)(h2:∀p∈sc.names,p.2=.local->sc.names.lookup p.1=some .local)(h3:cap.length=N.length)(h4:∀p∈sc.names,p.2=.free->os.names.lookup p.1=some .cell∨os.names.lookup p.1=some .free)(h5:∀p∈sc.names,p.2=.free->(p.1,dy)∉sc.names)(h6:∀q∈cap.zip N,∀j∈q.1,oN[j]?=some q.2/\sc.names.lookup q.2=some .free):Df X sc N cap:=by
 refine⟨h1,h2,h3,λx hx=>?_,λx hx=>h5 _ hx rfl,λi j x e1 e2=>?_⟩
 ·have:=h4 _ hx rfl;rw[<-hs]at this;exact this
 ·have hm:(some j,x)∈cap.zip N:=cx (i:=i) (sd.mpr ⟨e1,e2⟩);obtain⟨a,b⟩:=h6 _ hm j rfl;rw[hN];refine⟨a,gb b,?_⟩;exact DI b
def jH:Dv->Dv->Hs->Rs Dv:=jA λi j=>.int (i-j)
def pV:Dv->Dv->Hs->Rs Dv:=mE xC λi j=>.int (i*j)
def iR:Dv->Dv->Hs->Rs Dv:=mE rL λi j=>.int (i%j)
def uL:Dv->Dv->Hs->Rs Dv:=mE tY λi j=>.int (i^j.toNat)
def kM:Dv->Dv->Hs->Rs Dv:=jA λi j=>.bl (decide (i<=j))
def xU:Dv->Dv->Hs->Rs Dv:=jA λi j=>.bl (decide (i>j))
def xV:Dv->Dv->Hs->Rs Dv:=jA λi j=>.bl (decide (i>=j))
section
variable{k:Nat}{a b:bp}{ma mb:M Dv}{pos:Pos}
theorem uM(ha:aK X G E a ma)(hb:aK X G E b mb):aK X G E (.BinOp a .Sub b pos) (m2 jH ma mb):=pJ SX V3 ha hb
theorem uN(ha:aK X G E a ma)(hb:aK X G E b mb):aK X G E (.BinOp a .Mult b pos) (m2 pV ma mb):=pJ SY (xB V4) ha hb
theorem pW(ha:aK X G E a ma)(hb:aK X G E b mb):aK X G E (.BinOp a .Mod b pos) (m2 iR ma mb):=pJ S0 (xB V7) ha hb
theorem LG(ha:aK X G E a ma)(hb:aK X G E b mb):aK X G E (.BinOp a .Pow b pos) (m2 uL ma mb):=pJ S1 (xB V8) ha hb
theorem Y3(ha:aK X G E a ma):aK X G E (.UnaryOp .USub a pos) (m1 DF ma):=VZ S4 YW ha
theorem rX(g:Good X G E k)(ha:aK X G E a ma)(hb:aK X G E b mb):aK X G E (.Compare a [.Eq] [b] pos) (m2 cP ma mb):=tX (JQ g.room.units) JS ha hb (kW _)
theorem LH(g:Good X G E k)(ha:aK X G E a ma)(hb:aK X G E b mb):aK X G E (.Compare a [.NotEq] [b] pos) (m2 bZ ma mb):=tX (JR g.room.units) JT ha hb (kW _)
theorem Y4(ha:aK X G E a ma)(hb:aK X G E b mb):gE X G E (.Compare a [.LtE] [b] pos) (mB (m2 kM ma mb)):=lA BF rK ha hb (kW _)
theorem Y5(ha:aK X G E a ma)(hb:aK X G E b mb):gE X G E (.Compare a [.Gt] [b] pos) (mB (m2 xU ma mb)):=lA S5 rK ha hb (kW _)
theorem Y6(ha:aK X G E a ma)(hb:aK X G E b mb):gE X G E (.Compare a [.GtE] [b] pos) (mB (m2 xV ma mb)):=lA S6 rK ha hb (kW _)
theorem oO(g:Good X G E k)(ha:aK X G E a ma)(hb:aK X G E b mb):gE X G E (.Compare a [.Eq] [b] pos) (mB (m2 cP ma mb)):=lA (JQ g.room.units) JS ha hb (kW _)
theorem kN(g:Good X G E k)(ha:aK X G E a ma)(hb:aK X G E b mb):gE X G E (.Compare a [.NotEq] [b] pos) (mB (m2 bZ ma mb)):=lA (JR g.room.units) JT ha hb (kW _)
variable{c:bp}{mc:M Dv}
theorem Y7(ha:aK X G E a ma)(hb:aK X G E b mb)(hc:aK X G E c mc)(hm:lastMarks [.LtE,.LtE] [b,c]=false:=by with_unfolding_all rfl):aK X G E (.Compare a [.LtE,.LtE] [b,c] pos) (rH kM kM ma mb mc):=VY BF BF rK rK ha hb hc hm
end
def pX:Ty->Option Bool
 |.bl=>some true|.int=>some true|.exc _=>none|_=>some false
def lJ:Ty->Option Bool
 |.bl=>some true|.exc _=>none|_=>some false
def gR:Ty->Option Bool
 |.tup=>some true|.exc _=>none|_=>some false
def mM:Ty->Option Bool
 |.lst=>some true|.exc _=>none|_=>some false
def rY:Ty->Option Bool
 |.tup=>some true|.lst=>some true|.exc _=>none|_=>some false
section
variable{K:ar}{cl:Nat->ai}
theorem Y8:∀ty bb,pX ty=some bb->de K (mH cl ty) (.type "int")=some bb:=by intro ty bb h;cases ty<;>first|(cases h;rfl)|cases h
theorem Y9:∀ty bb,lJ ty=some bb->de K (mH cl ty) (.type "bool")=some bb:=by intro ty bb h;cases ty<;>first|(cases h;rfl)|cases h
theorem ZA:∀ty bb,gR ty=some bb->de K (mH cl ty) (.type "tuple")=some bb:=by intro ty bb h;cases ty<;>first|(cases h;rfl)|cases h
theorem ZC:∀ty bb,mM ty=some bb->de K (mH cl ty) (.type "list")=some bb:=by intro ty bb h;cases ty<;>first|(cases h;rfl)|cases h
theorem ZD:∀ty bb,rY ty=some bb->PySem.W.kitAny K (mH cl ty) [.type "tuple",.type "list"]=some bb:=by intro ty bb h;cases ty<;>first|(cases h;rfl)|cases h
end
theorem ZE:dk "int"=some (.type "int"):=by decide+kernel
theorem ZF:dk "bool"=some (.type "bool"):=by decide+kernel
theorem ZG:dk "ValueError"=some (.type "ValueError"):=by decide+kernel
def eR(nn:Option Bool)(tbl:List (Nat×Bool)):Ty->Option Bool
 |.exc c=>tbl.lookup c
 |.non=>nn
 |_=>none
section
variable{a:bp}{ma:M Dv}{p q r pos:Pos}
theorem LI(hg:Gl X "isinstance")(hm:X.mg "isinstance"=none)(Fq:Gl X "int")(Fw:X.mg "int"=none)(ha:aK X G E a ma)(he:aq [a,.Name "int" q] X.env=[(false,eval a X.env),(false,eval (.Name "int" q) X.env)]:=by rfl):
  aK X G E (.Call (.Name "isinstance" p) [a,.Name "int" q] [] pos) (m1 (bO pX) ma):=rR hg hm ha (pS Fq Fw ZE) (.inl ⟨_,rfl⟩) rfl Y8 (λc bb h=>by cases h) he
theorem xW(hg:Gl X "isinstance")(hm:X.mg "isinstance"=none)(Fq:Gl X "bool")(Fw:X.mg "bool"=none)(ha:aK X G E a ma)(he:aq [a,.Name "bool" q] X.env=[(false,eval a X.env),(false,eval (.Name "bool" q) X.env)]:=by rfl):
  aK X G E (.Call (.Name "isinstance" p) [a,.Name "bool" q] [] pos) (m1 (bO lJ) ma):=rR hg hm ha (pS Fq Fw ZF) (.inl ⟨_,rfl⟩) rfl Y9 (λc bb h=>by cases h) he
theorem pY(hg:Gl X "isinstance")(hm:X.mg "isinstance"=none)(Fq:Gl X "tuple")(Fw:X.mg "tuple"=none)(ha:aK X G E a ma)(he:aq [a,.Name "tuple" q] X.env=[(false,eval a X.env),(false,eval (.Name "tuple" q) X.env)]:=by rfl):
  aK X G E (.Call (.Name "isinstance" p) [a,.Name "tuple" q] [] pos) (m1 (bO gR) ma):=rR hg hm ha (pS Fq Fw xD) (.inl ⟨_,rfl⟩) rfl ZA (λc bb h=>by cases h) he
theorem DJ(hg:Gl X "isinstance")(hm:X.mg "isinstance"=none)(Fq:Gl X "list")(Fw:X.mg "list"=none)(ha:aK X G E a ma)(he:aq [a,.Name "list" q] X.env=[(false,eval a X.env),(false,eval (.Name "list" q) X.env)]:=by rfl):
  aK X G E (.Call (.Name "isinstance" p) [a,.Name "list" q] [] pos) (m1 (bO mM) ma):=rR hg hm ha (pS Fq Fw xE) (.inl ⟨_,rfl⟩) rfl ZC (λc bb h=>by cases h) he
theorem ZH:∀us',Cc [.ty "tuple",.ty "list"] us'->us'=[.type "tuple",.type "list"]:=by
 intro us' h
 cases h with
 |cons r rr=>
  cases rr with
  |cons r' rr=>
   cases rr
   cases r;cases r'
   rfl
theorem ZI{kt:Nat}{p':Pos}(hg:Gl X "isinstance")(hm:X.mg "isinstance"=none)(Fq:Gl X "tuple")(Fw:X.mg "tuple"=none)(hg'':Gl X "list")(hm'':X.mg "list"=none)(ha:aK X G E a ma)(he:aq [a,.Tuple [.Name "tuple" q,.Name "list" r] kt p] X.env=[(false,eval a X.env),(false,eval (.Tuple [.Name "tuple" q,.Name "list" r] kt p) X.env)]:=by rfl):
  aK X G E (.Call (.Name "isinstance" p') [a,.Tuple [.Name "tuple" q,.Name "list" r] kt p] [] pos) (m1 (bO rY) ma):=
 XE (cs:=[.ty "tuple",.ty "list"]) hg hm ha (iJ (pS Fq Fw xD) (iJ (pS hg'' hm'' xE) jU)) (by decide) ZH ZD (λc bb h=>by cases h) he
theorem jP{x:Str}{C:ai}{nn:Option Bool}{tbl:List (Nat×Bool)}(hg:Gl X "isinstance")(hm:X.mg "isinstance"=none)(Fq:Gl X x)(Fw:X.mg x=some (.ref C))(ha:aK X G E a ma)(hn:∀b,nn=some b->de G.K (.type "NoneType") (.ref C)=some b)(ht:∀c b,tbl.lookup c=some b->de G.K (.ref (G.cl c)) (.ref C)=some b/\Ef G.K (G.cl c))(hd:(x==Ib)=false:=by decide)(he:aq [a,.Name x q] X.env=[(false,eval a X.env),(false,eval (.Name x q) X.env)]:=by rfl)(Ew:aq [.Name x q] X.env=[(false,eval (.Name x q) X.env)]:=by rfl):
  aK X G E (.Call (.Name "isinstance" p) [a,.Name x q] [] pos) (m1 (bO (eR nn tbl)) ma):=
 rR hg hm ha (HF (v:=.ref C) Fq Fw rfl hd) (.inr ⟨_,rfl⟩) rfl (λty bb h=>by
  cases ty with
  |exc c=>exact(ht c bb h).1
  |non=>exact hn bb h
  |_=>cases h) (λc bb h=>(ht c bb h).2) he Ew
theorem ZJ{nn:Option Bool}{tbl:List (Nat×Bool)}(hg:Gl X "isinstance")(hm:X.mg "isinstance"=none)(Fq:Gl X "ValueError")(Fw:X.mg "ValueError"=none)(ha:aK X G E a ma)(hn:∀b,nn=some b->de G.K (.type "NoneType") (.type "ValueError")=some b)(ht:∀c b,tbl.lookup c=some b->de G.K (.ref (G.cl c)) (.type "ValueError")=some b/\Ef G.K (G.cl c))(he:aq [a,.Name "ValueError" q] X.env=[(false,eval a X.env),(false,eval (.Name "ValueError" q) X.env)]:=by rfl):
  aK X G E (.Call (.Name "isinstance" p) [a,.Name "ValueError" q] [] pos) (m1 (bO (eR nn tbl)) ma):=
 rR hg hm ha (pS Fq Fw ZG) (.inl ⟨_,rfl⟩) rfl (λty bb h=>by
  cases ty with
  |exc c=>exact(ht c bb h).1
  |non=>exact hn bb h
  |_=>cases h) (λc bb h=>(ht c bb h).2) he
end
section
variable{P:bj}{w:cb}{K:ar}{mg:Str->Option af}{base:cq}{f:ai}{G:Cfg}{k:Nat}{N:Br}
theorem ZK{x qual:Str}{st:iq}{fd:bq}{ps:Br}{mb:MS}(Fn:Fun K x qual st f fd)(S:Cb N ps (bJ st))(hK:K=G.K)(Cz:∀(cdv:af)(A:bx)(outer:List Env)(s:ag)(H:Hp)(E₀ E:XK),fd.code=cdv->Good (gU (cA P w base) P w K mg base N qual (bJ st) f cdv A outer s H E₀) G E k->jY (gU (cA P w base) P w K mg base N qual (bJ st) f cdv A outer s H E₀) G E (jV st) mb):
  Cg P w K mg base (cA P w base) (k+1) f fd ps (cW G (bM ps.length N.length mb)):=by
 obtain⟨oc,od,kV,doc,pm,an,cdv,ct,osl,rfl,lk,hcd⟩:=Fn.ex;have hlen:∀vs H Q E,cW G (bM ps.length N.length mb) vs H Q E->vs.length=ps.length:=λvs H Q E⟨μ,h,ds,r,sm,o⟩=>by
  rw[r.length];unfold bM at o
  by_cases hd:ds.length=ps.length
  ·exact hd
  ·rw[if_neg hd]at o;exact o.elim
 refine BH lk hcd S hlen λA outer s H vs Q E hr hsp=>?_;have hl:=hlen _ _ _ _ hsp;obtain⟨μ,h,ds,r,sm,o⟩:=hsp;have o':Out G E μ h.length H (bV (mb (cN N.length ds) h)) (Ca G) Q:=by unfold bM at o;rw[if_pos (by rw[<-r.length];exact hl)]at o;exact o
 refine⟨_,Cz cdv A outer s H E (EB G μ h.length H (mb (cN N.length ds) h)) rfl (CQ hr hK (λu H'⟨c,h',μ',er,x,s',fl⟩=>?_) CS) hK,?_⟩
 ·rw[er]at o';exact o' μ' H' u x s' fl
 ·refine⟨μ,cN N.length ds,h,J9 r N,sm,?_⟩
  cases q:mb (cN N.length ds) h with
  |bad=>rw[q]at o';exact o'.elim
  |bk ρ h'=>rw[q]at o';exact o'.elim
  |ct ρ h'=>rw[q]at o';exact o'.elim
  |rt d h'=>rw[q]at o';exact o'
  |nx ρ h'=>rw[q]at o';exact λμ' H' σ' x' s' rs'=>o' μ' H' .non x' s' rfl
  |ex c h'=>exact λμ' H' u x' s' fl=>⟨c,h',μ',rfl,x',s',fl⟩
theorem ZL{fd:bq}{ps:Br}:Cg P w K mg base (cA P w base) k f fd ps (cW G (λ_ _=>.bad)):=⟨λvs H Q E⟨_,_,_,_,_,o⟩=>o.elim,λ_ _ _ _ _ _ _ _ _ _ _ _ _⟨_,_,_,_,_,o⟩=>o.elim⟩
end
def eF:Dv->Bool
 |.scr=>false
 |_=>true
def aQ(x y:Dv)(h:Hs):Rs Dv:=if eF x=true then eV [] x y h else .bad
def cU(x:Dv)(h:Hs):Rs Dv:=if eF x=true then gX [] x h else .bad
def lK(x:Dv)(h:Hs):Rs Dv:=if eF x=true then tZ [] x h else .bad
def dX(neg:Bool)(x y:Dv)(h:Hs):Rs Dv:=if eF y=true then mK [] neg x y h else .bad
theorem DK{scr:y'}{x:Dv}{h:Hs}(e:eF x=true):gH [] x h=gH scr x h:=by cases x<;>first|rfl|cases e
section
variable{k:Nat}{a b e:bp}{es:List bp}{ma mb:M Dv}{aX:M Bt}{p pos:Pos}
theorem ZM:fY G (BL G.K) aQ:=by
 intro E μ h H x y vx vy Q s rx ry o;unfold aQ at o
 split at o
 ·rename_i hx;refine JU E μ h H x y vx vy Q s rx ry ?_;have e:eV G.scr x y h=eV [] x y h:=by cases x<;>cases y<;>first|rfl|exact absurd hx (by decide)
  rw[e];exact o
 ·exact o.elim
theorem ZN:lB G (JX G.K) cU:=by
 intro E μ h H x vx Q s rx o;unfold cU at o
 split at o
 ·rename_i hx;refine JY E μ h H x vx Q s rx ?_;unfold gX at o⊢;rw[<-DK hx];exact o
 ·exact o.elim
theorem ZO:lB G (λx H Q=>∃p ys,x=.ref p/\(Dj G.K H p ys∨Ct G.K H p ys)/\∀l,H l=none->Q (.ref l) (aV H l (.lst ys))) lK:=by
 intro E μ h H x vx Q s rx o;unfold lK at o
 split at o
 ·rename_i hx;refine WJ E μ h H x vx Q s rx ?_;unfold tZ at o⊢;rw[<-DK hx];exact o
 ·exact o.elim
theorem xX(neg:Bool):fY G (xQ G.K neg) (dX neg):=by
 intro E μ h H x y vx vy Q s rx ry o;unfold dX at o
 split at o
 ·rename_i hx;refine YI neg E μ h H x y vx vy Q s rx ry ?_;unfold mK at o⊢;rw[<-DK hx];exact o
 ·exact o.elim
theorem cI(ha:aK X G E a ma)(hb:aK X G E b mb)(hs:wO b:=by intro _ _;rfl):aK X G E (.Subscript a b pos) (m2 aQ ma mb):=λhK=>Hj (BK (by have:=IM (X:=X);rw[hK]at this;exact this) (ha hK) (hb hK) hs) λ_ _ _ t=>rG ZM t
theorem kA(hg:Gl X "len")(hm:X.mg "len"=none)(ha:eO X G E (e::es) aX)(he:aq (e::es) X.env=(false,eval e X.env)::aq es X.env:=by rfl)(Dp:(backTo pos (aq es X.env)).any (·.1)=false:=by rfl):aK X G E (.Call (.Name "len" p) (e::es) [] pos) (aH (f1 cU) aX):=λhK=>
 pO (Cf.imp (IP (X:=X)) λxs H Q⟨v,h1,a,ys,h2,h3,h4⟩=>⟨a,ys,by rw[h1,h2],by rw[hK];exact h3,h4⟩) (pP ZN) hg hm PySem.boot_len ha (by decide) (by decide) he Dp hK
theorem LJ(hg:Gl X "list")(hm:X.mg "list"=none)(ha:eO X G E (e::es) aX)(he:aq (e::es) X.env=(false,eval e X.env)::aq es X.env:=by rfl)(Dp:(backTo pos (aq es X.env)).any (·.1)=false:=by rfl):aK X G E (.Call (.Name "list" p) (e::es) [] pos) (aH (f1 lK) aX):=λhK=>
 JW (Cf.imp (UX (X:=X)) λxs H Q⟨v,h1,a,ys,h2,h3,h4⟩=>⟨a,ys,by rw[h1,h2],by rw[hK];exact h3,h4⟩) (pP ZO) hg hm xE ha (by decide) (by decide) he Dp hK
end
theorem ZP(h l:Hs)(k:Nat):getL (h++l) (h.length+k)=getL l k:=by unfold getL;rw[gj (by lia),show h.length+k-h.length=k by lia]
theorem ZQ(h l:Hs):getL (h++l) h.length=getL l 0:=ZP h l 0
def hW:Dv->Option Int
 |.int i=>some i
 |_=>none
theorem pZ{G:Cfg}{μ:Nat->ai}{n:Nat}{H:Hp}:∀{xs:Bt}{vs:Ic}{ns:y'},RelDL G μ n H xs vs->cD hW xs=some ns->vs=ns.map Hi
 |[],_,ns,r,e=>by cases e;rw[RelDL]at r;subst r;rfl
 |x::xs,_,ns,r,e=>by
  rw[RelDL]at r;obtain⟨v,rr,rfl,r1,r2⟩:=r;unfold cD at e
  cases x with
  |int i=>
   dsimp only[hW]at e
   cases q:cD hW xs with
   |none=>rw[q]at e;cases e
   |some zs=>rw[q]at e;cases e;rw[Ca]at r1;subst r1;rw[pZ r2 q];rfl
  |_=>cases e
theorem LK(ns:y'):∀k,k<=ns.length->preSum (λi=>ns.getD i 0) k=(ns.take k).sum
 |0,_=>by simp[preSum]
 |k+1,h=>by
  rw[preSum,LK ns k (by lia),List.take_succ,List.sum_append];have:k<ns.length:=by lia
  simp[pw,this]
section
variable{e a b:bp}{es:List bp}{ma mb:M Dv}{aX:M Bt}{p pos:Pos}
theorem LL{ns:y'}{its:List af}(rv:Cc (ns.map Hi) its){i:Nat}{v:af}(e:its.toArray[i]?=some v):∃t,v=.int (ns.getD i 0) t:=by
 have hl:=rv.length;rw[bf]at hl;have e':its[i]?=some v:=by simpa using e
 have hi:i<its.length:=(ba.mp e').1;have hb:i<ns.length:=by lia
 obtain⟨u,e2,r⟩:=rv.get (i:=i) (x:=Hi ns[i]) (by simp[hb]);rw[e']at e2;cases e2;have hg:ns.getD i 0=ns[i]:=by simp[pw,hb]
 rw[hg];exact r
theorem ZR(hc:X.calm=true):Cf X (.builtin "sum") (λxs H Q=>∃(p:ai)(ns:y'),xs=[.ref p]/\H p=some (.lst (ns.map Hi))/\Q (.int ns.sum) H):=by
 intro pins s σ H xs us Q I rv ⟨p,ns,e,hp,q⟩;subst e;obtain⟨u,rfl,ru⟩:=iW rv;cases ru;obtain⟨its,rits,pl,hz⟩:=I.list (Hr hp);have hn:its.toArray.size=ns.length:=by have:=rits.length;simp at this⊢;lia
 have lp:=I.hok.lt hp;have ne:p≠s.heap.objs.size:=ay lp;refine call_sum_walkG (nu pl.isList ⟨_,_,_,_,_,_,λi=>ns.getD i 0,rfl,vz (A:=X.A.in1) (show X.A.in1.handled=none from I.ok.hd hc) _ p ne its.toArray,⟨⟨_,aw _ rfl,rfl,rfl⟩,pl.isList.push _⟩,λb hb=>?_,λi v ev=>LL rits ev,λh' tk t' k=>?_⟩)
 ·simp only[fw];simp at hb
  rcases hb with rfl|rfl
  ·exact lg _
  ·exact ji lp
 ·rw[hn,LK ns _ (ao _),xi];exact⟨.int ns.sum,H,(CV (tk:=tk) I k:Inv X pins σ H {s with heap:=h',toks:=tk}),⟨t',rfl⟩,q⟩
def nB(x:Dv)(h:Hs):Rs Dv:=match x with
 |.ref i=>match getL h i with
  |some xs=>match cD hW xs with
   |some ns=>.ok (.int ns.sum) h
   |none=>.bad
  |none=>.bad
 |_=>.bad
theorem ZS:lB G (λx H Q=>∃(p:ai)(ns:y'),x=.ref p/\H p=some (.lst (ns.map Hi))/\Q (.int ns.sum) H) nB:=by
 intro E μ h H x vx Q s r o
 cases x with
 |ref i=>
  dsimp only[nB]at o
  cases q:getL h i with
  |none=>rw[q]at o;exact o.elim
  |some xs=>
   rw[q]at o;dsimp only at o
   cases q2:cD hW xs with
   |none=>rw[q2]at o;exact o.elim
   |some ns=>rw[q2]at o;obtain⟨vs,e1,r1⟩:=s.ob i _ (fG q);obtain⟨_,rfl⟩:=r;exact⟨_,ns,rfl,by rw[e1,pZ r1 q2],o.val s rfl⟩
 |_=>exact o.elim
theorem ZT:dk "sum"=some (.builtin "sum"):=by decide+kernel
theorem ZU(hc:X.calm=true)(hg:Gl X "sum")(hm:X.mg "sum"=none)(ha:eO X G E (e::es) aX)(he:aq (e::es) X.env=(false,eval e X.env)::aq es X.env:=by rfl)(Dp:(backTo pos (aq es X.env)).any (·.1)=false:=by rfl):aK X G E (.Call (.Name "sum" p) (e::es) [] pos) (aH (f1 nB) aX):=
 pO (Cf.imp (ZR hc) λxs H Q⟨v,h1,a,ns,h2,h3,h4⟩=>⟨a,ns,by rw[h1,h2],h3,h4⟩) (pP ZS) hg hm ZT ha (by decide) (by decide) he Dp
def rZ:Dv->Dv->Hs->Rs Dv
 |.ref i,.int k,h=>match getL h i with
  |some xs=>if(jW k&&decide (k<9223372036854775808)&&decide (-9223372036854775808<=k)&&decide (xs.length*k.toNat<=1000000))=true then .ok (.ref h.length) (h++[.lst (bu k.toNat xs).flatten])else .bad
  |none=>.bad
 |_,_,_=>.bad
theorem RelDL.rep{μ:Nat->ai}{n:Nat}{H:Hp}{ds:Bt}{vs:Ic}(r:RelDL G μ n H ds vs):∀k:Nat,RelDL G μ n H (bu k ds).flatten (bu k vs).flatten
 |0=>Hn
 |k+1=>by rw[jb,jb,jv,jv];exact r.append (RelDL.rep r k)
theorem ZV:fY G IX rZ:=by
 intro E μ h H x y vx vy Q s rx ry o
 cases x with
 |ref i=>
  cases y with
  |int k=>
   dsimp only[rZ]at o
   cases q:getL h i with
   |none=>rw[q]at o;exact o.elim
   |some xs=>
    rw[q]at o;dsimp only at o
    split at o
    ·rename_i hb;simp only[fg,decide_eq_true_eq]at hb;obtain⟨⟨⟨_,h1⟩,h2⟩,h3⟩:=hb;obtain⟨vs,e1,r1⟩:=s.ob i _ (fG q);obtain⟨_,rfl⟩:=rx;rw[Ca]at ry;subst ry;refine⟨_,k,vs,rfl,rfl,e1,by lia,by lia,by rw[r1.length];exact df h3 (by decide),λp hp=>?_⟩;exact lZ s (r1.rep k.toNat) hp o
    ·exact o.elim
  |_=>exact o.elim
 |_=>cases y<;>exact o.elim
theorem ZW(ha:aK X G E a ma)(hb:aK X G E b mb):aK X G E (.BinOp a .Mult b pos) (m2 rZ ma mb):=pJ VF ZV ha hb
end
def qA(x:Int):y'->y'
 |[]=>[x]
 |y::ys=>if x<=y then x::y::ys else y::qA x ys
def iF:y'->y'
 |[]=>[]
 |x::xs=>qA x (iF xs)
theorem ins_perm(x:Int):∀ys,(qA x ys).Perm (x::ys)
 |[]=>xc _
 |y::ys=>by
  unfold qA
  split
  ·exact xc _
  ·exact((ins_perm x ys).cons y).trans (Bm x y ys)
theorem DL:∀xs,(iF xs).Perm xs
 |[]=>xc _
 |x::xs=>(ins_perm x (iF xs)).trans ((DL xs).cons x)
theorem LM(x:Int):∀ys,ys.Pairwise (·<=·)->(qA x ys).Pairwise (·<=·)
 |[],_=>by simp[qA]
 |y::ys,h=>by
  have h1:=dz.mp h;unfold qA
  split
  ·rename_i hxy;refine dz.mpr ⟨λz hz=>?_,h⟩
   rcases bc.mp hz with rfl|hz
   ·exact hxy
   ·exact Int.le_trans hxy (h1.1 z hz)
  ·rename_i hxy;refine dz.mpr ⟨λz hz=>?_,LM x ys h1.2⟩
   rcases bc.mp ((ins_perm x ys).subset hz)with rfl|hz
   ·lia
   ·exact h1.1 z hz
theorem LN:∀xs,(iF xs).Pairwise (·<=·)
 |[]=>uk
 |x::xs=>LM x _ (LN xs)
theorem xY{ms ns:y'}(hp:ms.Perm ns)(hs:ms.Pairwise (·<=·)):ms=iF ns:=List.Perm.eq_of_pairwise (le:=(·<=·)) (λa b _ _ h1 h2=>Int.le_antisymm h1 h2) hs (LN ns) (hp.trans (DL ns).symm)
theorem LO(xs:y'):(iF xs).length=xs.length:=(DL xs).length_eq
section
variable{e a b:bp}{es:List bp}{ma mb:M Dv}{aX:M Bt}{p pos:Pos}
theorem LP:∀{vs:List af}{ns:y'},Cc (ns.map Hi) vs->mn vs ns
 |[],[],_=>.nil
 |[],n::ns,h=>by cases h
 |v::vs,[],h=>by cases h
 |v::vs,n::ns,h=>by
  cases h with
  |cons h1 h2=>obtain⟨t,rfl⟩:=h1;exact .cons _ _ (LP h2)
theorem pG:∀{vs:List af}{ns:y'},mn vs ns->Cc (ns.map Hi) vs
 |_,_,.nil=>.nil
 |_,_,.cons _ _ h=>.cons ⟨_,rfl⟩ (pG h)
theorem xZ:dk "sorted"=some (.builtin "sorted"):=by decide+kernel
end
section
variable{e o a b:bp}{es:List bp}{ma mb mo me:M Dv}{aX:M Bt}{p pos np apos cpos:Pos}{y:Str}
def DM(_ j:Int):Prop:=0<j/\j<18446744073709551616
theorem ZX:Cw X (binaryOp .FloorDiv) (rI DM λi j=>.int (i/j)):=wK λi j _ _ _ _ _ hc q=>by
 have h1:(0:Int)<j:=hc.1;have h2:j<18446744073709551616:=hc.2;refine floordiv_int (by lia) (by rw[Int.fdiv_eq_ediv_of_nonneg i (by lia)];exact q) (.inl (PyProof.noPylong_of_log2 ?_));have h3:j.natAbs≠0:=by lia
 have h4:j.natAbs<2^64:=by lia
 have:=(Nat.log2_lt h3).mpr h4
 lia
def uO(_ j:Int):Bool:=decide (0<j)&&decide (j<18446744073709551616)
theorem ZY(i j:Int)(h:uO i j=true):DM i j:=by unfold uO at h;unfold DM;simpa only[fg,decide_eq_true_eq]using h
def uP:Dv->Dv->Hs->Rs Dv:=mE uO λi j=>.int (i/j)
theorem LQ(ha:aK X G E a ma)(hb:aK X G E b mb):aK X G E (.BinOp a .FloorDiv b pos) (m2 uP ma mb):=pJ ZX (xB ZY) ha hb
def LR(K:ar):R2:=λx y H Q=>∃a b ys,x=.ref a/\y=.ref b/\Ct K H a []/\Ct K H b ys/\Q (.ref b) H
theorem op_catT0:Cw X (binaryOp .Add) (LR X.K):=by
 intro pins s σ H x y v u Q I rx ry ⟨a,b,ys,e1,e2,ha,hb,q⟩;subst e1;subst e2;cases rx;cases ry;obtain⟨its,r1,p1,_⟩:=I.tuple ha;obtain⟨El,r2,p2,_⟩:=I.tuple hb;have hn:its=[]:=r1.nil_iff.mpr rfl;subst hn;obtain⟨⟨cls,dd,data,sl⟩,ho,hc,n,hd⟩:=p1;obtain⟨⟨cls2,dd2,data2,sl2⟩,Fv,hc2,n2,hd2⟩:=p2;simp only at hc hd hc2 hd2;subst hc hd hc2 hd2;exact concat_meets ⟨_,ho,rfl⟩ ⟨_,Fv,rfl⟩ zh Bk tm sh (rj _ _)
  (tuple_addW0 a b _ _ n n2 dd dd2 sl sl2 rfl) ⟨ho,Fv,⟨.ref b,H,I,rfl,q⟩⟩
def cV(x y:Dv)(h:Hs):Rs Dv:=match x,y with
 |.tup [],.tup ys=>.ok (.tup ys) h
 |x,y=>mY x y h
theorem ZZ:fY G (λx y H Q=>LR G.K x y H Q∨CC G.K x y H Q) cV:=by
 intro E μ h H x y vx vy Q s rx ry o;unfold cV at o
 split at o
 ·rename_i ys;obtain⟨a,vs,rfl,ea,ra⟩:=rx;obtain⟨b,ws,rfl,eb,rb⟩:=id ry;have:vs=[]:=by rw[RelDL]at ra;exact ra
  subst this;exact .inl ⟨a,b,ws,rfl,rfl,Hk ea,Hk eb,o.val s ry⟩
 ·exact .inr (WA E μ h H _ _ vx vy Q s rx ry o)
theorem jQ(ha:aK X G E a ma)(hb:aK X G E b mb):aK X G E (.BinOp a .Add b pos) (m2 cV ma mb):=λhK=>pJ (op_catT0.or V9) (by rw[hK];exact ZZ) ha hb hK
def uQ(k:Int):y'->Option Nat
 |[]=>none
 |n::ns=>if n=k then some 0 else(uQ k ns).map (·+1)
end
section
variable{k:Nat}{a b:bp}{ma mb mo:M Dv}{pos:Pos}
theorem DN(g:Good X G E k)(ha:aK X G E a ma)(hb:aK X G E b mb)(hm:lastMarks [.In] [b]=false:=by with_unfolding_all rfl):aK X G E (.Compare a [.In] [b] pos) (m2 (dX false) ma mb):=λhK=>tX (K5 g.room.units) (by rw[hK];exact xX false) ha hb hm hK
theorem LU(g:Good X G E k)(ha:aK X G E a ma)(hb:aK X G E b mb)(hm:lastMarks [.NotIn] [b]=false:=by with_unfolding_all rfl):aK X G E (.Compare a [.NotIn] [b] pos) (m2 (dX true) ma mb):=λhK=>tX (K6 g.room.units) (by rw[hK];exact xX true) ha hb hm hK
theorem yA(g:Good X G E k)(ha:aK X G E a ma)(hb:aK X G E b mb)(hm:lastMarks [.In] [b]=false:=by with_unfolding_all rfl):gE X G E (.Compare a [.In] [b] pos) (mB (m2 (dX false) ma mb)):=λhK=>lA (K5 g.room.units) (by rw[hK];exact xX false) ha hb hm hK
theorem LV(g:Good X G E k)(ha:aK X G E a ma)(hb:aK X G E b mb)(hm:lastMarks [.NotIn] [b]=false:=by with_unfolding_all rfl):gE X G E (.Compare a [.NotIn] [b] pos) (mB (m2 (dX true) ma mb)):=λhK=>lA (K6 g.room.units) (by rw[hK];exact xX true) ha hb hm hK
theorem DO(ha:aK X G E a ma)(hb:aK X G E b mb):gE X G E (.Compare a [.Is] [b] pos) (mB (m2 (iP false) ma mb)):=lA YL (K9 false) ha hb (kW _)
theorem Z0(ha:aK X G E a ma)(hb:aK X G E b mb):gE X G E (.Compare a [.IsNot] [b] pos) (mB (m2 (iP true) ma mb)):=lA YM (K9 true) ha hb (kW _)
end
theorem lL{H:Hs}{n:Nat}{xs ys:Bt}(e:getL H n=some xs):getL (H.set n (.lst ys)) n=some ys:=by have h:=(ba.mp (fG e)).1;unfold getL;rw[dv h]
theorem LW{H:Hs}{n j:Nat}{o:Ob}(h:n≠j):getL (H.set n o) j=getL H j:=by unfold getL;rw[da h]
theorem qB{H:Hs}{n:Nat}{xs:Bt}(e:getL H n=some xs):n<H.length:=(ba.mp (fG e)).1
theorem fL{H l:Hs}{n:Nat}{xs:Bt}(e:getL H n=some xs):getL (H++l) n=some xs:=by unfold getL;rw[ed (qB e),fG e]
structure Fr(S:A')(H H':Hs):Prop where
 le:H.length<=H'.length
 at_:∀j,j<H.length->j∉S->H'[j]?=H[j]?
theorem Fr.refl{S:A'}{H:Hs}:Fr S H H:=⟨ao _,λ_ _ _=>rfl⟩
theorem Fr.trans{S T:A'}{H H1 H2:Hs}(a:Fr S H H1)(b:Fr T H1 H2)(h:∀j∈T,j∈S∨H.length<=j):Fr S H H2:=⟨df a.le b.le,λj hj hS=>(b.at_ j (av hj a.le) λz=>(h j z).elim hS λw=>absurd (av hj w) (iu _)).trans (a.at_ j hj hS)⟩
theorem Fr.app{S:A'}{H l:Hs}:Fr S H (H++l):=⟨by simp,λj hj _=>ed hj⟩
theorem Fr.set{H:Hs}{n:Nat}{o:Ob}:Fr [n] H (H.set n o):=⟨by simp,λj hj hS=>da (by simpa using dg (by simpa using hS))⟩
theorem Fr.getL{S:A'}{H H':Hs}{j:Nat}{xs:Bt}(a:Fr S H H')(e:getL H j=some xs)(h:j∉S):getL H' j=some xs:=by unfold L2.Mr.getL at e⊢;rw[a.at_ j (qB e) h];exact e
theorem Fr.mono{S T:A'}{H H':Hs}(a:Fr S H H')(h:∀j∈S,j∈T):Fr T H H':=⟨a.le,λj hj hT=>a.at_ j hj λz=>hT (h j z)⟩
theorem bT{m u:MS}{ρ ρ1:Ev}{h h1:Hs}(e:m ρ h=.nx ρ1 h1):aL m u ρ h=u ρ1 h1:=by unfold aL;rw[e]
theorem sC{mi:M Src}{st:eB}{b:MS}{ρ:Ev}{h h1:Hs}{src:Src}(e:mi ρ h=.ok src h1):dC mi st b ρ h=fS src st b src.n 0 ρ h1:=by unfold dC;rw[e];rfl
theorem nE{c:M Bool}{t u:MS}{ρ:Ev}{h h1:Hs}(e:c ρ h=.ok true h1):bF c t u ρ h=t ρ h1:=by unfold bF;rw[e];rfl
theorem fW{c:M Bool}{t u:MS}{ρ:Ev}{h h1:Hs}(e:c ρ h=.ok false h1):bF c t u ρ h=u ρ h1:=by unfold bF;rw[e];rfl
theorem uR{src:Src}{sg:eB}{b:MS}{f k:Nat}{ρ ρ1 ρ2:Ev}{H H2:Hs}{d:Dv}(hg:src.get k H=some d)(hs:sg d ρ=some ρ1)(hb:b ρ1 H=.nx ρ2 H2):fS src sg b (f+1) k ρ H=fS src sg b f (k+1) ρ2 H2:=by simp[fS,hg,hs,hb]
theorem LX{src:Src}{sg:eB}{b:MS}(P:Nat->Ev->Hs->Prop)(step:∀k ρ H,k<src.n->P k ρ H->∃d ρ1 ρ2 H2,src.get k H=some d/\sg d ρ=some ρ1/\b ρ1 H=.nx ρ2 H2/\P (k+1) ρ2 H2)(fin:∀ρ H,P src.n ρ H->src.fin H=true):∀(f k:Nat)(ρ:Ev)(H:Hs),f+k=src.n->P k ρ H->∃ρ' H',fS src sg b f k ρ H=.nx ρ' H'/\P src.n ρ' H'
 |0,k,ρ,H,h,p=>by
  have hk:k=src.n:=by lia
  subst hk;exact⟨ρ,H,by simp[fS,fin ρ H p],p⟩
 |f+1,k,ρ,H,h,p=>by obtain⟨d,ρ1,ρ2,H2,e1,e2,e3,p2⟩:=step k ρ H (by lia) p;rw[uR e1 e2 e3];exact LX P step fin f (k+1) ρ2 H2 (by lia) p2
theorem mO{mi:M Src}{src:Src}{sg:eB}{b:MS}{ρ:Ev}{H H1:Hs}(hi:mi ρ H=.ok src H1)(P:Nat->Ev->Hs->Prop)(step:∀k ρ H,k<src.n->P k ρ H->∃d ρ1 ρ2 H2,src.get k H=some d/\sg d ρ=some ρ1/\b ρ1 H=.nx ρ2 H2/\P (k+1) ρ2 H2)(fin:∀ρ H,P src.n ρ H->src.fin H=true)(p:P 0 ρ H1):∃ρ' H',dC mi sg b ρ H=.nx ρ' H'/\P src.n ρ' H':=by
 rw[sC hi];exact LX P step fin src.n 0 ρ H1 (by lia) p
theorem DP{src:Src}{sg:eB}{t:M Bool}{m:MC}(P:Nat->Ev->Hs->Bt->Prop)(step:∀k ρ H acc,k<src.n->P k ρ H acc->∃d ρ1,src.get k H=some d/\sg d ρ=some ρ1/\
   ((∃H2,t ρ1 H=.ok false H2/\P (k+1) ρ1 H2 acc)∨∃H2 ρ3 acc3 H3,t ρ1 H=.ok true H2/\m ρ1 H2 acc=.ok (ρ3,acc3) H3/\P (k+1) ρ3 H3 acc3))(fin:∀ρ H acc,P src.n ρ H acc->src.fin H=true):∀(f k:Nat)(ρ:Ev)(H:Hs)(acc:Bt),f+k=src.n->P k ρ H acc->∃ρ' H' Gz,hJ src sg t m f k ρ H acc=.ok (ρ',Gz) H'/\P src.n ρ' H' Gz
 |0,k,ρ,H,acc,h,p=>by
  have hk:k=src.n:=by lia
  subst hk;exact⟨ρ,H,acc,by simp[hJ,fin ρ H acc p],p⟩
 |f+1,k,ρ,H,acc,h,p=>by
  obtain⟨d,ρ1,e1,e2,e3⟩:=step k ρ H acc (by lia) p
  rcases e3 with⟨H2,e3,p2⟩|⟨H2,ρ3,acc3,H3,e3,e4,p2⟩
  ·obtain⟨ρ',H',Gz,e5,p5⟩:=DP P step fin f (k+1) ρ1 H2 acc (by lia) p2;exact⟨ρ',H',Gz,by simp[hJ,e1,e2,e3,e5],p5⟩
  ·obtain⟨ρ',H',Gz,e5,p5⟩:=DP P step fin f (k+1) ρ3 H3 acc3 (by lia) p2;exact⟨ρ',H',Gz,by simp[hJ,e1,e2,e3,e4,e5],p5⟩
theorem sD(k:Nat)(H:Hs):∀ns:y',cD (bS (k+1) H) (ns.map Hc)=some (ns.map Hv)
 |[]=>rfl
 |n::ns=>by rw[cy,cD,sD k H ns];rfl
def aM(p:Int×Int):Dv:=.tup [.int p.1,.int p.2]
def iS(p:Int×Int):Dt:=.tup [.int p.1,.int p.2]
theorem yB(k:Nat)(H:Hs)(p:Int×Int):bS (k+2) H (aM p)=some (iS p):=rfl
theorem yC(k:Nat)(H:Hs):∀ps:wo,cD (bS (k+2) H) (ps.map aM)=some (ps.map iS)
 |[]=>rfl
 |p::ps=>by rw[cy,cD,yC k H ps,yB];rfl
theorem DQ(p q:Int×Int):bU (iS p) (iS q)=decide (p=q):=by obtain⟨a,b⟩:=p;obtain⟨c,d⟩:=q;simp only[iS,bU,fX,Bool.and_true];rw[fv];simp
theorem qC(neg:Bool)(H:Hs)(p:Int×Int)(ps:wo):dX neg (aM p) (.tup (ps.map aM)) H=.ok (.bl (if neg then !decide (p∈ps)else decide (p∈ps))) H:=by
 have e:(ps.map iS).any (λt=>bU t (iS p))=decide (p∈ps):=by
  rw[fv];simp only[wx,nv,yd,DQ,decide_eq_true_eq];constructor
  ·rintro ⟨q,hq,rfl⟩;exact hq
  ·intro h;exact⟨p,h,rfl⟩
 have h1:cD (bS cK H) (ps.map aM)=some (ps.map iS):=yC 28 H ps;have h2:bS cK H (aM p)=some (iS p):=yB 28 H p;show mK [] neg (aM p) (.tup (ps.map aM)) H=_;simp only[mK,gH,h1,h2,e]
theorem Z1(neg:Bool)(H:Hs)(x:Int)(ns:y'):dX neg (.int x) (.tup (ns.map Hc)) H=.ok (.bl (if neg then !decide (x∈ns)else decide (x∈ns))) H:=by
 have e:(ns.map Hv).any (λt=>bU t (.int x))=decide (x∈ns):=by
  rw[fv];simp only[wx,nv,yd,bU,decide_eq_true_eq,beq_iff_eq];constructor
  ·rintro ⟨q,hq,rfl⟩;exact hq
  ·intro h;exact⟨x,h,rfl⟩
 have h1:cD (bS cK H) (ns.map Hc)=some (ns.map Hv):=sD 29 H ns;have h2:bS cK H (.int x)=some (.int x):=rfl;show mK [] neg (.int x) (.tup (ns.map Hc)) H=_;simp only[mK,gH,h1,h2,e]
section
variable{elt tg iter Dh Cd:bp}{ifs Co:List bp}{sc:fy}{ps px pos:Pos}{N:Br}{cap:List (Option Nat)}{mi mi':M Src}{st En:eB}{test Dz:M Bool}{me:M Dv}{i:Nat}{x:Str}
theorem LY(hN:X.N.Nodup)(hi':X.N[i]?=some x)(hc:X.calm=true)(C:Df X sc N cap)(hi:jC X G E tg iter mi)(hg:∀s H ex,jB (cF X sc N s H ex) G tg st)(Gd:∀s H ex,lE (cF X sc N s H ex) G ifs test)(Ff:∀s H ex,aK (cF X sc N s H ex) G E0 elt me)(hx:X.env.scope.names.lookup x=some .local:=by rfl)(hsw:swapsWith (.ListComp elt [⟨tg,iter,ifs,0⟩] sc ps) (some (.Name x px)) pos.line X.env=pure true:=by rfl)(hs:∀x,foldedSetIterable iter X.env x=pure x:=by intro _;rfl):iE X G E (.Assign [.Name x px] (.ListComp elt [⟨tg,iter,ifs,0⟩] sc ps) pos) (aR (dF (cR mi cap st test (cG me))) (aI i)):=λhK=>
 PS.imp (JK hsw hN hi' hx hc C rfl (λit D env=>JF elt tg iter ifs sc ps (.ref it) D env) (hi hK) (λs H ex=>hg s H ex hK) (λs H ex=>Gd s H ex hK) (λs H ex D=>Ga.imp (wX (Ff s H ex hK)) λ_ _ _ _ t=>xH t) hs) λD σ H⟨μ,ρ,h,rs,s,o⟩=>xJ (CL (kK rs s o λμ1 d h1 v H1 x1 Cr s1 r1 o1=>o1 μ1 H1 _ Hm s1 (Cr.set i r1)))
end
end L2.Mr
open L2.Mr.Fr renaming app->He,refl->Hh,set->Ho,trans->Hy
namespace SoM
open PySem PySem.W PyProof.Rows
variable{n:Nat}{f:Nat->Nat}{s:ag}
def nF(n:Nat)(f:Nat->Nat)(i j:Nat)(C:Bool->ag->Prop)(s:ag):Prop:=i<n/\j<n/\C (decide (f i<f j)) s
def F(f:Nat->Nat)(p:Array Nat)(k:Nat):Nat:=f (p.getD k 0)
def Ent(n:Nat)(p:Array Nat):Prop:=p.size=n/\p.toList.Perm (az n)
theorem Ent.lt{p:Array Nat}(e:Ent n p)(hn:0<n)(k:Nat):p.getD k 0<n:=by
 by_cases h:k<p.size
 ·have:p.getD k 0=p[k]:=by simp[lx,h]
  rw[this];have hm:p[k]∈p.toList:=by simp
  exact br.mp (e.2.mem_iff.mp hm)
 ·have:p.getD k 0=0:=by simp[lx,h]
  lia
theorem uS{p q:Array Nat}{i j:Nat}(h:p[i]?=q[j]?):F f p i=F f q j:=by unfold F;simp only[Array.getD_eq_getD_getElem?,h]
theorem Ent.mirror{p:Array Nat}(e:Ent n p)(i j d:Nat):Ent n (mirror p i j d):=⟨(mirror_size ..).trans e.1,((yp.mp (mirror_perm p i j d))).trans e.2⟩
theorem Ent.bubble{p:Array Nat}(e:Ent n p)(k d:Nat):Ent n (bubble p k d):=⟨(bubble_size ..).trans e.1,((yp.mp (bubble_perm p k d))).trans e.2⟩
theorem Ent.rev{p:Array Nat}(e:Ent n p)(i j:Nat):Ent n (kas_rev p i j):=e.mirror _ _ _
theorem uT{p:Array Nat}{i j:Nat}(hj:j<=p.size)(k:Nat):F f (kas_rev p i j) k=if i<=k/\k<j then F f p (i+j-1-k)else F f p k:=by
 have e:=getElem?_mirror_all (i:=i) hj k
 by_cases h:i<=k/\k<j
 ·rw[if_pos h]at e⊢;exact uS e
 ·rw[if_neg h]at e⊢;exact uS e
theorem LZ{p:Array Nat}{k d:Nat}(hs:k<p.size)(hd:d<=k)(i:Nat):F f (bubble p k d) i=if i=k-d then F f p k else if k-d<i/\i<=k then F f p (i-1)else F f p i:=by
 have e:=getElem?_bubble hs d hd i
 by_cases h1:i=k-d
 ·rw[if_pos h1]at e⊢;exact uS e
 ·rw[if_neg h1]at e⊢
  by_cases h2:k-d<i/\i<=k
  ·rw[if_pos h2]at e⊢;exact uS e
  ·rw[if_neg h2]at e⊢;exact uS e
def Inc(f:Nat->Nat)(p:Array Nat)(m:Nat):Prop:=∀i j,i<=j->j<m->F f p i<=F f p j
def Dec(f:Nat->Nat)(p:Array Nat)(m:Nat):Prop:=∀i j,i<=j->j<m->F f p j<=F f p i
theorem Inc.succ{p:Array Nat}{m:Nat}(h:Inc f p m)(hm:1<=m)(h1:F f p (m-1)<=F f p m):Inc f p (m+1):=by
 intro i j Ea hj
 by_cases q:j=m
 ·subst q
  by_cases r:i=j
  ·subst r;exact ao _
  ·exact df (h i (j-1) (by lia) (by lia)) h1
 ·exact h i j Ea (by lia)
theorem Dec.succ{p:Array Nat}{m:Nat}(h:Dec f p m)(hm:1<=m)(h1:F f p m<=F f p (m-1)):Dec f p (m+1):=by
 intro i j Ea hj
 by_cases q:j=m
 ·subst q
  by_cases r:i=j
  ·subst r;exact ao _
  ·exact df h1 (h i (j-1) (by lia) (by lia))
 ·exact h i j Ea (by lia)
theorem DR{p:Array Nat}(e:Ent n p)(hn:0<n){Q:Nat->ag->Prop}:∀(fu m:Nat)(s:ag),1<=m->Inc f p m->
  (∀m',m<=m'->m'<=m+fu->Inc f p m'->(m'=m+fu∨F f p m'<F f p (m'-1))->Q m' s)->(kas_asc p fu m).kasWp (nF n f) Q s
 |0,m,s,h1,hi,h=>h m (ao _) (ao _) hi (.inl rfl)
 |fu+1,m,s,h1,hi,h=>by
  refine⟨e.lt hn _,e.lt hn _,?_⟩
  by_cases c:f (p.getD m 0)<f (p.getD (m-1) 0)
  ·rw[decide_eq_true c];exact h m (ao _) (by lia) hi (.inr c)
  ·rw[decide_eq_false c];refine DR e hn fu (m+1) s (by lia) (hi.succ h1 (Nat.le_of_not_lt c)) λm' a b c d=>h m' (by lia) (by lia) c ?_
   rcases d with d|d
   ·exact .inl (by lia)
   ·exact .inr d
theorem yD(hn:0<n){Q:Array Nat×Nat×Nat->ag->Prop}:∀(fu m q:Nat)(p:Array Nat)(s:ag),Ent n p->q+1<=m->m+fu<=n->Dec f p m->(∀k,m-1-q<=k->k<m->F f p k=F f p (m-1))->
  (∀p' m' q',Ent n p'->q'+1<=m'->m<=m'->m'<=m+fu->Dec f p' m'->(∀k,m'-1-q'<=k->k<m'->F f p' k=F f p' (m'-1))->Q (p',m',q') s)->(kas_desc fu p m q).kasWp (nF n f) Q s
 |0,m,q,p,s,e,h1,h2,hd,he,h=>h p m q e h1 (ao _) (ao _) hd he
 |fu+1,m,q,p,s,e,h1,h2,hd,he,h=>by
  refine⟨e.lt hn _,e.lt hn _,?_⟩
  by_cases c:f (p.getD m 0)<f (p.getD (m-1) 0)
  ·have c':F f p m<F f p (m-1):=c;rw[decide_eq_true c];show KasT.kasWp _ (if true=true then(if q>0 then _ else _)else _) _ _;rw[if_pos rfl]
   by_cases hq:q>0
   ·rw[if_pos hq];have hsz:m<=p.size:=by rw[e.1];lia
    have hF:∀k,F f (kas_rev p (m-(q+1)) m) k=F f p k:=by
     intro k;rw[uT hsz]
     split
     ·rw[he _ (by lia) (by lia),he k (by lia) (by lia)]
     ·rfl
    have Fx:Dec f (kas_rev p (m-(q+1)) m) (m+1):=by intro i j Ea hj;rw[hF,hF];exact hd.succ (by lia) (gh c') i j Ea hj
    refine yD hn fu (m+1) 0 _ s (e.rev _ _) (by lia) (by lia) Fx ?_ λp' m' q' a b c d=>h p' m' q' a b (by lia) (by lia);intro k k1 k2;have:k=m:=by lia
    subst this;rfl
   ·rw[if_neg hq];refine yD hn fu (m+1) 0 _ s e (by lia) (by lia) (hd.succ (by lia) (gh c')) ?_ λp' m' q' a b c d=>h p' m' q' a b (by lia) (by lia);intro k k1 k2;have:k=m:=by lia
    subst this;rfl
  ·have c':¬F f p m<F f p (m-1):=c;rw[decide_eq_false c];show KasT.kasWp _ (if false=true then _ else KasT.ask _ _ _) _ _;rw[if_neg (by simp)];refine⟨e.lt hn _,e.lt hn _,?_⟩
   by_cases c2:f (p.getD (m-1) 0)<f (p.getD m 0)
   ·rw[decide_eq_true c2];exact h p m q e h1 (ao _) (by lia) hd he
   ·have c2':¬F f p (m-1)<F f p m:=c2;rw[decide_eq_false c2];have eq:F f p m=F f p (m-1):=by lia
    refine yD hn fu (m+1) (q+1) _ s e (by lia) (by lia) (hd.succ (by lia) (by lia)) ?_ λp' m' q' a b c d=>h p' m' q' a b (by lia) (by lia);intro k k1 k2;show F f p k=F f p m
    by_cases r:k=m
    ·subst r;rfl
    ·rw[eq];exact he k (by lia) (by lia)
theorem Dec.rev{p:Array Nat}{m:Nat}(hm:m<=p.size)(h:Dec f p m):Inc f (kas_rev p 0 m) m:=by intro i j Ea hj;rw[uT hm,uT hm,if_pos ⟨gg _,by lia⟩,if_pos ⟨gg _,hj⟩];exact h _ _ (by lia) (by lia)
theorem L6(hn:0<n){p:Array Nat}{m:Nat}{Q:Nat×Array Nat->ag->Prop}(e:Ent n p)(h1:1<=m)(h2:m<=n)(hd:Dec f p m)(h:∀m' p',Ent n p'->1<=m'->m'<=n->Inc f p' m'->Q (m',p') s):(kas_tail3 m n p).kasWp (nF n f) Q s:=by
 unfold kas_tail3;rw[KasT.kasWp_bind];refine DR (e.rev 0 m) hn (n-m) m s h1 (hd.rev (by rw[e.1];exact h2)) λm' a b c _=>?_;exact h m' _ (e.rev 0 m) (by lia) (by lia) c
theorem L7(hn:0<n){p:Array Nat}{m:Nat}{Q:Nat×Array Nat->ag->Prop}(e:Ent n p)(h2:m+1<=n)(hd:Dec f p (m+1))(h:∀m' p',Ent n p'->1<=m'->m'<=n->Inc f p' m'->Q (m',p') s):(kas_descPart m n p).kasWp (nF n f) Q s:=by
 unfold kas_descPart;rw[KasT.kasWp_bind];refine yD hn (n-(m+1)) (m+1) 0 p s e (by lia) (by lia) hd (λk k1 k2=>by (have:k=m:=by lia);subst this;rfl) λp' m' q' e' a b c d eq=>?_;show KasT.kasWp _ (if q'>0 then _ else _) _ _
 by_cases hq:q'>0
 ·rw[if_pos hq];have hsz:m'<=p'.size:=by rw[e'.1];lia
  have hF:∀k,F f (kas_rev p' (m'-(q'+1)) m') k=F f p' k:=by
   intro k;rw[uT hsz]
   split
   ·rw[eq _ (by lia) (by lia),eq k (by lia) (by lia)]
   ·rfl
  refine L6 hn (e'.rev _ _) (show 1<=m' by lia) (show m'<=n by lia) ?_ h;intro i j Ea hj;rw[hF,hF];exact d i j Ea hj
 ·rw[if_neg hq];exact L6 hn e' (show 1<=m' by lia) (show m'<=n by lia) d h
theorem Z2(hn:1<=n){p:Array Nat}{Q:Nat×Array Nat->ag->Prop}(e:Ent n p)(h:∀m' p',Ent n p'->1<=m'->m'<=n->Inc f p' m'->Q (m',p') s):(kas_count n p).kasWp (nF n f) Q s:=by
 unfold kas_count;rw[KasT.kasWp_bind];refine DR e (by lia) (n-1) 1 s (ao _) (λi j Ea hj=>by (have:i=j:=by lia);subst this;exact ao _) λm a b c d=>?_;show KasT.kasWp _ (if(m==n)=true then _ else if m>1 then _ else _) _ _
 by_cases q:m=n
 ·rw[if_pos (beq_iff_eq.mpr q)];exact h m p e (by lia) (by lia) c
 ·rw[if_neg (by intro z;exact q (beq_iff_eq.mp z))];have hlt:F f p m<F f p (m-1):=by
   rcases d with d|d
   ·lia
   ·exact d
  by_cases q1:m>1
  ·rw[if_pos q1];refine⟨e.lt (by lia) _,e.lt (by lia) _,?_⟩
   by_cases c2:f (p.getD 0 0)<f (p.getD (m-1) 0)
   ·rw[decide_eq_true c2];exact h m p e (by lia) (by lia) c
   ·have c2':¬F f p 0<F f p (m-1):=c2;rw[decide_eq_false c2];have hsz:m<=p.size:=by rw[e.1];lia
    have eq:∀k,k<m->F f p k=F f p 0:=by
     intro k hk;have:=c 0 k (by lia) hk;have:=c k (m-1) (by lia) (by lia)
     lia
    have hF:∀k,F f (kas_rev p 0 m) k=F f p k:=by
     intro k;rw[uT hsz]
     split
     ·rw[eq _ (by lia),eq k (by lia)]
     ·rfl
    refine L7 (by lia) (e.rev _ _) (by lia) ?_ h;intro i j Ea hj;rw[hF,hF]
    by_cases r:j=m
    ·subst r
     by_cases r2:i=j
     ·subst r2;exact ao _
     ·have:=eq i (by lia);have:=eq (j-1) (by lia)
      lia
    ·rw[eq i (by lia),eq j (by lia)];exact ao _
  ·rw[if_neg q1];have:m=1:=by lia
   subst this;refine L7 (by lia) e (by lia) ?_ h;intro i j Ea hj
   by_cases r:i=j
   ·subst r;exact ao _
   ·have h1:i=0:=by lia
    have h2:j=1:=by lia
    subst h1;subst h2;exact gh hlt
theorem DS{p:Array Nat}(e:Ent n p)(hn:0<n){k:Nat}(hi:Inc f p k){Q:Nat->ag->Prop}:∀(fu l r:Nat)(s:ag),r-l<=fu->l<=r->r<=k->
  (∀i,i<l->F f p i<=F f p k)->(∀i,r<=i->i<k->F f p k<F f p i)->
  (∀l',l'<=k->(∀i,i<l'->F f p i<=F f p k)->(∀i,l'<=i->i<k->F f p k<F f p i)->Q l' s)->(kas_place p k fu l r).kasWp (nF n f) Q s
 |0,l,r,s,h1,h2,h3,ha,hb,h=>by
  have:l=r:=by lia
  subst this;exact h l h3 ha hb
 |fu+1,l,r,s,h1,h2,h3,ha,hb,h=>by
  unfold kas_place
  by_cases q:l>=r
  ·rw[if_pos q];have:l=r:=by lia
   subst this;exact h l h3 ha hb
  ·rw[if_neg q];refine⟨e.lt hn _,e.lt hn _,?_⟩
   by_cases c:f (p.getD k 0)<f (p.getD ((l+r)/2) 0)
   ·have c':F f p k<F f p ((l+r)/2):=c;rw[decide_eq_true c];refine DS e hn hi fu l ((l+r)/2) s (by lia) (by lia) (by lia) ha ?_ h;intro i i1 i2;have:=hi ((l+r)/2) i i1 i2
    lia
   ·have c':¬F f p k<F f p ((l+r)/2):=c;rw[decide_eq_false c];refine DS e hn hi fu ((l+r)/2+1) r s (by lia) (by lia) (by lia) ?_ hb h;intro i i1;have:=hi i ((l+r)/2) (by lia) (by lia)
    lia
theorem L8(hn:0<n){Q:Array Nat->ag->Prop}:∀(fu k:Nat)(p:Array Nat)(s:ag),Ent n p->k+fu<=n->Inc f p k->(∀p',Ent n p'->Inc f p' (k+fu)->Q p' s)->(kas_bin fu p k).kasWp (nF n f) Q s
 |0,k,p,s,e,h1,hi,h=>h p e hi
 |fu+1,k,p,s,e,h1,hi,h=>by
  unfold kas_bin;rw[KasT.kasWp_bind];refine DS e hn hi k 0 k s (by lia) (by lia) (ao _) (λi hi=>absurd hi (by lia)) (λi a b=>absurd b (by lia)) λl hl ha hb=>?_;have hsz:k<p.size:=by rw[e.1];lia
  refine L8 hn fu (k+1) _ s (e.bubble _ _) (by lia) ?_ λp' e' i'=>h p' e' (by rw[show k+(fu+1)=k+1+fu by lia];exact i');intro i j Ea hj;rw[LZ hsz (by lia),LZ hsz (by lia)];have hkl:k-(k-l)=l:=by lia
  rw[hkl]
  by_cases i1:i=l
  ·rw[if_pos i1]
   by_cases j1:j=l
   ·rw[if_pos j1];exact ao _
   ·rw[if_neg j1,if_pos (by lia)];exact gh (hb (j-1) (by lia) (by lia))
  ·rw[if_neg i1]
   by_cases i2:l<i/\i<=k
   ·rw[if_pos i2,if_neg (by lia),if_pos (by lia)];exact hi (i-1) (j-1) (by lia) (by lia)
   ·rw[if_neg i2]
    by_cases j1:j=l
    ·rw[if_pos j1];exact ha i (by lia)
    ·rw[if_neg j1]
     by_cases j2:l<j/\j<=k
     ·rw[if_pos j2];exact hi i (j-1) (by lia) (by lia)
     ·rw[if_neg j2];exact hi i j Ea (by lia)
theorem Z3(hn:1<=n){Q:Array Nat->ag->Prop}(h:∀p,Ent n p->Inc f p n->Q p s):(kas_sort n).kasWp (nF n f) Q s:=by
 unfold kas_sort;rw[KasT.kasWp_bind];refine Z2 hn ⟨by simp,by simp⟩ λm p e h1 h2 hi=>?_;show KasT.kasWp _ (if m<n then _ else _) _ _
 by_cases q:m<n
 ·rw[if_pos q];have:max m 1=m:=by lia
  rw[this];refine L8 (by lia) (n-m) m p s e (by lia) hi λp' e' i'=>h p' e' ?_;rw[show m+(n-m)=n by lia]at i';exact i'
 ·rw[if_neg q];have:m=n:=by lia
  subst this;exact h p e hi
theorem L9{α:Type}{cmp:Nat->Nat->(Bool->ag->Prop)->ag->Prop}{I:ag->Prop}(hc:∀i j C s,I s->i<n->j<n->(∀s',I s'->C (decide (f i<f j)) s')->cmp i j C s):
  ∀(t:KasT α)(Q:α->Prop)(Q':α->ag->Prop)(s₀ s:ag),t.kasWp (nF n f) (λa _=>Q a) s₀->I s->(∀a s',Q a->I s'->Q' a s')->t.kasWp cmp Q' s
 |.ret a,Q,Q',s₀,s,h,hi,k=>k a s h hi
 |.ask i j c,Q,Q',s₀,s,h,hi,k=>hc i j _ s hi h.1 h.2.1 λs' hi'=>L9 hc (c _) Q Q' s₀ s' h.2.2 hi' k
end SoM
namespace L2
structure F'{α:Type}(lt:α->α->Bool):Prop where
 irr:∀x,lt x x=false
 tr:∀x y z,lt x y=true->lt y z=true->lt x z=true
 tot:∀x y,lt x y=false->lt y x=false->x=y
section
variable{α:Type}{lt:α->α->Bool}
theorem F'.asy(o:F' lt){x y:α}(h:lt x y=true):lt y x=false:=by
 cases q:lt y x with
 |false=>rfl
 |true=>have:=o.tr x y x h q;rw[o.irr]at this;cases this
theorem F'.lt_le(o:F' lt){x y z:α}(h:lt x y=true)(h2:lt z y=false):lt x z=true:=by
 cases q:lt y z with
 |true=>exact o.tr x y z h q
 |false=>rw[<-o.tot y z q h2];exact h
abbrev hY(lt:α->α->Bool)(l:List α):Prop:=l.Pairwise λa b=>lt b a=false
abbrev jI(lt:α->α->Bool)(l:List α):Prop:=l.Pairwise λa b=>lt a b=true
theorem MA(o:F' lt):∀{l l':List α},hY lt l->hY lt l'->l.Perm l'->l=l'
 |[],l',_,_,p=>(List.nil_perm.mp p).symm
 |x::r,[],_,_,p=>by simp at p
 |x::r,y::r',h,h',p=>by
  have h1:=dz.mp h;have h2:=dz.mp h';have e:x=y:=by
   refine o.tot x y ?_ ?_
   ·rcases bc.mp (p.mem_iff.mp (bh ..))with e|e
    ·rw[e];exact o.irr y
    ·exact h2.1 x e
   ·rcases bc.mp (p.mem_iff.mpr (bh ..))with e|e
    ·rw[e];exact o.irr x
    ·exact h1.1 y e
  subst e;rw[MA o h1.2 h2.2 (List.Perm.cons_inv p)]
def jR(lt:α->α->Bool)(x:α):List α->List α
 |[]=>[x]
 |y::r=>if lt y x then y::jR lt x r else if lt x y then x::y::r else y::r
def dE(lt:α->α->Bool):List α->List α
 |[]=>[]
 |x::r=>jR lt x (dE lt r)
theorem DT(o:F' lt)(x z:α):∀l,z∈jR lt x l↔z=x∨z∈l
 |[]=>by simp[jR]
 |y::r=>by
  unfold jR
  split
  ·rw[bc,DT o x z r,bc];constructor
   ·rintro (h|h|h)
    ·exact .inr (.inl h)
    ·exact .inl h
    ·exact .inr (.inr h)
   ·rintro (h|h|h)
    ·exact .inr (.inl h)
    ·exact .inl h
    ·exact .inr (.inr h)
  ·rename_i q1
   split
   ·simp
   ·rename_i q2;have e:=o.tot x y (by simpa using q2) (by simpa using q1);subst e;simp
theorem mP(o:F' lt)(z:α):∀l,z∈dE lt l↔z∈l
 |[]=>.rfl
 |x::r=>by rw[dE,DT o,mP o z r,bc]
theorem MB(o:F' lt)(x:α):∀l,jI lt l->jI lt (jR lt x l)
 |[],_=>by simp[jR,jI]
 |y::r,h=>by
  have h1:=dz.mp h;unfold jR
  split
  ·rename_i q;refine dz.mpr ⟨λz hz=>?_,MB o x r h1.2⟩
   rcases(DT o x z r).mp hz with rfl|hz
   ·exact q
   ·exact h1.1 z hz
  ·split
   ·rename_i q;refine dz.mpr ⟨λz hz=>?_,h⟩
    rcases bc.mp hz with rfl|hz
    ·exact q
    ·exact o.tr _ _ _ q (h1.1 z hz)
   ·exact h
theorem qD(o:F' lt):∀l,jI lt (dE lt l)
 |[]=>uk
 |x::r=>MB o x _ (qD o r)
theorem MD(o:F' lt){l:List α}(h:jI lt l):hY lt l:=h.imp λh=>o.asy h
theorem oP(o:F' lt){l:List α}(h:jI lt l):l.Nodup:=h.imp λ{a b}h e=>by rw[e,o.irr]at h;cases h
theorem Z4(o:F' lt){l l':List α}(h:jI lt l)(h':jI lt l')(m:∀z,z∈l↔z∈l'):l=l':=by refine MA o (MD o h) (MD o h') ?_;exact(ik (oP o h) (oP o h')).mpr m
theorem ME(o:F' lt){l l':List α}(h:jI lt l')(m:∀z,z∈l'↔z∈l):l'=dE lt l:=Z4 o h (qD o l) λz=>(m z).trans (mP o z l).symm
theorem yE(l:List α):(dE lt l).length<=l.length:=by
 have ins:∀(x:α)(l:List α),(jR lt x l).length<=l.length+1:=λx l=>by
  induction l with
  |nil=>simp[jR]
  |cons y r ih=>
   unfold jR
   split
   ·simp;lia
   ·split<;>simp
 induction l with
 |nil=>simp[dE]
 |cons x r ih=>have:=ins x (dE lt r);simp only[dE,cm];lia
def rk(lt:α->α->Bool)(ks:List α)(x:α):Nat:=ks.countP λy=>lt y x
theorem DU{p q:α->Bool}:∀(l:List α),(∀y,p y=true->q y=true)->l.countP p<=l.countP q
 |[],_=>ao _
 |y::r,h=>by
  have:=DU r h;rw[ua,ua]
  cases hp:p y with
  |true=>rw[h y hp];simp;lia
  |false=>cases q y<;>simp<;>lia
theorem MF{p q:α->Bool}:∀(l:List α),(∀y,p y=true->q y=true)->∀x,x∈l->q x=true->p x=false->l.countP p<l.countP q
 |[],_,x,hx,_,_=>by simp at hx
 |y::r,h,x,hx,h1,h2=>by
  rw[ua,ua]
  rcases bc.mp hx with rfl|hx
  ·have:=DU r h;rw[h1,h2];simp;lia
  ·have:=MF r h x hx h1 h2
   cases hp:p y with
   |true=>rw[h y hp];simp;lia
   |false=>cases q y<;>simp<;>lia
theorem MG(o:F' lt){ks:List α}{x z:α}(hx:x∈ks):decide (rk lt ks x<rk lt ks z)=lt x z:=by
 cases q:lt x z with
 |true=>exact decide_eq_true (MF ks (λy h=>o.tr y x z h q) x hx q (o.irr x))
 |false=>exact decide_eq_false (Nat.not_lt.mpr (DU ks λy h=>o.lt_le h q))
theorem Z5(o:F' lt){ks:List α}{x z:α}(hz:z∈ks)(h:rk lt ks x<=rk lt ks z):lt z x=false:=by rw[<-MG o hz];exact decide_eq_false (Nat.not_lt.mpr h)
end
def eC:y'->y'->Bool
 |[],[]=>false
 |[],_::_=>true
 |_::_,[]=>false
 |a::x,b::y=>if a==b then eC x y else decide (a<b)
theorem Ej:F' eC:=by
 refine⟨λx=>?_,λx=>?_,λx=>?_⟩
 ·induction x with
  |nil=>rfl
  |cons a x ih=>simp[eC,ih]
 ·induction x with
  |nil=>
   intro y z h1 h2
   cases z with
   |nil=>cases y with
    |nil=>exact h1
    |cons b y=>cases h2
   |cons c z=>rfl
  |cons a x ih=>
   intro y z h1 h2
   cases y with
   |nil=>cases h1
   |cons b y=>
    cases z with
    |nil=>cases h2
    |cons c z=>
     simp only[eC,beq_iff_eq]at h1 h2⊢
     by_cases e1:a=b<;>by_cases e2:b=c
     ·rw[if_pos e1]at h1;rw[if_pos e2]at h2;rw[if_pos (e1.trans e2)];exact ih y z h1 h2
     ·rw[if_neg e2]at h2;rw[if_neg (by rw[e1];exact e2)];rw[e1];exact h2
     ·rw[if_neg e1]at h1;rw[if_neg (by rw[<-e2];exact e1)];rw[<-e2];exact h1
     ·rw[if_neg e1]at h1;rw[if_neg e2]at h2;simp only[decide_eq_true_eq]at h1 h2;rw[if_neg (by lia)];simp;lia
 ·induction x with
  |nil=>
   intro y h1 h2
   cases y with
   |nil=>rfl
   |cons b y=>cases h1
  |cons a x ih=>
   intro y h1 h2
   cases y with
   |nil=>cases h2
   |cons b y=>
    simp only[eC,beq_iff_eq]at h1 h2
    by_cases e:a=b
    ·subst e;rw[if_pos rfl]at h1 h2;rw[ih y h1 h2]
    ·rw[if_neg e]at h1;rw[if_neg (dg e)]at h2;simp at h1 h2;lia
def gM(p q:Int×Int):Bool:=if p.1==q.1 then decide (p.2<q.2)else decide (p.1<q.1)
def kP(p:Int×Int):y':=[p.1,p.2]
theorem uU(p q:Int×Int):eC (kP p) (kP q)=gM p q:=by
 unfold gM kP eC
 split
 ·unfold eC
  split
  ·rename_i h;simp at h;simp[eC,h]
  ·rfl
 ·rfl
theorem Z6{p q:Int×Int}(h:kP p=kP q):p=q:=by obtain⟨a,b⟩:=p;obtain⟨c,d⟩:=q;simp[kP]at h;rw[h.1,h.2]
theorem stoP:F' gM:=⟨λx=>by rw[<-uU];exact Ej.irr _,λx y z h1 h2=>by rw[<-uU]at *;exact Ej.tr _ _ _ h1 h2,λx y h1 h2=>by rw[<-uU]at *;exact Z6 (Ej.tot _ _ h1 h2)⟩
section
variable{α β:Type}{lt:α->α->Bool}{lt':β->β->Bool}{f:α->β}
theorem MH(h:∀x y,lt' (f x) (f y)=lt x y)(x:α):∀l,jR lt' (f x) (l.map f)=(jR lt x l).map f
 |[]=>rfl
 |y::r=>by
  simp only[cy,jR,h]
  split
  ·rw[MH h x r];rfl
  ·split<;>rfl
theorem MI(h:∀x y,lt' (f x) (f y)=lt x y):∀l,dE lt' (l.map f)=(dE lt l).map f
 |[]=>rfl
 |x::r=>by rw[cy,dE,MI h r,MH h];rfl
end
end L2
namespace SM
open PySem PySem.SetTable
def hY(l:A'):Prop:=l.Pairwise (·<·)
theorem DV{l:A'}(hr:hY l){i k x:Nat}(a:l[i]?=some x)(b:l[k]?=some x):i=k:=by
 obtain⟨p1,p2⟩:=ba.mp a;obtain⟨q1,q2⟩:=ba.mp b
 rcases xf i k with h|h|h
 ·have:=fj.mp hr i k p1 q1 h;lia
 ·exact h
 ·have:=fj.mp hr k i q1 p1 h;lia
theorem Z7(xs:Array Nat)(j:Nat)(hr:hY xs.toList):∀(fuel lo hi:Nat),lo<=hi->hi<=xs.size->hi-lo<=fuel->
  (∀i(h:i<xs.size),i<lo->xs[i]<j)->(∀i(h:i<xs.size),hi<=i->j<=xs[i])->
  (∀i(h:i<xs.size),i<below.go xs j fuel lo hi->xs[i]<j)/\(∀i(h:i<xs.size),below.go xs j fuel lo hi<=i->j<=xs[i])/\below.go xs j fuel lo hi<=xs.size:=by
 intro fuel
 induction fuel with
 |zero=>
  intro lo hi h1 h2 h3 ha hb;have:lo=hi:=by lia
  subst this;exact⟨ha,hb,h2⟩
 |succ n ih=>
  intro lo hi h1 h2 h3 ha hb;unfold below.go
  by_cases hlt:lo<hi
  ·rw[if_pos hlt];dsimp only;have hm:(lo+hi)/2<xs.size:=by lia
   have e:xs.getD ((lo+hi)/2) j=xs[(lo+hi)/2]:=by simp[lx,hm]
   have mono:∀a b(ha:a<xs.size)(hb:b<xs.size),a<b->xs[a]<xs[b]:=by intro a b ha hb Ez;have:=fj.mp hr a b (by simpa using ha) (by simpa using hb) Ez;simpa using this
   by_cases hc:xs.getD ((lo+hi)/2) j<j
   ·rw[if_pos hc];refine ih _ _ (by lia) h2 (by lia) ?_ hb;intro i h hi';rw[e]at hc
    by_cases q:i=(lo+hi)/2
    ·subst q;exact hc
    ·have:=mono i _ h hm (by lia);lia
   ·rw[if_neg hc];refine ih _ _ (by lia) (by lia) (by lia) ha ?_;intro i h hi';rw[e]at hc
    by_cases q:i=(lo+hi)/2
    ·subst q;lia
    ·have:=mono _ i hm h (by lia);lia
  ·rw[if_neg hlt];have:lo=hi:=by lia
   subst this;exact⟨ha,hb,h2⟩
theorem sE{xs:Array Nat}{j:Nat}(hr:hY xs.toList):
  (∀i(h:i<xs.size),i<below xs j->xs[i]<j)/\(∀i(h:i<xs.size),below xs j<=i->j<=xs[i])/\below xs j<=xs.size:=
 Z7 xs j hr xs.size 0 xs.size (gg _) (ao _) (by lia) (λi h hi=>absurd hi (by lia)) (λi h hi=>absurd h (by lia))
theorem MJ{xs:Array Nat}{j:Nat}(hr:hY xs.toList)(hm:j∈xs.toList):xs[below xs j]?=some j:=by
 obtain⟨h1,h2,h3⟩:=sE (j:=j) hr;obtain⟨i,hi,e⟩:=ie hm;have hi':i<xs.size:=by simpa using hi
 have e':xs[i]=j:=by simpa using e
 have hle:below xs j<=i:=by
  rcases jr i (below xs j)with q|q
  ·have:=h1 i hi' q;lia
  ·exact q
 have hb:below xs j<xs.size:=by lia
 have:=h2 (below xs j) hb (ao _);have mono:∀a b(ha:a<xs.size)(hb:b<xs.size),a<b->xs[a]<xs[b]:=by intro a b ha hb Ez;have:=fj.mp hr a b (by simpa using ha) (by simpa using hb) Ez;simpa using this
 have hE:below xs j=i:=by
  rcases jr (below xs j) i with q|q
  ·have:=mono _ _ hb hi' q;lia
  ·lia
 rw[fi hb]
 congr 1
 have:∀k(hk:k<xs.size),k=i->xs[k]=xs[i]:=by intro k hk e;subst e;rfl
 rw[this _ hb hE,e']
theorem Z8{xs:Array Nat}{j:Nat}(hm:j∉xs.toList):(xs[below xs j]?==some j)=false:=by rw[beq_eq_false_iff_ne];intro e;obtain⟨h,e⟩:=dw.mp e;exact hm (by rw[<-e];simp)
theorem sF{α:Type}(xs:Array α)(p:Nat)(x:α)(hp:p<=xs.size):(insertAt xs p x).toList=xs.toList.take p++x::xs.toList.drop p:=by unfold insertAt;rw[Array.toList_append,Array.toList_push];simp[Array.toList_extract,Ag]
theorem Z9{xs:Array Nat}{j:Nat}(hr:hY xs.toList)(hm:j∉xs.toList):hY (insertAt xs (below xs j) j).toList:=by
 obtain⟨h1,h2,h3⟩:=sE (j:=j) hr;rw[sF _ _ _ h3];unfold hY at hr⊢;have hlt:∀a∈xs.toList.take (below xs j),a<j:=by intro a ha;obtain⟨i,hi,e⟩:=ie ha;rw[jo]at hi;rw[List.getElem_take]at e;have:=h1 i (by simp at hi;lia) (by lia);simp at e;lia
 have hgt:∀a∈xs.toList.drop (below xs j),j<a:=by
  intro a ha;obtain⟨i,hi,e⟩:=ie ha;rw[pv]at hi;rw[List.getElem_drop]at e;have q:=h2 (below xs j+i) (by simp at hi;lia) (by lia);have ne:a≠j:=by rintro rfl;exact hm (List.mem_of_mem_drop ha)
  simp at e;lia
 rw[List.pairwise_append];refine⟨hr.sublist (List.take_sublist _ _),?_,?_⟩
 ·rw[dz];exact⟨hgt,hr.sublist (List.drop_sublist _ _)⟩
 ·intro a ha b hb
  rcases bc.mp hb with rfl|hb
  ·exact hlt a ha
  ·have:=hlt a ha;have:=hgt b hb;lia
def nG(mask:Nat)(p:Probe):Probe:=
 if p.more>0 then{p with j:=p.j+1,more:=p.more-1} else
 {p with j:=(leap mask p.i p.perturb).1,more:=runEnd mask (leap mask p.i p.perturb).1-(leap mask p.i p.perturb).1,i:=(leap mask p.i p.perturb).1,perturb:=(leap mask p.i p.perturb).2}
theorem MK(t:gy)(p:Probe):t.advance p=nG t.mask p:=by
 unfold SetTable.advance nG
 split<;>rfl
def a9(mask:Nat)(h:Int):Probe:={j:=bits h%(mask+1),more:=runEnd mask (bits h%(mask+1))-bits h%(mask+1),i:=bits h%(mask+1),perturb:=bits h,dummy:=none}
def eS(mask:Nat)(h:Int):Nat->Probe
 |0=>a9 mask h
 |n+1=>nG mask (eS mask h n)
def pr(mask:Nat)(h:Int)(n:Nat):Nat:=(eS mask h n).j
theorem b9(mask:Nat)(p:Probe):(nG mask p).dummy=p.dummy:=by unfold nG;split<;>rfl
theorem ML(mask:Nat)(h:Int):∀n,(eS mask h n).dummy=none
 |0=>rfl
 |n+1=>by rw[eS,b9,ML mask h n]
def qE(mask i pt:Nat):Probe:={j:=i,more:=runEnd mask i-i,i:=i,perturb:=pt,dummy:=none}
def bs(mask:Nat)(h:Int):Nat->Nat×Nat
 |0=>(bits h%(mask+1),bits h)
 |L+1=>leap mask (bs mask h L).1 (bs mask h L).2
theorem c7(mask i:Nat):runEnd mask i-i<=9:=by unfold runEnd;split<;>lia
theorem yF(mask:Nat)(h:Int)(i pt:Nat)(n:Nat)(e:eS mask h n=qE mask i pt):∀k,k<=runEnd mask i-i->eS mask h (n+k)={qE mask i pt with j:=i+k,more:=runEnd mask i-i-k}
 |0,_=>by rw[Nat.add_zero,e];rfl
 |k+1,hk=>by
  have ih:=yF mask h i pt n e k (by lia);rw[show n+(k+1)=(n+k)+1 from rfl,eS,ih];unfold nG;rw[if_pos (show runEnd mask i-i-k>0 by lia)];simp[qE]
  lia
theorem MM(mask:Nat)(h:Int):∀L,∃n,n<=10*L/\eS mask h n=qE mask (bs mask h L).1 (bs mask h L).2
 |0=>⟨0,by lia,rfl⟩
 |L+1=>by obtain⟨n,hn,e⟩:=MM mask h L;have r:=yF mask h _ _ n e (runEnd mask (bs mask h L).1-(bs mask h L).1) (ao _);have:=c7 mask (bs mask h L).1;refine⟨n+(runEnd mask (bs mask h L).1-(bs mask h L).1)+1,by lia,?_⟩;rw[eS,r];unfold nG;rw[if_neg (by simp)];rfl
theorem MN(mask:Nat)(h:Int):∀L,(bs mask h L).2=bits h/32^L
 |0=>by simp[bs]
 |L+1=>by rw[bs];show(bs mask h L).2/32=_;rw[MN mask h L,Nat.div_div_eq_div_mul,Nat.pow_succ]
theorem c8(h:Int):bits h<2^64:=by unfold bits;lia
theorem c9(mask:Nat)(h:Int){L:Nat}(hL:13<=L):(bs mask h L).2=0:=by
 rw[MN];have h1:=c8 h;have h2:(32:Nat)^13<=32^L:=Nat.pow_le_pow_right (by decide) hL;have h3:(2:Nat)^64<32^13:=by decide
 exact Nat.div_eq_of_lt (by lia)
def fx(mask x:Nat):Nat:=(x*5+1)%(mask+1)
def oQ(mask:Nat):Nat->Nat->Nat
 |0,x=>x
 |n+1,x=>oQ mask n (fx mask x)
theorem MP(mask:Nat):∀n x,oQ mask (n+1) x=fx mask (oQ mask n x)
 |0,x=>rfl
 |n+1,x=>by rw[oQ,MP mask n,oQ]
theorem MQ(mask:Nat)(h:Int):∀n,(bs mask h (13+n)).1=oQ mask n (bs mask h 13).1
 |0=>rfl
 |n+1=>by rw[MP,<-MQ mask h n,show 13+(n+1)=(13+n)+1 from rfl,bs];show((bs mask h (13+n)).1*5+1+(bs mask h (13+n)).2/32)%(mask+1)=_;rw[c9 mask h (by lia)];rfl
def sG(mask:Nat):Nat->Nat->Nat
 |0,_=>0
 |n+1,x=>2^x||| sG mask n (fx mask x)
theorem MR(mask j:Nat):∀n x,(sG mask n x).testBit j=true->∃k,k<n/\oQ mask k x=j
 |0,x,h=>by simp[sG]at h
 |n+1,x,h=>by
  rw[sG,Nat.testBit_or,Bool.or_eq_true]at h
  rcases h with h|h
  ·rw[Nat.testBit_two_pow,decide_eq_true_eq]at h;exact⟨0,by lia,h⟩
  ·obtain⟨k,hk,e⟩:=MR mask j n _ h;exact⟨k+1,by lia,e⟩
def kQ(mask:Nat):Prop:=mask=7∨mask=31∨mask=127
def MT(mask:Nat):Bool:=(az (mask+1)).all λx=>sG mask (mask+1) x==2^(mask+1)-1
theorem d4{mask:Nat}(g:kQ mask):MT mask=true:=by rcases g with rfl|rfl|rfl<;>decide+kernel
theorem d6{mask x j:Nat}(g:kQ mask)(hx:x<=mask)(hj:j<=mask):∃k,k<=mask/\oQ mask k x=j:=by
 have h1:=d4 g;unfold MT at h1;rw[iw]at h1;have h2:=h1 x (br.mpr (by lia));rw[beq_iff_eq]at h2;have h3:(sG mask (mask+1) x).testBit j=true:=by rw[h2,Nat.testBit_two_pow_sub_one,decide_eq_true_eq];lia
 obtain⟨k,hk,e⟩:=MR mask j _ _ h3;exact⟨k,by lia,e⟩
theorem yG(a m:Nat):a%(m+1)<=m:=by
 have:=Nat.mod_lt a (show 0<m+1 by lia)
 lia
theorem d7(mask:Nat)(h:Int):∀L,(bs mask h L).1<=mask
 |0=>yG _ _
 |L+1=>yG _ _
theorem MU{mask j:Nat}(g:kQ mask)(h:Int)(hj:j<=mask):∃L,L<=13+mask/\(bs mask h L).1=j:=by obtain⟨k,hk,e⟩:=d6 g (d7 mask h 13) hj;exact⟨13+k,by lia,by rw[MQ];exact e⟩
theorem d8{mask j:Nat}(g:kQ mask)(h:Int)(hj:j<=mask):∃n,n<10*turns mask/\pr mask h n=j:=by obtain⟨L,hL,e⟩:=MU g h hj;obtain⟨n,hn,e2⟩:=MM mask h L;refine⟨n,by unfold turns;lia,?_⟩;unfold pr;rw[e2];exact e
theorem MV{mask i:Nat}(hi:i<=mask):runEnd mask i<=mask:=by unfold runEnd;split<;>lia
theorem MW{mask:Nat}(h:Int):∀n,(eS mask h n).i<=mask/\(eS mask h n).j+(eS mask h n).more<=mask
 |0=>by
  have e:bits h%(mask+1)<=mask:=yG _ _;have:=MV e;have:bits h%(mask+1)<=runEnd mask (bits h%(mask+1)):=by unfold runEnd;split<;>lia
  exact⟨e,by show bits h%(mask+1)+(runEnd mask (bits h%(mask+1))-bits h%(mask+1))<=mask;lia⟩
 |n+1=>by
  obtain⟨h1,h2⟩:=MW (mask:=mask) h n;rw[eS];unfold nG
  split
  ·exact⟨h1,by dsimp only;lia⟩
  ·dsimp only;have e:(leap mask (eS mask h n).i (eS mask h n).perturb).1<=mask:=yG _ _;have:=MV e;have:(leap mask (eS mask h n).i (eS mask h n).perturb).1<=runEnd mask (leap mask (eS mask h n).i (eS mask h n).perturb).1:=by unfold runEnd;split<;>lia
   exact⟨e,by lia⟩
theorem DW{mask:Nat}(h:Int)(n:Nat):pr mask h n<=mask:=by have:=(MW (mask:=mask) h n).2;unfold pr;lia
def Way(mask:Nat)(occ:Nat->Prop)(h:Int)(j:Nat):Prop:=∃n,pr mask h n=j/\∀m,m<n->occ (pr mask h m)
theorem Way.mono{mask:Nat}{occ occ':Nat->Prop}{h:Int}{j:Nat}(w:Way mask occ h j)(k:∀x,occ x->occ' x):Way mask occ' h j:=let ⟨n,e,a⟩:=w;⟨n,e,λm hm=>k _ (a m hm)⟩
structure Dy(t:gy)(hs:y'):Prop where
 size:t.place.size=hs.length
 rise:hY t.place.toList
 nod:t.dummies=#[]
 bnd:∀j∈t.place.toList,j<=t.mask
 room:hs.length<=t.mask
 msk:kQ t.mask
 way:∀(i:Nat)(h:Int)(j:Nat),hs[i]?=some h->t.place.toList[i]?=some j->Way t.mask (·∈t.place.toList) h j
 plain:t.plain=true
theorem Dy.fits{t:gy}{hs:y'}(T:Dy t hs):t.fits hs.length=true:=by unfold SetTable.fits ye;rw[T.nod,T.size];simpa using T.room
theorem Dy.gave{t:gy}{hs:y'}(T:Dy t hs):t.gaveWay=false:=by
 unfold SetTable.gaveWay
 rcases T.msk with e|e|e<;>rw[e]<;>rfl
theorem MX(j:Nat):SetTable.has #[] j=false:=by unfold SetTable.has;simp
theorem Dy.slot_live{t:gy}{hs:y'}(T:Dy t hs){j:Nat}(h:j∈t.place.toList):∃i,t.slot j=.live i/\t.place.toList[i]?=some j:=by refine⟨below t.place j,?_,by simpa using MJ T.rise h⟩;unfold SetTable.slot;dsimp only;rw[MJ T.rise h];simp
theorem Dy.slot_empty{t:gy}{hs:y'}(T:Dy t hs){j:Nat}(h:j∉t.place.toList):t.slot j=.empty:=by unfold SetTable.slot;dsimp only;rw[Z8 h,T.nod,MX];rfl
theorem Dy.empty_there{t:gy}{hs:y'}(T:Dy t hs):∃j,j<=t.mask/\j∉t.place.toList:=by
 rcases sj (∃j,j<=t.mask/\j∉t.place.toList)with h|h
 ·exact h
 ·exfalso
  have h1:∀j,j∈az (t.mask+1)->j∈t.place.toList:=by
   intro j hj
   rcases sj (j∈t.place.toList)with q|q
   ·exact q
   ·exact absurd ⟨j,by have:=br.mp hj;lia,q⟩ h
  have h2:=(og (n:=t.mask+1)).length_le_of_subset h1;rw[nh]at h2;have h3:t.place.toList.length=hs.length:=by rw[<-T.size];simp
  have:=T.room
  lia
theorem MY{t:gy}{hs:y'}(T:Dy t hs)(hashAt:Nat->Int)(h:Int):∀(fuel n N:Nat),n<=N->N-n<fuel->pr t.mask h N∉t.place.toList->
  ∃m,n<=m/\m<=N/\(∀l,n<=l->l<m->pr t.mask h l∈t.place.toList/\∀i,t.place.toList[i]?=some (pr t.mask h l)->hashAt i≠h)/\
   ((pr t.mask h m∉t.place.toList/\probe.go t hashAt h fuel (eS t.mask h n)=some (.empty (pr t.mask h m) none)) ∨
    (∃i,t.place.toList[i]?=some (pr t.mask h m)/\hashAt i=h/\probe.go t hashAt h fuel (eS t.mask h n)=some (.candidate (pr t.mask h m) i (eS t.mask h (m+1))))):=by
 intro fuel
 induction fuel with
 |zero=>intro n N _ h2 _;lia
 |succ f ih=>
  intro n N h1 h2 h3;have hj:(eS t.mask h n).j=pr t.mask h n:=rfl
  rcases sj (pr t.mask h n∈t.place.toList)with hm|hm
  ·obtain⟨i,e1,e2⟩:=T.slot_live hm
   by_cases hh:hashAt i=h
   ·refine⟨n,ao _,h1,λl a b=>absurd a (by lia),.inr ⟨i,e2,hh,?_⟩⟩;rw[probe.go,hj,e1];dsimp only;rw[if_pos (beq_iff_eq.mpr hh),MK];rfl
   ·have hne:n≠N:=by rintro rfl;exact h3 hm
    obtain⟨m,a1,a2,a3,a4⟩:=ih (n+1) N (by lia) (by lia) h3;have e3:probe.go t hashAt h (f+1) (eS t.mask h n)=probe.go t hashAt h f (eS t.mask h (n+1)):=by rw[probe.go,hj,e1];dsimp only;rw[if_neg (by intro q;exact hh (beq_iff_eq.mp q)),MK];rfl
    refine⟨m,by lia,a2,λl b1 b2=>?_,by rw[e3];exact a4⟩
    rcases jr n l with q|q
    ·exact a3 l (by lia) b2
    ·have:l=n:=by lia
     subst this;refine⟨hm,λi' e'=>?_⟩;have:i'=i:=DV T.rise e' e2;subst this;exact hh
  ·refine⟨n,ao _,h1,λl a b=>absurd a (by lia),.inl ⟨hm,?_⟩⟩;rw[probe.go,hj,T.slot_empty hm];dsimp only;rw[ML]
theorem Dy.stops{t:gy}{hs:y'}(T:Dy t hs)(h:Int):∃N,N<10*turns t.mask/\pr t.mask h N∉t.place.toList:=by obtain⟨j,hj,hn⟩:=T.empty_there;obtain⟨N,hN,e⟩:=d8 T.msk h hj;exact⟨N,hN,by rw[e];exact hn⟩
theorem Dy.before{t:gy}{hs:y'}(T:Dy t hs){h:Int}{i j m:Nat}(e1:hs[i]?=some h)(e2:t.place.toList[i]?=some j)(hm:pr t.mask h m∉t.place.toList):∃n,n<m/\pr t.mask h n=j:=by
 obtain⟨n,e,a⟩:=T.way i h j e1 e2;refine⟨n,?_,e⟩
 rcases jr n m with q|q
 ·exact q
 ·exfalso
  rcases jr m n with r|r
  ·exact hm (a m r)
  ·have:m=n:=by lia
   subst this;exact hm (by rw[e];exact cx e2)
theorem MZ{xs:Array Nat}{p j x:Nat}(hp:p<=xs.size):x∈(insertAt xs p j).toList↔x=j∨x∈xs.toList:=by
 rw[sF _ _ _ hp,fq,bc];have e:x∈xs.toList↔x∈xs.toList.take p∨x∈xs.toList.drop p:=by rw[<-fq,uw]
 rw[e];constructor
 ·rintro (a|a|a)
  ·exact .inr (.inl a)
  ·exact .inl a
  ·exact .inr (.inr a)
 ·rintro (a|a|a)
  ·exact .inr (.inl a)
  ·exact .inl a
  ·exact .inr (.inr a)
theorem M1{t:gy}(hn:t.dummies=#[])(j:Nat):t.put j=({t with place:=insertAt t.place (below t.place j) j},below t.place j):=by unfold SetTable.put;dsimp only;rw[hn,MX];cases t;subst hn;rfl
theorem M3{α:Type}(l:List α)(x:α)(p i:Nat)(hp:p<=l.length):(l.take p++x::l.drop p)[i]?=if i<p then l[i]? else if i=p then some x else l[i-1]?:=by
 have hl:(l.take p).length=p:=by rw[jo];lia
 by_cases h1:i<p
 ·rw[if_pos h1,ed (by lia),zt h1]
 ·rw[if_neg h1,gj (by lia),hl]
  by_cases h2:i=p
  ·subst h2;rw[if_pos rfl,Nat.sub_self];rfl
  ·rw[if_neg h2];obtain⟨k,rfl⟩:∃k,i=p+(k+1):=⟨i-p-1,by lia⟩
   rw[show p+(k+1)-p=k+1 by lia,tw,List.getElem?_drop,show p+(k+1)-1=p+k by lia]
theorem Dy.put{t:gy}{hs:y'}(T:Dy t hs){h:Int}{n:Nat}(hn:pr t.mask h n∉t.place.toList)(hw:∀m,m<n->pr t.mask h m∈t.place.toList)(hr:hs.length+1<=t.mask):
  Dy {t with place:=insertAt t.place (below t.place (pr t.mask h n)) (pr t.mask h n)} (hs.take (below t.place (pr t.mask h n))++h::hs.drop (below t.place (pr t.mask h n))):=by
 have hb:=(sE (j:=pr t.mask h n) T.rise).2.2;have hs':t.place.toList.length=hs.length:=by rw[<-T.size];simp
 have hlen:(hs.take (below t.place (pr t.mask h n))++h::hs.drop (below t.place (pr t.mask h n))).length=hs.length+1:=by
  rw[cz,cm,jo,pv];have:=T.size
  lia
 refine⟨?_,Z9 T.rise hn,T.nod,?_,?_,T.msk,?_,T.plain⟩
 ·show(insertAt t.place (below t.place (pr t.mask h n)) (pr t.mask h n)).size=_;rw[hlen];have:(insertAt t.place (below t.place (pr t.mask h n)) (pr t.mask h n)).toList.length=hs.length+1:=by
   rw[sF _ _ _ hb,cz,cm,jo,pv,hs'];have:=T.size
   lia
  simpa using this
 ·intro j hj
  rcases(MZ hb).mp hj with rfl|hj
  ·exact DW h n
  ·exact T.bnd j hj
 ·rw[hlen];exact hr
 ·intro i h' j e1 e2;have Gi:(t.place.toList.take (below t.place (pr t.mask h n))++pr t.mask h n::t.place.toList.drop (below t.place (pr t.mask h n)))[i]?=some j:=by rw[<-sF _ _ _ hb];exact e2
  have Fz:below t.place (pr t.mask h n)<=hs.length:=by rw[<-T.size];exact hb
  rw[M3 _ _ _ _ Fz]at e1;rw[M3 _ _ _ _ (by rw[hs'];exact Fz)]at Gi;have mono:∀x,x∈t.place.toList->x∈(insertAt t.place (below t.place (pr t.mask h n)) (pr t.mask h n)).toList:=λx hx=>(MZ hb).mpr (.inr hx)
  by_cases q1:i<below t.place (pr t.mask h n)
  ·rw[if_pos q1]at e1 Gi;exact(T.way _ _ _ e1 Gi).mono mono
  ·rw[if_neg q1]at e1 Gi
   by_cases q2:i=below t.place (pr t.mask h n)
   ·rw[if_pos q2]at e1 Gi
    cases e1;cases Gi
    exact⟨n,rfl,λm hm=>mono _ (hw m hm)⟩
   ·rw[if_neg q2]at e1 Gi;exact(T.way _ _ _ e1 Gi).mono mono
def iG(owner:Array (Option Nat))(j:Nat):Prop:=(owner.getD j (some 0)).isSome=true
theorem M4{P:Nat->Bool}{n:Nat}(h:(az n).find? P=none):∀k,k<n->P k=false:=by intro k hk;have:=List.find?_eq_none.mp h k (br.mpr hk);simpa using this
theorem d9{P:Nat->Bool}:∀{n k:Nat},(az n).find? P=some k->k<n/\P k=true/\∀l,l<k->P l=false:=by
 intro n
 induction n with
 |zero=>intro k h;simp at h
 |succ n ih=>
  intro k h;rw[List.range_succ,List.find?_append]at h
  cases q:(az n).find? P with
  |some k'=>rw[q]at h;simp at h;subst h;obtain⟨a,b,c⟩:=ih q;exact⟨by lia,b,c⟩
  |none=>
   rw[q]at h
   by_cases hp:P n=true
   ·simp[hp]at h;subst h;exact⟨by lia,hp,λl hl=>M4 q l hl⟩
   ·simp[hp]at h
theorem h8{mask:Nat}{h:Int}{L n:Nat}(e:eS mask h n=qE mask (bs mask h L).1 (bs mask h L).2):eS mask h (n+(runEnd mask (bs mask h L).1-(bs mask h L).1)+1)=qE mask (bs mask h (L+1)).1 (bs mask h (L+1)).2:=by have r:=yF mask h _ _ n e (runEnd mask (bs mask h L).1-(bs mask h L).1) (ao _);rw[eS,r];unfold nG;rw[if_neg (by simp)];rfl
theorem h9{mask:Nat}{h:Int}{owner:Array (Option Nat)}:∀(fuel L n:Nat),eS mask h n=qE mask (bs mask h L).1 (bs mask h L).2->(∀k,k<n->iG owner (pr mask h k))->
  (∃L',L<=L'/\L'<L+fuel/\¬iG owner (bs mask h L').1)->
  ∃n,layClean.free mask owner fuel (bs mask h L).1 (bs mask h L).2=some (pr mask h n)/\¬iG owner (pr mask h n)/\∀m,m<n->iG owner (pr mask h m):=by
 intro fuel
 induction fuel with
 |zero=>rintro L n _ _ ⟨L',a,b,_⟩;lia
 |succ f ih=>
  rintro L n e hb ⟨L',a1,a2,a3⟩
  have r:=yF mask h _ _ n e;have hle:(bs mask h L).1<=runEnd mask (bs mask h L).1:=by unfold runEnd;split<;>lia
  rw[layClean.free]
  cases q:(az (runEnd mask (bs mask h L).1+1-(bs mask h L).1)).find? λk=>(owner.getD ((bs mask h L).1+k) (some 0)).isNone with
  |some k=>
   obtain⟨b1,b2,b3⟩:=d9 q;dsimp only;have ek:pr mask h (n+k)=(bs mask h L).1+k:=by unfold pr;rw[r k (by lia)]
   refine⟨n+k,by rw[ek],?_,λm hm=>?_⟩
   ·rw[ek];unfold iG;simp at b2;simp[b2]
   ·rcases jr m n with z|z
    ·exact hb m z
    ·obtain⟨l,rfl⟩:∃l,m=n+l:=⟨m-n,by lia⟩
     have el:pr mask h (n+l)=(bs mask h L).1+l:=by unfold pr;rw[r l (by lia)]
     rw[el];have:=b3 l (by lia);unfold iG
     cases w:owner.getD ((bs mask h L).1+l) (some 0)with
     |none=>rw[w]at this;simp at this
     |some _=>rfl
  |none=>
   dsimp only;have b:=M4 q;have hocc:∀l,l<=runEnd mask (bs mask h L).1-(bs mask h L).1->iG owner ((bs mask h L).1+l):=by
    intro l hl;have:=b l (by lia);unfold iG
    cases w:owner.getD ((bs mask h L).1+l) (some 0)with
    |none=>rw[w]at this;simp at this
    |some _=>rfl
   have hne:L≠L':=by
    rintro rfl
    exact a3 (by simpa using hocc 0 (by lia))
   refine ih (L+1) _ (h8 e) (λk hk=>?_) ⟨L',by lia,by lia,a3⟩
   rcases jr k n with z|z
   ·exact hb k z
   ·obtain⟨l,rfl⟩:∃l,k=n+l:=⟨k-n,by lia⟩
    have el:pr mask h (n+l)=(bs mask h L).1+l:=by unfold pr;rw[r l (by lia)]
    rw[el];exact hocc l (by lia)
structure LOk(mask:Nat)(hs:y')(owner:Array (Option Nat))(k:Nat):Prop where
 size:owner.size=mask+1
 own:∀(j i:Nat),owner[j]?=some (some i)->i<k/\∃h,hs[i]?=some h/\Way mask (iG owner) h j
 all:∀(i:Nat),i<k->∃j:Nat,owner[j]?=some (some i)
 inj:∀(j j' i:Nat),owner[j]?=some (some i)->owner[j']?=some (some i)->j=j'
theorem uV{owner:Array (Option Nat)}{j:Nat}(hj:j<owner.size):iG owner j↔∃i,owner[j]?=some (some i):=by
 unfold iG;rw[fi hj];simp only[lx,hj,dif_pos,Array.getInternal_eq_getElem,zr]
 cases owner[j]<;>simp
theorem LOk.free{mask k:Nat}{hs:y'}{owner:Array (Option Nat)}(O:LOk mask hs owner k)(hk:k<=mask):∃j,j<=mask/\¬iG owner j:=by
 rcases sj (∃j,j<=mask/\¬iG owner j)with h|h
 ·exact h
 ·exfalso
  have h1:∀j,j<=mask->∃i,owner[j]?=some (some i):=λj hj=>by
   rcases sj (iG owner j)with q|q
   ·exact(uV (by rw[O.size];lia)).mp q
   ·exact absurd ⟨j,hj,q⟩ h
  let f:Nat->Nat:=λj=>match owner[j]? with|some (some i)=>i|_=>0
  have hf:∀j,j<=mask->owner[j]?=some (some (f j)):=λj hj=>by obtain⟨i,e⟩:=h1 j hj;show owner[j]?=some (some (match owner[j]? with|some (some i)=>i|_=>0));rw[e]
  have nd:((az (mask+1)).map f).Nodup:=by rw[yz];rw[jg];refine wg ?_ (og (n:=mask+1));intro a b ha hb Ez e;have ea:=hf a (by have:=br.mp ha;lia);have eb:=hf b (by have:=br.mp hb;lia);rw[e]at ea;exact Ez (O.inj _ _ _ ea eb)
  have sub:∀x,x∈(az (mask+1)).map f->x∈az k:=by intro x hx;obtain⟨j,hj,rfl⟩:=bz.mp hx;exact br.mpr (O.own j _ (hf j (by have:=br.mp hj;lia))).1
  have:=nd.length_le_of_subset sub;simp at this
  lia
theorem LOk.step{mask k:Nat}{hs:y'}{owner:Array (Option Nat)}{h:Int}(g:kQ mask)(O:LOk mask hs owner k)(hk:k<=mask)(hh:hs[k]?=some h):
  ∃j,layClean.free mask owner (turns mask) (bits h%(mask+1)) (bits h)=some j/\LOk mask hs (owner.setIfInBounds j (some k)) (k+1):=by
 obtain⟨j0,hj0,hn0⟩:=O.free hk;obtain⟨L,hL,eL⟩:=MU g h hj0;obtain⟨n,e,hn,hw⟩:=h9 (mask:=mask) (h:=h) (owner:=owner) (turns mask) 0 0 rfl (λk hk=>absurd hk (by lia)) ⟨L,by lia,by unfold turns;lia,by rw[eL];exact hn0⟩;refine⟨pr mask h n,e,?_⟩;have hjl:pr mask h n<owner.size:=by rw[O.size];have:=DW (mask:=mask) h n;lia
 have hjn:owner[pr mask h n]?=some none:=by
  rw[fi hjl];have:¬∃i,owner[pr mask h n]?=some (some i):=λq=>hn ((uV hjl).mpr q)
  cases w:owner[pr mask h n]with
  |none=>rfl
  |some i=>exact absurd ⟨i,by rw[fi hjl,w]⟩ this
 have get:∀j,(owner.setIfInBounds (pr mask h n) (some k))[j]?=if pr mask h n=j then some (some k)else owner[j]?:=by
  intro j;rw[Array.getElem?_setIfInBounds]
  by_cases q:pr mask h n=j
  ·rw[if_pos q,if_pos q,if_pos hjl]
  ·rw[if_neg q,if_neg q]
 have hsz:(owner.setIfInBounds (pr mask h n) (some k)).size=mask+1:=by rw[Array.size_setIfInBounds];exact O.size
 have occm:∀x,iG owner x->iG (owner.setIfInBounds (pr mask h n) (some k)) x:=by
  intro x hx
  by_cases hl:x<owner.size
  ·obtain⟨i,e⟩:=(uV hl).mp hx;refine(uV (by rw[hsz,<-O.size];exact hl)).mpr ?_;rw[get]
   by_cases q:pr mask h n=x
   ·exact⟨k,if_pos q⟩
   ·exact⟨i,by rw[if_neg q];exact e⟩
  ·unfold iG;simp[lx,hl]
 refine⟨hsz,?_,?_,?_⟩
 ·intro j i e;rw[get]at e
  by_cases q:pr mask h n=j
  ·rw[if_pos q]at e;cases e;exact⟨by lia,h,hh,n,q,λm hm=>occm _ (hw m hm)⟩
  ·rw[if_neg q]at e;obtain⟨a,h',b,c⟩:=O.own j i e;exact⟨by lia,h',b,c.mono occm⟩
 ·intro i hi
  by_cases q:i=k
  ·subst q;exact⟨pr mask h n,by rw[get,if_pos rfl]⟩
  ·obtain⟨j,e⟩:=O.all i (by lia);refine⟨j,?_⟩;rw[get]
   by_cases z:pr mask h n=j
   ·rw[<-z,hjn]at e;cases e
   ·rw[if_neg z];exact e
 ·intro j j' i e e';rw[get]at e e'
  by_cases z:pr mask h n=j
  ·rw[if_pos z]at e;cases e
   by_cases z':pr mask h n=j'
   ·exact z.symm.trans z'
   ·rw[if_neg z']at e';have:=(O.own j' _ e').1
    lia
  ·rw[if_neg z]at e
   by_cases z':pr mask h n=j'
   ·rw[if_pos z']at e';cases e';have:=(O.own j _ e).1
    lia
   ·rw[if_neg z']at e';exact O.inj _ _ _ e e'
theorem M5{mask:Nat}{hs:y'}(g:kQ mask)(hl:hs.length<=mask):∀(l pre:y')(owner:Array (Option Nat)),hs=pre++l->LOk mask hs owner pre.length->
  ∃owner',l.foldl (λ(acc:Option (Array (Option Nat)×Nat))h=>do
    let (owner,k) <-acc
    let j <-layClean.free mask owner (turns mask) (bits h%(mask+1)) (bits h)
    pure (owner.setIfInBounds j (some k),k+1)) (some (owner,pre.length))=some (owner',hs.length)/\LOk mask hs owner' hs.length
 |[],pre,owner,e,O=>by rw[om]at e;subst e;exact⟨owner,rfl,O⟩
 |h::l,pre,owner,e,O=>by
  have hh:hs[pre.length]?=some h:=by rw[e];simp
  obtain⟨j,e1,O1⟩:=O.step g (by rw[e]at hl;simp at hl;lia) hh;have e2:hs=(pre++[h])++l:=by rw[e];simp
  have hlen:(pre++[h]).length=pre.length+1:=by simp
  obtain⟨o',a,b⟩:=M5 g hl l (pre++[h]) _ e2 (by rw[hlen];exact O1);refine⟨o',?_,b⟩;rw[List.foldl_cons];rw[<-a,hlen]
  congr 1
  show(do let j <-layClean.free mask owner (turns mask) (bits h%(mask+1)) (bits h);pure (owner.setIfInBounds j (some pre.length),pre.length+1))=_;rw[e1];rfl
theorem i0{mask:Nat}{hs:Array Int}(g:kQ mask)(hl:hs.size<=mask):∃owner,layClean mask hs=some owner/\LOk mask hs.toList owner hs.size:=by
 have O0:LOk mask hs.toList (Array.replicate (mask+1) none) 0:=by
  refine⟨by simp,?_,λi hi=>absurd hi (by lia),?_⟩
  ·intro j i e;rw[zl]at e
   split at e<;>simp at e
  ·intro j j' i e;rw[zl]at e
   split at e<;>simp at e
 obtain⟨o',a,b⟩:=M5 g (by simpa using hl) hs.toList [] _ rfl O0;refine⟨o',?_,by simpa using b⟩;unfold layClean;rw[<-Array.foldl_toList];simp only[oq]at a;rw[a];rfl
theorem Way.mono'{mask:Nat}{occ occ':Nat->Prop}{h:Int}{j:Nat}(w:Way mask occ h j)(k:∀x,x<=mask->occ x->occ' x):Way mask occ' h j:=let ⟨n,e,a⟩:=w;⟨n,e,λm hm=>k _ (DW h m) (a m hm)⟩
theorem M6(g:Nat->Option Nat):∀(l:A'),l.Pairwise (·<·)->((l.filterMap λj=>(g j).map ((j,·):Nat->Nat×Nat)).map bw).Pairwise (·<·)
 |[],_=>by simp
 |j::l,h=>by
  rw[dz]at h;have ih:=M6 g l h.2
  cases e:g j with
  |none=>simpa[cu,e]using ih
  |some i=>
   simp only[cu,e,Option.map_some,cy,dz];refine⟨?_,ih⟩;intro a ha;obtain⟨⟨x,y⟩,hp,rfl⟩:=bz.mp ha;obtain⟨z,hz,ez⟩:=mf.mp hp
   cases q:g z with
   |none=>rw[q]at ez;simp at ez
   |some i'=>
    rw[q]at ez;simp at ez;have:=h.1 z hz
    lia
theorem M7{mask finger moves:Nat}{led:Bool}{hs:Array Int}(g:kQ mask)(hl:hs.size<=mask):
  ∃t order,laid mask finger moves led true hs=some (t,order)/\t.mask=mask/\t.led=led/\order.toList.Perm (az hs.size)/\Dy t (order.toList.filterMap (hs.toList[·]?)):=by
 obtain⟨owner,e,O⟩:=i0 g hl;generalize hlive:(az (mask+1)).filterMap (λj=>(owner.getD j none).map ((j,·):Nat->Nat×Nat))=live;have Er:∀j i,(j,i)∈live↔owner[j]?=some (some i):=by
  intro j i;rw[<-hlive,mf];constructor
  ·rintro ⟨x,hx,ex⟩
   have hx':x<owner.size:=by rw[O.size];exact br.mp hx
   have eg:owner.getD x none=owner[x]:=by simp[lx,hx']
   rw[eg]at ex
   cases q:owner[x]with
   |none=>rw[q]at ex;simp at ex
   |some i'=>rw[q]at ex;simp at ex;obtain⟨rfl,rfl⟩:=ex;rw[fi hx',q]
  ·intro h;obtain⟨hx',q⟩:=dw.mp h;refine⟨j,br.mpr (by rw[<-O.size];exact hx'),?_⟩;have eg:owner.getD j none=owner[j]:=by simp[lx,hx']
   rw[eg,q];rfl
 have hrise:(live.map bw).Pairwise (·<·):=by rw[<-hlive];exact M6 _ _ (ug)
 have Eo:(live.map gz).Perm (az hs.size):=by
  refine(ik ?_ og).mpr ?_
  ·rw[yz,jg];rw[jg]at hrise;refine wg ?_ hrise
   rintro ⟨a,i⟩ ⟨b,i'⟩ ha hb Ez e
   have e':i=i':=e;subst e';have:=O.inj a b i ((Er _ _).mp ha) ((Er _ _).mp hb);have hab':a<b:=Ez
   lia
  ·intro i;rw[br];constructor
   ·intro h;obtain⟨⟨j,i'⟩,hp,rfl⟩:=bz.mp h;exact(O.own j i' ((Er _ _).mp hp)).1
   ·intro h;obtain⟨j,ej⟩:=O.all i h;exact bz.mpr ⟨(j,i),(Er _ _).mpr ej,rfl⟩
 have hlen:live.length=hs.size:=by simpa using Eo.length_eq
 have hget:∀(i:Nat),((live.map gz).filterMap (hs.toList[·]?))[i]?=(live[i]?).bind λp=>hs.toList[p.2]?:=by
  have gen:∀(l:List (Nat×Nat)),(∀p∈l,p.2<hs.toList.length)->∀(i:Nat),((l.map gz).filterMap (hs.toList[·]?))[i]?=(l[i]?).bind λp=>hs.toList[p.2]?:=by
   intro l
   induction l with
   |nil=>intro _ i;simp
   |cons p l ih=>
    intro hp i;have h1:=hp p (bh ..);have e1:hs.toList[p.2]?=some hs.toList[p.2]:=bo h1;rw[cy,cu,e1]
    cases i with
    |zero=>simp[e1]
    |succ i=>simp only[tw];exact ih (λq hq=>hp q (ax _ hq)) i
  intro i;refine gen live ?_ i
  rintro ⟨j,k⟩ hp
  have:=(O.own j k ((Er _ _).mp hp)).1;simpa using this
 have hlen':((live.map gz).filterMap (hs.toList[·]?)).length=hs.size:=by
  have gen:∀(l:List (Nat×Nat)),(∀p∈l,p.2<hs.toList.length)->((l.map gz).filterMap (hs.toList[·]?)).length=l.length:=by
   intro l
   induction l with
   |nil=>intro _;rfl
   |cons p l ih=>intro hp;have h1:=hp p (bh ..);have e1:hs.toList[p.2]?=some hs.toList[p.2]:=bo h1;rw[cy,cu,e1];show(_::_).length=_;rw[cm,cm,ih (λq hq=>hp q (ax _ hq))]
  rw[gen live ?_,hlen]
  rintro ⟨j,k⟩ hp
  have:=(O.own j k ((Er _ _).mp hp)).1;simpa using this
 refine⟨{mask,place:=(live.map bw).toArray,dummies:=#[],finger,led,moves,plain:=true},(live.map gz).toArray,?_,rfl,rfl,Eo,?_⟩
 ·unfold laid;rw[e];show some _=some _;rw[hlive]
 ·refine⟨(by show(live.map bw).toArray.size=((live.map gz).filterMap (hs.toList[·]?)).length;rw[hlen',bg,bf,hlen]),hrise,rfl,?_,by rw[hlen'];exact hl,g,?_,rfl⟩
  ·intro j hj;obtain⟨⟨x,y⟩,hp,rfl⟩:=bz.mp (show j∈live.map bw from hj);have:=(Er _ _).mp hp;obtain⟨hx',_⟩:=dw.mp this;have:=O.size;show x<=mask
   lia
  ·intro i h j e1 e2;have e1':((live.map gz).filterMap (hs.toList[·]?))[i]?=some h:=e1;rw[hget]at e1';have Gi:(live.map bw)[i]?=some j:=e2;rw[dm]at Gi
   cases q:live[i]? with
   |none=>rw[q]at Gi;cases Gi
   |some p=>
    obtain⟨x,k⟩:=p;rw[q]at e1' Gi;simp at e1' Gi;subst Gi;have hp:=cx q;obtain⟨a,h',b,c⟩:=O.own x k ((Er _ _).mp hp);have hh:h'=h:=by
     have:hs.toList[k]?=some h:=by simpa using e1'
     rw[b]at this;exact cn this
    subst hh;refine c.mono' λy hy ho=>?_;obtain⟨i',ei⟩:=(uV (by rw[O.size];lia)).mp ho;exact bz.mpr ⟨(y,i'),(Er _ _).mpr ei,rfl⟩
end SM
namespace SR
variable{prog:bj}{w:cb}{A:bx}{E:af->ag->Prop}{s:ag}
open SM
section
variable{prog:bj}{w:cb}
def hk(prog:bj)(w:cb)(k:y'):Int:=tupleKeyHash (intKind prog w) k
abbrev KB:=List (y'×ai)
def hZ(prog:bj)(w:cb)(kb:KB):List (Int×af):=kb.map λp=>(hk prog w p.1,jd p.2)
structure Cu(prog:bj)(w:cb)(h:cq)(a:ai)(kb:KB)(o:Obj)(es:Array (Int×af))(ep:Nat)(t:gy):Prop where
 obj:h.get? a=some o
 ex:o.ExactSet
 data:o.data=.set es ep t
 es:es.toList=hZ prog w kb
 tab:Dy t (kb.map λp=>hk prog w p.1)
 nd:(kb.map bw).Nodup
 nf:kb.length*5<t.mask*3
 led:t.led=!w.params.followText "set-order"
structure Cq(w:cb)(h:cq)(a:ai)(hs:y')(o:Obj)(es:Array (Int×af))(ep:Nat)(t:gy):Prop where
 obj:h.get? a=some o
 ex:o.ExactSet
 data:o.data=.set es ep t
 size:es.size=hs.length
 tab:Dy t hs
 led:t.led=!w.params.followText "set-order"
def lM(prog:bj)(w:cb)(h:cq)(a:ai)(kb:KB):Prop:=∃o es ep t,Cu prog w h a kb o es ep t
def yH(prog:bj)(w:cb)(h:cq)(kb:KB):Prop:=∀p∈kb,ij (intKind prog w) h p.1 p.2
variable{h:cq}{a:ai}{kb:KB}{o:Obj}{es:Array (Int×af)}{ep:Nat}{t:gy}
theorem Cu.size(P:Cu prog w h a kb o es ep t):es.size=kb.length:=by have:=congrArg ow P.es;simpa[hZ]using this
theorem Cu.e(P:Cu prog w h a kb o es ep t):Cq w h a (kb.map λp=>hk prog w p.1) o es ep t:=⟨P.obj,P.ex,P.data,P.size.trans (by simp),P.tab,P.led⟩
theorem Cq.fits{hs:y'}(P:Cq w h a hs o es ep t):t.fits es.size=true:=by rw[P.size];exact P.tab.fits
theorem Cq.at'{h':cq}{hs:y'}(P:Cq w h a hs o es ep t)(k:h'.get? a=some o):Cq w h' a hs o es ep t:=⟨k,P.ex,P.data,P.size,P.tab,P.led⟩
theorem Cu.at'{h':cq}(P:Cu prog w h a kb o es ep t)(k:h'.get? a=some o):Cu prog w h' a kb o es ep t:=⟨k,P.ex,P.data,P.es,P.tab,P.nd,P.nf,P.led⟩
theorem Cu.fits(P:Cu prog w h a kb o es ep t):t.fits es.size=true:=by have:=P.tab.fits;rw[bf]at this;rw[P.size];exact this
theorem Cu.at_(P:Cu prog w h a kb o es ep t){i:Nat}{p:y'×ai}(e:kb[i]?=some p):es[i]?=some (hk prog w p.1,.ref p.2):=by
 have:es.toList[i]?=some (hk prog w p.1,jd p.2):=by rw[P.es];simp[hZ,e]
 simpa using this
theorem Cu.hash_at(P:Cu prog w h a kb o es ep t){i:Nat}{p:y'×ai}(e:kb[i]?=some p):(es[i]?.map (·.1)).getD 0=hk prog w p.1:=by rw[P.at_ e];rfl
end
section
variable{a:ai}{kb:KB}{o:Obj}{es:Array (Int×af)}{ep:Nat}{t:gy}
theorem M8{ks:y'}{b:ai}{Q:Bool->ag->Prop}(hb:ij (intKind prog w) s.heap ks b)(h:Q false s):wpAny (model prog w) A (ofAClassStatement 8 (.ref b)) Q E s:=by
 obtain⟨o,items,n,ho,hc,hd,hi⟩:=hb;unfold ofAClassStatement;refine ae (qd (T:="tuple") ⟨o,ho,hc⟩ ?_);show wpAny _ _ ((if(("tuple":String)=="tuple")=true then(pure true:Sem Bool)else isSubtype (.type "tuple") (.type "tuple")) >>=_) _ _ s;rw[if_pos (by decide)];refine ae (aj ?_);simp only[qg,cf,if_false];refine ae (jy ho hd ?_);refine ae ?_;show wpAny _ _ (forIn items _ _) _ _ s;rw[<-Bn];refine ux _ (λrest r s'=>r.1=none/\s'=s/\∀v∈rest,carriedByValue v=true) _ ?_ ?_ _ _ ⟨rfl,rfl,hi.byValue⟩
 ·rintro v rest r s' ⟨hr,rfl,hall⟩
  have hv:=hall v bh;have e:ofAClassStatement 7 v=pure false:=by
   cases v with
   |ref a=>simp[carriedByValue]at hv
   |_=>rfl
  rw[e];refine ae (aj ?_);simp only[cf,if_false];exact aj ⟨rfl,rfl,λu Cs=>hall u (ax _ Cs)⟩
 ·rintro ⟨r1,r2⟩ s' ⟨hr,rfl,_⟩
  simp only at hr;subst hr;exact aj h
theorem i6{k:y'}{b:ai}{Q:Bool->ag->Prop}(hb:ij (intKind prog w) s.heap k b):∀(l:List af),(∀y∈l,∃k' b',y=.ref b'/\ij (intKind prog w) s.heap k' b')->Q false s->
  wpAny (model prog w) A (searchCouldBeSeen (.ref b) l) Q E s:=by
 intro l hl h;unfold searchCouldBeSeen;refine ae ?_;refine ux _ (λrest r s'=>r.1=none/\s'=s/\∀y∈rest,∃k' b',y=.ref b'/\ij (intKind prog w) s.heap k' b') _ ?_ ?_ _ _ ⟨rfl,rfl,hl⟩
 ·rintro y rest r s' ⟨hr,rfl,hall⟩
  obtain⟨k',b',rfl,hb'⟩:=hall y bh;have fin:r.1=none/\s'=s'/\∀y∈rest,∃k' b',y=.ref b'/\ij (intKind prog w) s'.heap k' b':=⟨hr,rfl,λu hu=>hall u (ax _ hu)⟩
  dsimp only
  split
  ·exact aj ⟨rfl,rfl,fin.2.2⟩
  ·refine ae (wpAny_eqIsQuiet_tuple hb ?_);simp only[qg,cf,if_false];refine ae (wpAny_eqIsQuiet_tuple hb' ?_);simp only[qg,cf,if_false];refine ae (M8 hb ?_);simp only[cf,if_false];refine ae (M8 hb' ?_);simp only[cf,if_false];exact aj ⟨rfl,rfl,fin.2.2⟩
 ·rintro ⟨r1,r2⟩ s' ⟨hr,rfl,_⟩
  simp only at hr;subst hr;exact aj h
end
section
variable{a:ai}{kb:KB}{o:Obj}{es:Array (Int×af)}{ep:Nat}{t:gy}{k:y'}{b:ai}
theorem mem_keys{kb:KB}{k:y'}:k∈kb.map bw↔∃(i:Nat)(b:ai),kb[i]?=some (k,b):=by
 constructor
 ·intro h;obtain⟨⟨k',b⟩,hp,rfl⟩:=bz.mp h;obtain⟨i,hi,e⟩:=ie hp;exact⟨i,b,by rw[bo hi,e]⟩
 ·rintro ⟨i,b,e⟩
  exact bz.mpr ⟨(k,b),cx e,rfl⟩
theorem i7(P:Cu prog w s.heap a kb o es ep t)(T:yH prog w s.heap kb)(hb:ij (intKind prog w) s.heap k b)(hu:A.units<cLine){Q:SetFound->ag->Prop}(Dm:k∈kb.map bw->Q (.there none) s)(Dl:k∉kb.map bw->∀n,pr t.mask (hk prog w k) n∉t.place.toList->(∀m,m<n->pr t.mask (hk prog w k) m∈t.place.toList)->Q (.free (pr t.mask (hk prog w k) n) false) s)(N:Nat)(hN:N<10*qp t.mask)(hNe:pr t.mask (hk prog w k) N∉t.place.toList):
  ∀(fuel n:Nat)(stand:Option SetTable.Probe),stand.getD (t.probeStart (hk prog w k))=eS t.mask (hk prog w k) n->n<=N->N-n<fuel->
   (∀l,l<n->pr t.mask (hk prog w k) l∈t.place.toList/\∀(i:Nat)p,t.place.toList[i]?=some (pr t.mask (hk prog w k) l)->kb[i]?=some p->p.1≠k)->
   wpAny (model prog w) A (setSearchFrom a (.ref b) (hk prog w k) true fuel stand) Q E s:=by
 intro fuel
 induction fuel with
 |zero=>intro n stand _ _ h2;lia
 |succ f ih=>
  intro n stand Fj h1 h2 hseen;have hlen:t.place.toList.length=kb.length:=by have:=P.tab.size;simpa using this
  have kbat:∀{i j:Nat},t.place.toList[i]?=some j->∃p,kb[i]?=some p:=λ{i j}e=>by obtain⟨hi,_⟩:=ba.mp e;exact⟨kb[i]'(by lia),bo (by lia)⟩
  unfold setSearchFrom;refine ae (jm P.obj P.data P.fits ?_);dsimp only;rw[P.tab.gave];simp only[cf,if_false];obtain⟨m,a1,a2,a3,a4⟩:=MY P.tab (λi=>(es[i]?.map (·.1)).getD 0) (hk prog w k) (10*qp t.mask) n N h1 (by lia) hNe;have pass:∀l,l<m->pr t.mask (hk prog w k) l∈t.place.toList/\∀(i:Nat)p,t.place.toList[i]?=some (pr t.mask (hk prog w k) l)->kb[i]?=some p->p.1≠k:=by
   intro l hl
   rcases jr l n with q|q
   ·exact hseen l q
   ·obtain⟨b1,b2⟩:=a3 l q hl;refine⟨b1,λi p e1 e2 e3=>b2 i e1 ?_⟩;show(es[i]?.map (·.1)).getD 0=_;rw[P.hash_at e2,e3]
  rcases a4 with⟨b1,b2⟩|⟨i,b1,b2,b3⟩
  ·have e:∀g:Nat->Int,g=(λi=>(es[i]?.map (·.1)).getD 0)->t.probe g (hk prog w k) (stand.getD (t.probeStart (hk prog w k)))=some (.empty (pr t.mask (hk prog w k) m) none):=by rintro g rfl;rw[Fj];exact b2
   rw[e]
   rotate_left
   ·rfl
   refine aj (Dl ?_ m b1 λl hl=>(pass l hl).1);intro Er;obtain⟨i,b',ei⟩:=mem_keys.mp Er;obtain⟨j,ej⟩:∃j,t.place.toList[i]?=some j:=by obtain⟨hi,_⟩:=ba.mp ei;exact⟨_,bo (by lia)⟩
   obtain⟨n',hn',e'⟩:=P.tab.before (i:=i) (h:=hk prog w k) (by rw[dm,ei];rfl) ej b1;exact(pass n' hn').2 i (k,b') (by rw[e'];exact ej) ei rfl
  ·have e:∀g:Nat->Int,g=(λi=>(es[i]?.map (·.1)).getD 0)->t.probe g (hk prog w k) (stand.getD (t.probeStart (hk prog w k)))=some (.candidate (pr t.mask (hk prog w k) m) i (eS t.mask (hk prog w k) (m+1))):=by rintro g rfl;rw[Fj];exact b3
   rw[e]
   rotate_left
   ·rfl
   dsimp only;obtain⟨p,ep'⟩:=kbat b1;have hp:=T p (cx ep');have es1:t.sameMemory t.moves t.mask=some true:=by unfold SetTable.sameMemory;simp
   obtain⟨i2,e2,e3⟩:=P.tab.slot_live (cx b1);have hi2:i2=i:=DV P.tab.rise e3 b1;subst hi2;have nxt:¬p.1=k->wpAny (model prog w) A (setSearchFrom a (.ref b) (hk prog w k) true f (some (eS t.mask (hk prog w k) (m+1)))) Q E s:=by
    intro hpk;have hmN:m≠N:=by rintro rfl;exact hNe (cx b1)
    refine ih (m+1) _ rfl (by lia) (by lia) ?_
    ·intro l hl
     rcases jr l m with q|q
     ·exact pass l q
     ·have:l=m:=by lia
      subst this;refine⟨cx b1,λi' p' z1 z2=>?_⟩;have:i'=i2:=DV P.tab.rise z1 b1;subst this;rw[ep']at z2;cases z2;exact hpk
   cases hl:t.led
   case' true=>simp only[qg,cf,if_false]
   case' false=>
    simp only[zb,if_true];refine ae (i6 hb _ ?_ ?_)
    ·intro y hy;obtain⟨e1,he1,rfl⟩:=bz.mp hy;have Ew:=(Array.mem_filter.mp (Ay.mp he1)).1;have he3:e1∈hZ prog w kb:=by rw[<-P.es];exact Ay.mpr Ew
     obtain⟨q,hq,rfl⟩:=bz.mp he3;exact⟨q.1,q.2,rfl,T q hq⟩
    simp only[cf,if_false]
   all_goals
    rw[P.at_ ep'];dsimp only;refine ae (ff (wpAny_eqBool_tuple hu hp hb ?_));refine ae (jm P.obj P.data P.fits ?_);dsimp only
    by_cases hpk:p.1=k
    ·rw[decide_eq_true hpk];simp only[zv,if_true];exact aj (Dm (mem_keys.mpr ⟨i2,p.2,by rw[ep',<-hpk]⟩))
    ·rw[decide_eq_false hpk];simp only[uz,cf,if_false];rw[es1];dsimp only;simp only[if_true];rw[e2];dsimp only;rw[P.at_ ep'];dsimp only;refine ae (wpAny_isSame_ref_self ?_);refine ae (aj ?_);simp only[if_true];exact nxt hpk
theorem i8(P:Cu prog w s.heap a kb o es ep t)(T:yH prog w s.heap kb)(hb:ij (intKind prog w) s.heap k b)(hu:A.units<cLine){Q:SetFound->ag->Prop}(Dm:k∈kb.map bw->Q (.there none) s)(Dl:k∉kb.map bw->∀n,pr t.mask (hk prog w k) n∉t.place.toList->(∀m,m<n->pr t.mask (hk prog w k) m∈t.place.toList)->Q (.free (pr t.mask (hk prog w k) n) false) s):
  wpAny (model prog w) A (setSearch a (.ref b) (hk prog w k) true) Q E s:=by
 obtain⟨N,hN,hNe⟩:=P.tab.stops (hk prog w k);have hm:10*qp t.mask<=1420:=by
  unfold qp
  rcases P.tab.msk with e|e|e<;>rw[e]<;>decide
 exact i7 P T hb hu Dm Dl N hN hNe 100000 0 none rfl (gg _) (by lia) λl hl=>absurd hl (by lia)
theorem i9{Q:Bool->ag->Prop}(hb:ij (intKind prog w) s.heap k b)(h:Q true s):wpAny (model prog w) A (hashByValue 8 (.ref b)) Q E s:=by
 have hT:=hb.typeIs;obtain⟨o,items,n,ho,hc,hd,hi⟩:=hb;unfold hashByValue;refine ae (wpAny_specialOf hT F.slot_tuple_hash.lookup ?_);dsimp only;refine ae (jy ho hd ?_);refine ae ?_;show wpAny _ _ (forIn items _ _) _ _ s;rw[<-Bn];have hv:∀v∈items.toList,∃i t,v=.int i t:=by
  clear hd ho
  generalize items.toList=l at hi
  induction hi with
  |nil=>intro v h;cases h
  |cons h1 _ ih=>
   intro v hv
   rcases bc.mp hv with rfl|hv
   ·obtain⟨t,e⟩:=kn h1;exact⟨_,t,e⟩
   ·exact ih v hv
 refine ux _ (λrest r s'=>r.1=none/\s'=s/\∀v∈rest,∃i t,v=.int i t) _ ?_ ?_ _ _ ⟨rfl,rfl,hv⟩
 ·rintro v rest r s' ⟨hr,rfl,hall⟩
  obtain⟨i,t,rfl⟩:=hall v bh;refine ae (aj ?_);simp only[qg,cf,if_false];exact aj ⟨rfl,rfl,λu Cs=>hall u (ax _ Cs)⟩
 ·rintro ⟨r1,r2⟩ s' ⟨hr,rfl,_⟩
  simp only at hr;subst hr;exact aj h
end
section
variable{a:ai}{kb:KB}{o:Obj}{es:Array (Int×af)}{ep:Nat}{t:gy}{k:y'}{b:ai}
theorem j3(p:Nat):(hZ prog w kb).take p++(hk prog w k,jd b)::(hZ prog w kb).drop p=hZ prog w (kb.take p++(k,b)::kb.drop p):=by simp[hZ,sy,qi]
theorem j5(p:Nat):(kb.map λq=>hk prog w q.1).take p++hk prog w k::(kb.map λq=>hk prog w q.1).drop p=(kb.take p++(k,b)::kb.drop p).map λq=>hk prog w q.1:=by simp[sy,qi]
theorem ins_perm{α:Type}(l:List α)(x:α)(p:Nat):(l.take p++x::l.drop p).Perm (x::l):=by have h:(l.take p++x::l.drop p).Perm (x::(l.take p++l.drop p)):=List.perm_middle;rwa [uw]at h
theorem DX{p:Nat}(h:(kb.map bw).Nodup)(hk:k∉kb.map bw):((kb.take p++(k,b)::kb.drop p).map bw).Nodup:=by have q:=(ins_perm kb (k,b) p).map bw;exact q.nodup_iff.mpr (jw.mpr ⟨hk,h⟩)
theorem yI{es':Array (Int×af)}{t':gy}(hd:o.data=.set es ep t)(ho:s.heap.get? a=some o):(s.heap.update a (ur es' t')).get? a=some {o with data:=.set es' (ep+1) t'}:=by have:=pq (ur es' t') ho (by rw[putSet_of es' t' hd];rfl);rw[putSet_of es' t' hd]at this;exact this
theorem DY{α:Type}:∀(l:List α),(az l.length).filterMap (λi=>l[i]?)=l
 |[]=>rfl
 |x::l=>by
  rw[cm,Ae,cu];simp only[List.getElem?_cons_zero,List.filterMap_map]
  congr 1
  exact DY l
theorem M9{kb:KB}{mask' wanted:Nat}{Q:Unit->ag->Prop}(ho:s.heap.get? a=some o)(hex:o.ExactSet)(hd:o.data=.set es ep t)(Eu:es.toList=hZ prog w kb)(hT:Dy t (kb.map λp=>hk prog w p.1))(nd:(kb.map bw).Nodup)(hled:t.led=!w.params.followText "set-order")(hw:qr wanted-1=mask')(hg:kQ mask')(hl:kb.length*5<mask'*3)(hz:qr wanted<=cp)(h:∀h' Fu,ig a s.heap h'->lM prog w h' a Fu->Fu.Perm kb->Q () {s with heap:=h'}):
  wpAny (model prog w) A (setRelay a wanted) Q E s:=by
 have hsz:es.size=kb.length:=by have:=congrArg ow Eu;simpa[hZ]using this
 have hfit:t.fits es.size=true:=by have:=hT.fits;rw[bf]at this;rw[hsz];exact this
 have eh:(es.map (·.1)).toList=kb.map λp=>hk prog w p.1:=by rw[Array.toList_map,Eu];simp[hZ]
 have hs':(es.map (·.1)).size=kb.length:=by simp[hsz]
 unfold setRelay;refine ae (jm ho hd hfit ?_);dsimp only;rw[if_neg (by lia)];obtain⟨t',order,e1,e2,e3,e4,e5⟩:=M7 (mask:=mask') (finger:=t.finger) (moves:=t.movedTo mask') (led:=t.led) (hs:=es.map (·.1)) hg (by rw[hs'];lia);have er:t.relaid (es.map (·.1)) wanted=some (t',order):=by unfold Bo;rw[hw,hT.plain];exact e1
 rw[er];have hlt:∀i∈order.toList,i<kb.length:=λi hi=>by have:=br.mp (e4.mem_iff.mp hi);lia
 have hfm:∀(l:A'),(∀i∈l,i<kb.length)->l.filterMap (λi=>es[i]?)=hZ prog w (l.filterMap λi=>kb[i]?):=by
  intro l hl
  induction l with
  |nil=>rfl
  |cons i l ih=>
   have hi:=hl i bh;have q1:kb[i]?=some kb[i]:=bo hi;have q2:es[i]?=some (hk prog w kb[i].1,jd kb[i].2):=by
    have:es.toList[i]?=some (hk prog w kb[i].1,jd kb[i].2):=by rw[Eu];simp[hZ,q1]
    simpa using this
   rw[cu,cu,q1,q2];simp only;rw[ih λj hj=>hl j (ax _ hj)];rfl
 have hkey:∀(l:A'),(∀i∈l,i<kb.length)->l.filterMap (λi=>(es.map (·.1)).toList[i]?)=(l.filterMap λi=>kb[i]?).map λp=>hk prog w p.1:=by
  intro l hl
  induction l with
  |nil=>rfl
  |cons i l ih=>
   have hi:=hl i bh;have q1:kb[i]?=some kb[i]:=bo hi;have q2:(es.map (·.1)).toList[i]?=some (hk prog w kb[i].1):=by rw[eh];simp[q1]
   rw[cu,cu,q1,q2];simp only;rw[ih λj hj=>hl j (ax _ hj)];rfl
 have Eo:(order.toList.filterMap λi=>kb[i]?).Perm kb:=by have q:=e4.filterMap (λi=>kb[i]?);rw[hs']at q;exact q.trans (Bh (DY kb))
 have hes2:(order.filterMap (es[·]?)).toList=hZ prog w (order.toList.filterMap λi=>kb[i]?):=by rw[Aa];exact hfm _ hlt
 have Ge:(order.filterMap (es[·]?)).size=es.size:=by have:=congrArg ow hes2;rw[jx]at this;rw[this,hsz];simp[hZ,Eo.length_eq]
 show wpAny _ _ ((if((order.filterMap (es[·]?)).size !=es.size)=true then(unsupported "internal:set-table-lost-an-element" >>=λ_=>pure (order.filterMap (es[·]?),t'))else pure (order.filterMap (es[·]?),t')) >>=_) _ _ s;rw[if_neg (by rw[Ge];simp)];refine ae (aj ?_);dsimp only;refine uh ho hd ?_ (by rw[Ge,hsz];rcases hg with q|q|q<;>(rw[q]at hl;rw[gv];lia));refine h _ (order.toList.filterMap λi=>kb[i]?) (km ..) ⟨_,_,_,t',yI hd ho,hex,rfl,hes2,?_,?_,?_,e3.trans hled⟩ Eo
 ·rw[<-hkey _ hlt];exact e5
 ·exact(Eo.map bw).nodup_iff.mpr nd
 ·rw[Eo.length_eq,e2];exact hl
theorem j6(P:Cu prog w s.heap a kb o es ep t)(T:yH prog w s.heap kb)(hb:ij (intKind prog w) s.heap k b)(hu:A.units<cLine)(h76:k∉kb.map bw->kb.length+1<=76){Q:Bool->ag->Prop}(h:∀h' Fu r,ig a s.heap h'->lM prog w h' a Fu->(k∈kb.map bw->Fu.Perm kb)->(k∉kb.map bw->Fu.Perm ((k,b)::kb))->Q r {s with heap:=h'}):
  wpAny (model prog w) A (setAddHashed a (.ref b) (hk prog w k)) Q E s:=by
 unfold setAddHashed;refine ff ?_;unfold setAddHashedIn;refine ae (jm P.obj P.data P.fits ?_);dsimp only;have hbs:byScan (.ref b) es=false:=by simp[byScan,Value.scannable]
 rw[hbs];simp only[cf,if_false];refine ae (i8 P T hb hu (λDm=>?_) λDl n hn hw=>?_)
 ·dsimp only;refine aj ?_;have:=h s.heap kb false (oi ..) ⟨o,es,ep,t,P⟩ (λ_=>.refl _) λq=>absurd Dm q;exact this
 ·dsimp only;refine ae (jm P.obj P.data P.fits ?_);dsimp only;rw[M1 P.tab.nod];dsimp only;rw[if_pos P.tab.plain];refine ae (i9 hb ?_);simp only[if_true];have hlen:=P.nf;have Fe:=P.tab.msk;have hroom:(kb.map λp=>hk prog w p.1).length+1<=t.mask:=by
   rw[bf]
   rcases Fe with q|q|q<;>(rw[q]at hlen⊢;lia)
  have T2:=P.tab.put (h:=hk prog w k) (n:=n) hn hw hroom;have hbl:=(sE (j:=pr t.mask (hk prog w k) n) P.tab.rise).2.2;generalize hp:qt t.place (pr t.mask (hk prog w k) n)=p at T2 hbl⊢;rw[j5 (b:=b)]at T2;have Ey:(ib es p (hk prog w k,jd b)).toList=hZ prog w (kb.take p++(k,b)::kb.drop p):=by rw[sF _ _ _ (by rw[P.size,<-show t.place.size=kb.length from by have:=P.tab.size;simpa using this];exact hbl),P.es,j3]
  have hsz:(ib es p (hk prog w k,jd b)).size=kb.length+1:=by have:=congrArg ow Ey;simp only[hZ,bf,jx]at this;rw[this,(ins_perm kb (k,b) p).length_eq];rfl
  refine ae (uh P.obj P.data ?_ (by rw[hsz,gv];have:=h76 Dl;lia));have De:(kb.take p++(k,b)::kb.drop p).length=kb.length+1:=(ins_perm kb (k,b) p).length_eq;have Fv:=yI (s:=s) (es':=ib es p (hk prog w k,jd b)) (t':={t with place:=ib t.place p (pr t.mask (hk prog w k) n)}) P.data P.obj;have fill:({t with place:=ib t.place p (pr t.mask (hk prog w k) n)}:gy).tooFull=decide ((kb.length+1)*5>=t.mask*3):=by unfold Bi ye;have e1:=T2.size;rw[bf,De]at e1;have e1':(ib t.place p (pr t.mask (hk prog w k) n)).size=kb.length+1:=e1;dsimp only;rw[P.tab.nod,e1'];rfl
  simp only[zb,zv];rw[fill];have fin:∀h' Fu,ig a (s.heap.update a (ur (ib es p (hk prog w k,jd b)) {t with place:=ib t.place p (pr t.mask (hk prog w k) n)})) h'->lM prog w h' a Fu->
    Fu.Perm (kb.take p++(k,b)::kb.drop p)->Q true {s with heap:=h'}:=λh' Fu sb st pm=>
   h h' Fu true ((km ..).trans sb) st (λq=>absurd q Dl) λ_=>pm.trans (ins_perm kb (k,b) p)
  by_cases full:(kb.length+1)*5>=t.mask*3
  ·rw[decide_eq_true full,if_pos rfl];have h76':=h76 Dl;have hcase:(t.mask=7/\kb.length=4)∨(t.mask=31/\kb.length=18):=by
    rcases Fe with q|q|q
    ·left;rw[q]at hlen full;exact⟨q,by lia⟩
    ·right;rw[q]at hlen full;exact⟨q,by lia⟩
    ·rw[q]at full;lia
   have es0:es.size=kb.length:=P.size
   rcases hcase with⟨q1,q2⟩|⟨q1,q2⟩
   ·refine ae (M9 (mask':=31) (kb:=kb.take p++(k,b)::kb.drop p) Fv P.ex rfl Ey T2 (DX P.nd Dl) P.led (by rw[es0,q2];decide) (.inr (.inl rfl)) (by rw[De,q2];decide) (by rw[es0,q2,gv];decide) λh' Fu sb st pm=>aj (fin h' Fu sb st pm))
   ·refine ae (M9 (mask':=127) (kb:=kb.take p++(k,b)::kb.drop p) Fv P.ex rfl Ey T2 (DX P.nd Dl) P.led (by rw[es0,q2];decide) (.inr (.inr rfl)) (by rw[De,q2];decide) (by rw[es0,q2,gv];decide) λh' Fu sb st pm=>aj (fin h' Fu sb st pm))
  ·rw[decide_eq_false full,if_neg gu];refine aj (fin _ _ (oi ..) ⟨_,_,_,_,Fv,P.ex,rfl,Ey,T2,DX P.nd Dl,?_,P.led⟩ (.refl _));rw[De];exact Nat.lt_of_not_le full
end
theorem Cu.keep{prog:bj}{w:cb}{h h':cq}{a:ai}{kb:KB}(S:lM prog w h a kb)(k:∀o,h.get? a=some o->h'.get? a=some o):lM prog w h' a kb:=by obtain⟨o,es,ep,t,P⟩:=S;exact⟨o,es,ep,t,k o P.obj,P.ex,P.data,P.es,P.tab,P.nd,P.nf,P.led⟩
theorem yJ{prog:bj}{w:cb}{h h':cq}{ks:y'}{a:ai}(x:ij (intKind prog w) h ks a)(k:∀o,h.get? a=some o->h'.get? a=some o):ij (intKind prog w) h' ks a:=by obtain⟨o,items,n,ho,r⟩:=x;exact⟨o,items,n,k o ho,r⟩
section
variable{prog:bj}{w:cb}{A:bx}{R:xm->ag->Prop}{I:ai}{fp wr:List ai}{n:Nat}{P:Nat->af->Prop}{St:Nat->cq->Prop}
structure Upto(ky:Nat->y')(ad:Nat->ai)(i:Nat)(kb:KB):Prop where
 from_:∀p∈kb,∃j,j<i/\p=(ky j,ad j)
 all:∀j,j<i->ky j∈kb.map bw
theorem j7(W:Walks prog w A.in1 I fp wr n P St)(S:ai)(hSf:S∉fp)(ad:Nat->ai)(ky:Nat->y')(hval:∀i v,P i v->v=.ref (ad i))(hu:A.units+2<cLine)(U:wt)(hU:U.length<=76)(hky:∀i,i<n->ky i∈U)(hS:∀i,i<n->ad i≠S/\ad i∉wr):
  ∀(m i:Nat)(s:ag)(kb:KB),n-i=m->i<=n->St i s.heap->lM prog w s.heap S kb->Upto ky ad i kb->(∀j,j<n->ij (intKind prog w) s.heap (ky j) (ad j))->
   (∀h' tk Fu,(∀b o,b∉S::wr->s.heap.get? b=some o->h'.get? b=some o)->lM prog w h' S Fu->Upto ky ad n Fu->R (.ok (.ret .none)) {s with heap:=h',toks:=tk})->
   codeAny (model prog w) A (.builtin "set.update.loop" ⟨[.ref S,.ref I],[]⟩) R s:=by
 have hSw:S∉wr:=λh=>hSf (W.sub _ h);intro m
 induction m with
 |zero=>
  intro i s kb hk hi Fj hT Ex Eh hR;have Dm:i=n:=by lia
  subst Dm;refine jf F.entry_set_update_loop ?_;rw[gk F.plain_set_update_loop _];show wpAny _ A.in1 (pyNext (.ref I) >>=_) _ _ s;refine ae (W.done s _ _ Fj λh' tk hm=>?_);exact aj (hR h' tk kb (λb o hb e=>hm b o (λz=>hb (ax _ z)) e) (Cu.keep hT λo e=>hm S o hSw e) Ex)
 |succ m ih=>
  intro i s kb hk hi Fj hT Ex Eh hR;have hlt:i<n:=by lia
  refine jf F.entry_set_update_loop ?_;rw[gk F.plain_set_update_loop _];show wpAny _ A.in1 (pyNext (.ref I) >>=_) _ _ s;refine ae (W.item i s _ _ hlt Fj λv h' tk hP hst' hm=>?_);have ev:=hval i v hP;subst ev;have hT':lM prog w h' S kb:=Cu.keep hT λo e=>hm S o hSw e;have Fp:∀j,j<n->ij (intKind prog w) h' (ky j) (ad j):=λj hj=>yJ (Eh j hj) λo e=>hm _ o (hS j hj).2 e;show wpAny _ A.in1 (holding [jd (ad i)] (setAdd S (.ref (ad i))) >>=_) _ _ _;refine ae (ff ?_);unfold setAdd;refine ff ?_;refine ae (wpAny_pyHash_tuple (s:={s with heap:=h',toks:=tk}) (show A.in1.units<cLine by show A.units+1<cLine;lia) (Fp i hlt) ?_);obtain⟨o,es,ep,t,Pt⟩:=hT';have tups:yH prog w h' kb:=λp hp=>by obtain⟨j,hj,rfl⟩:=Ex.from_ p hp;exact Fp j (by lia)
  have hsub:∀x∈kb.map bw,x∈U:=λx hx=>by obtain⟨p,hp,rfl⟩:=bz.mp hx;obtain⟨j,hj,rfl⟩:=Ex.from_ p hp;exact hky j (by lia)
  refine j6 (s:={s with heap:=h',toks:=tk+((ky i).length+1)}) (a:=S) (k:=ky i) (b:=ad i) Pt tups (Fp i hlt) (by show A.units+1<cLine;lia) (λDl=>?_) λh2 kb2 r sb hT2 q1 q2=>?_
  ·have nd:(ky i::kb.map bw).Nodup:=jw.mpr ⟨Dl,Pt.nd⟩;have:=nd.length_le_of_subset (l₂:=U) λx hx=>by
    rcases bc.mp hx with rfl|hx
    ·exact hky i hlt
    ·exact hsub x hx
   simp at this
   lia
  ·have hup2:Upto ky ad (i+1) kb2:=by
    by_cases Dm:ky i∈kb.map bw
    ·have pm:=q1 Dm;refine⟨λp hp=>?_,λj hj=>?_⟩
     ·obtain⟨j,hj,e⟩:=Ex.from_ p (pm.mem_iff.mp hp);exact⟨j,by lia,e⟩
     ·rw[(pm.map bw).mem_iff]
      rcases jr j i with z|z
      ·exact Ex.all j z
      ·have:j=i:=by lia
       subst this;exact Dm
    ·have pm:=q2 Dm;refine⟨λp hp=>?_,λj hj=>?_⟩
     ·rcases bc.mp (pm.mem_iff.mp hp)with z|z
      ·exact⟨i,by lia,z⟩
      ·obtain⟨j,hj,e⟩:=Ex.from_ p z;exact⟨j,by lia,e⟩
     ·rw[(pm.map bw).mem_iff,cy,bc]
      rcases jr j i with z|z
      ·exact .inr (Ex.all j z)
      ·have:j=i:=by lia
       subst this;exact .inl rfl
   refine aj ⟨Bp F.plain_set_update_loop _,ih (i+1) _ kb2 (by lia) hlt (W.frame _ _ _ hst' λb hb o e=>?_) hT2 hup2 (λj hj=>?_) λh3 tk3 kb3 k3 hT3 hup3=>?_⟩
   ·rw[sb.2 b (λz:b=S=>hSf (by rw[<-z];exact hb))];exact e
   ·exact yJ (Fp j hj) λo e=>(sb.2 _ (hS j hj).1).trans e
   ·refine hR h3 tk3 kb3 (λb o hb e=>k3 b o hb ?_) hT3 hup3;exact(sb.2 b λz=>hb (by rw[z];exact bh)).trans (hm b o (λz=>hb (ax _ z)) e)
end
theorem walk_slots:Slot "set" "__iter__" "set.__iter__"/\Slot "set_iterator" "__next__" "set_iterator.__next__"/\Slot "set_iterator" "__iter__" "set_iterator.__iter__"/\Slot "set" "__len__" "set.__len__":=by
 refine⟨Slot.of (owner:="set") (n:="__iter__") ?_ ?_ ?_ ?_ ?_ ?_,Slot.of (owner:="set_iterator") (n:="__next__") ?_ ?_ ?_ ?_ ?_ ?_,Slot.of (owner:="set_iterator") (n:="__iter__") ?_ ?_ ?_ ?_ ?_ ?_,Slot.of (owner:="set") (n:="__len__") ?_ ?_ ?_ ?_ ?_ ?_⟩
 all_goals first
  |decide+kernel
  |(rw[typeLookup_type,builtinLookup_eq_fast];kernel_rfl)
  |(rw[isSubtype_type];kernel_rfl)
  |(left;decide+kernel)
  |(right;decide+kernel)
theorem yK(a:af):argsOk "set.__iter__" ⟨[a],[]⟩/\argsOk "set_iterator.__next__" ⟨[a],[]⟩/\argsOk "set_iterator.__iter__" ⟨[a],[]⟩:=by refine⟨?_,?_,?_⟩<;>unfold argsOk<;>kernel_rfl
theorem NA:entryFor table "set_iterator.__next__"=some my.«set_iterator.__next__»:=entryFor_of_fast (by kernel_rfl)
theorem j8:entryFor table "set.__iter__"=some my.«frozenset.__iter__»:=entryFor_alias (id':="frozenset.__iter__") (by kernel_rfl) rfl (by decide+kernel) (by kernel_rfl)
theorem j9:entryFor table "set_iterator.__iter__"=some my.«dict_keyiterator.__iter__»:=entryFor_alias (id':="dict_keyiterator.__iter__") (by kernel_rfl) rfl (by decide+kernel) (by kernel_rfl)
theorem erase_perm{α:Type}:∀(l:List α)(i:Nat)(h:i<l.length),(l[i]::l.eraseIdx i).Perm l
 |[],_,h=>absurd h (by simp)
 |x::r,0,_=>.refl _
 |x::r,i+1,h=>by have ih:=erase_perm r i (by simpa using h);show((r[i]'(by simpa using h))::x::r.eraseIdx i).Perm (x::r);exact(Bm _ _ _).trans (ih.cons x)
theorem NB{α:Type}(next:Nat->Nat):∀(fuel k:Nat)(l:List α)(out:Array α),l.length<=fuel->(yq next fuel k l out).toList.Perm (out.toList++l)
 |0,k,l,out,h=>by have:l=[]:=ub.mp (by lia);subst this;rw[yq];simp
 |fuel+1,k,l,out,h=>by
  rw[yq]
  cases l with
  |nil=>simp
  |cons x r=>have hlt:next k%(x::r).length<(x::r).length:=Nat.mod_lt _ (by simp);rw[bo hlt];dsimp only;refine(NB next fuel (k+1) _ _ (by rw[zc hlt];lia)).trans ?_;rw[Array.toList_push,nc];refine zd _ ?_;exact erase_perm _ _ hlt
theorem k6{α:Type}(next:Nat->Nat)(xs:Array α):(pickOrder next xs).toList.Perm xs.toList:=by unfold pickOrder;have:=NB next xs.size 0 xs.toList #[] (by simp);simpa using this
section
variable{prog:bj}{w:cb}
def iH(w:cb)(a:ai)(ep:Nat)(es:Array (Int×af)):Array (Int×af):=if w.params.followText "set-order" then pickOrder (w.params.setOrder a ep) es else es
theorem DZ(w:cb)(a:ai)(ep:Nat)(es:Array (Int×af)):(iH w a ep es).toList.Perm es.toList:=by
 unfold iH
 split
 ·exact k6 _ _
 ·exact .refl _
theorem yL(w:cb)(a:ai)(ep:Nat)(es:Array (Int×af)):(iH w a ep es).size=es.size:=by simpa using(DZ w a ep es).length_eq
def iA(w:cb)(t:gy)(i:Nat):Nat:=if w.params.followText "set-order" then 0 else match i with|0=>0|j+1=>t.place.getD j 0+1
def kR(a:ai)(slot i n ep:Nat):Obj:={cls:=.type "set_iterator",data:=.fields #[rawInt slot,rawInt i,.ref a,rawInt n,rawInt ep]}
theorem k7{t:gy}{hs:y'}(T:Dy t hs)(hb:w.params.followText "set-order"=false){i:Nat}(hi:i<=t.place.size):qt t.place (iA w t i)=i:=by
 obtain⟨h1,h2,h3⟩:=sE (j:=iA w t i) T.rise;have mono:∀a b(ha:a<t.place.size)(hb:b<t.place.size),a<b->t.place[a]<t.place[b]:=by intro a b ha hb Ez;have:=fj.mp T.rise a b (by simpa using ha) (by simpa using hb) Ez;simpa using this
 unfold iA at h1 h2 h3⊢;rw[hb]at h1 h2 h3⊢;simp only[cf,if_false]at h1 h2 h3⊢
 cases i with
 |zero=>
  dsimp only at h1 h2 h3⊢;generalize qt t.place 0=r at h1 h2 h3⊢
  cases r with
  |zero=>rfl
  |succ r=>have:=h1 r (by lia) (by lia);lia
 |succ j=>
  dsimp only at h1 h2 h3⊢;have hj:j<t.place.size:=by lia
  have ej:t.place.getD j 0=t.place[j]:=by simp[lx,hj]
  rw[ej]at h1 h2 h3⊢;generalize qt t.place (t.place[j]+1)=r at h1 h2 h3⊢
  rcases xf r (j+1)with q|q|q
  ·have:=h2 j hj (by lia);lia
  ·exact q
  ·have:=h1 (j+1) (by lia) q;have:=mono j (j+1) hj (by lia) (by lia)
   lia
end
section
variable{a it:ai}{hs:y'}{o:Obj}{es:Array (Int×af)}{ep:Nat}{t:gy}
theorem k9{Q:Bool->ag->Prop}(P:Cq w s.heap a hs o es ep t)(h:Q false s):wpAny (model prog w) A (setDrawn a) Q E s:=by
 unfold setDrawn setsByText;refine ae (jm P.obj P.data P.fits ?_);dsimp only;refine ae (ae (ou (aj ?_)));have e:(!(w.params.followText "set-order")&&((!t.plain)&&decide (es.size>1)))=false:=by rw[P.tab.plain];simp
 show wpAny _ _ (pure (!(w.params.followText "set-order")&&((!t.plain)&&decide (es.size>1)))) _ _ s;rw[e];exact aj h
theorem l8{Q:af->ag->Prop}(P:Cq w s.heap a hs o es ep t)(h:Q (.ref s.heap.objs.size) {s with heap:=s.heap.push (kR a 0 0 es.size ep)}):
  wpAny (model prog w) A (pyIter (.ref a)) Q E s:=by
 have hT:s.TypeIs (.ref a) "set":=⟨o,P.obj,P.ex.1⟩;refine yr hT walk_slots.1 (fe walk_slots.1 hT j8 ?_ (yK _).1);unfold my.«frozenset.__iter__» Builtin.Frozenset.slot0;refine ae (m:=(do Builtin.Frozenset.addrOf (<-slotArgs "__iter__" 0 ⟨[.ref a],[]⟩).1:Sem ai)) (aj ?_);unfold Builtin.Frozenset.sizeOf;refine ae (ae (xg P.obj P.data P.fits (aj ?_)));refine ae (k9 P ?_);simp only[cf,if_false];refine ae (aj ?_);refine ae (wpAny_setEpoch_of P.obj P.data P.fits ?_);refine ae (fh ?_ (by size_fits));refine aj ⟨_,rfl,"set_iterator",_,⟨_,aw _ rfl,rfl⟩,walk_slots.2.1.lookup,h⟩
end
section
variable{a it:ai}{hs:y'}{o:Obj}{es:Array (Int×af)}{ep:Nat}{t:gy}
theorem NC{i:Nat}{Q:Option (af×Nat)->ag->Prop}(P:Cq w s.heap a hs o es ep t)(hi:i<=es.size)(h:Q (((iH w a ep es)[i]?).map λe=>(e.2,iA w t (i+1))) s):wpAny (model prog w) A (setNext a (iA w t i) i ep) Q E s:=by
 unfold setNext setsByText;refine ae (jm P.obj P.data P.fits ?_);dsimp only;refine ae (ae (ou (aj ?_)));have hps:t.place.size=es.size:=by have:=P.tab.size;rw[P.size];simpa using this
 show wpAny _ _ (if w.params.followText "set-order"=true then _ else _) _ _ s
 by_cases hb:w.params.followText "set-order"=true
 ·rw[if_pos hb,if_neg (by simp)];refine ae ?_;unfold setWalk setsByText;refine ae (jm P.obj P.data P.fits ?_);dsimp only;refine ae (ae (ou (aj ?_)));show wpAny _ _ (if w.params.followText "set-order"=true then _ else _) _ _ s;rw[if_pos hb];refine ae (ou (aj (aj ?_)));unfold iH iA at h;unfold iA;rw[if_pos hb]at h⊢;rw[if_pos hb]at h;exact h
 ·have hb':w.params.followText "set-order"=false:=by simpa using hb
  rw[if_neg hb];have hl:t.led=true:=by rw[P.led,hb'];rfl
  have hd:((!t.plain)&&decide (es.size>1))=false:=by rw[P.tab.plain];rfl
  show wpAny _ _ (if((!t.plain)&&decide (es.size>1))=true then _ else _) _ _ s;rw[hd];simp only[cf,if_false];show wpAny _ _ ((if((!t.led)&&!es.isEmpty)=true then _ else _) >>=_) _ _ s;rw[hl];simp only[qg,Bool.false_and,cf,if_false];refine ae (aj ?_);have hbl:=k7 (w:=w) P.tab hb' (i:=i) (by lia);rw[hbl];unfold iH at h;rw[if_neg hb]at h;refine aj ?_
  by_cases hlt:i<es.size
  ·have e1:es[i]?=some es[i]:=fi hlt;have e2:t.place[i]?=some t.place[i]:=fi (by lia);rw[e1]at h;rw[e1,e2];have e3:iA w t (i+1)=t.place[i]+1:=by unfold iA;rw[if_neg hb];simp[lx,show i<t.place.size by lia]
   rw[e3]at h;exact h
  ·have e1:es[i]?=none:=ly (by lia);rw[e1]at h⊢;exact h
theorem l9{i:Nat}{x:Int×af}{Q:Option af->ag->Prop}(P:Cq w s.heap a hs o es ep t)(hit:s.heap.get? it=some (kR a (iA w t i) i es.size ep))(hx:(iH w a ep es)[i]?=some x)(hQ:∀h',h'.get? it=some (kR a (iA w t (i+1)) (i+1) es.size ep)->ig it s.heap h'->Q (some x.2) {s with heap:=h'}):wpAny (model prog w) A (pyNext (.ref it)) Q E s:=by
 have hT:s.TypeIs (.ref it) "set_iterator":=⟨_,hit,rfl⟩;have hlt:i<es.size:=by rw[<-yL w a ep es];exact(dw.mp hx).1
 unfold pyNext;refine ae (uq (gr (name:=mr "__next__") hT walk_slots.2.1 (fe walk_slots.2.1 hT NA ?_ (yK _).2.1)));unfold my.«set_iterator.__next__»;refine ae (m:=slotArgs "__next__" 0 ⟨[.ref it],[]⟩) (aj ?_);refine ae (Az hit rfl ?_);dsimp only;show wpAny _ _ (setEntries a >>=_) _ _ s;refine ae (xg P.obj P.data P.fits ?_);rw[if_neg (by simp)];show wpAny _ _ (setNext a ((iA w t i:Nat):Int).toNat ((i:Nat):Int).toNat ((ep:Nat):Int).toNat >>=_) _ _ s;rw[dh,dh,dh];refine ae (NC P (gh hlt) ?_);rw[hx];show wpAny _ _ (setField (.ref it) 0 (rawInt ((iA w t (i+1):Nat):Int)) >>=_) _ _ s;refine ae (iz hit (by simp) λh1 g1 b1=>?_);refine ae (iz g1 (by simp) λh2 g2 b2=>?_);refine aj ⟨_,rfl,aj (hQ h2 ?_ (b1.trans b2))⟩;rw[g2];rfl
theorem m6{i:Nat}{Q:Option af->ag->Prop}(hh:A.handled=none)(P:Cq w s.heap a hs o es ep t)(hit:s.heap.get? it=some (kR a (iA w t i) i es.size ep))(hi:i=es.size)(hQ:∀h',xv it s.heap h'->Q none {s with heap:=h'}):wpAny (model prog w) A (pyNext (.ref it)) Q E s:=by
 have hT:s.TypeIs (.ref it) "set_iterator":=⟨_,hit,rfl⟩;unfold pyNext;refine ae (uq (gr (name:=mr "__next__") hT walk_slots.2.1 (fe walk_slots.2.1 hT NA ?_ (yK _).2.1)));unfold my.«set_iterator.__next__»;refine ae (m:=slotArgs "__next__" 0 ⟨[.ref it],[]⟩) (aj ?_);refine ae (Az hit rfl ?_);dsimp only;show wpAny _ _ (setEntries a >>=_) _ _ s;refine ae (xg P.obj P.data P.fits ?_);rw[if_neg (by simp)];show wpAny _ _ (setNext a ((iA w t i:Nat):Int).toNat ((i:Nat):Int).toNat ((ep:Nat):Int).toNat >>=_) _ _ s;rw[dh,dh,dh];refine ae (NC P (rf hi) ?_);rw[ly (by rw[yL];lia)];show wpAny _ _ (setField (.ref it) 2 jn >>=_) _ _ s;refine ae (iz hit (by simp) λh1 g1 b1=>?_);show wpAny _ _ (newExc (.type "StopIteration") [] >>=_) _ _ _;refine ae ?_;simp only[newExc,newTuple];refine ae (fh ?_ (by size_fits));refine ae (m:=firstArgMember _ _) (wb (a:=jn) (by first|rfl|(simp only[firstArgMember];rfl)) ?_);refine fh ?_ (by size_fits);simp only[raiseNew];refine ae (wpAny_handled ?_);rw[show A.in1.handled=none from hh];refine ae (aj (wpAny_throw ?_));refine ae (uy (T:="StopIteration") (b:=true) ⟨_,aw _ rfl,rfl⟩ Ax ?_);exact aj (hQ _ ((b1.extBut.push _).push _))
end
section
variable{a:ai}{hs:y'}{o:Obj}{es:Array (Int×af)}{ep:Nat}{t:gy}
theorem m7(hh:A.handled=none)(I:ai)(hne:a≠I):
  Walks prog w A I [I,a] [I] es.size (λi v=>∃x,(iH w a ep es)[i]?=some x/\v=x.2) (λi h=>Cq w h a hs o es ep t/\h.get? I=some (kR a (iA w t i) i es.size ep)) where
 sub:=λb hb=>by rw[cg.mp hb];exact bh ..
 frame:=λi h h'⟨p,q⟩k=>⟨p.at' (k a (by simp) _ p.obj),k I (by simp) _ q⟩
 item:=λi s Q E hi⟨p,q⟩hQ=>by
  have hi':i<(iH w a ep es).size:=by rw[yL];exact hi
  have hx:(iH w a ep es)[i]?=some (iH w a ep es)[i]:=fi hi';refine l9 p q hx λh' q' sb=>hQ _ h' s.toks ⟨_,hx,rfl⟩ ⟨p.at' ((sb.2 a hne).trans p.obj),q'⟩ λb o hb e=>?_;exact(sb.2 b λz=>hb (by rw[z];exact bh ..)).trans e
 done:=λs Q E⟨p,q⟩hQ=>m6 hh p q rfl λh' x=>hQ h' s.toks λb o hb e=>x b o (λz=>hb (by rw[z];exact bh ..)) e
 self:=λi s Q E⟨_,q⟩hQ=>by have hT:s.TypeIs (.ref I) "set_iterator":=⟨_,q,rfl⟩;refine yr hT walk_slots.2.2.1 (fe walk_slots.2.2.1 hT j9 ?_ (yK _).2.2);exact aj ⟨_,rfl,"set_iterator",_,⟨_,q,rfl⟩,walk_slots.2.1.lookup,hQ⟩
theorem m8{S:ai}{n:Nat}{Q:Unit->ag->Prop}(h:s.heap.get? S=some (seqObj "list" #[] n))(q:∀h' c,h'.get? S=some (seqObj "list" #[] c)->(∀b o,b≠S->s.heap.get? b=some o->h'.get? b=some o)->Q () {s with heap:=h'}):
  wpAny (model prog w) A (xj (.ref S)) Q E s:=by
 unfold xj;refine ae (uv h rfl ?_);have h1:=nj h (λx=>x.push jn);refine uv h1 rfl ?_;have h2:=nj h1 (λx=>x.pop);refine q _ _ h2 λb o hb e=>?_;rw[jz _ _ _ _ hb,jz _ _ _ _ hb];exact e
theorem ND{Q:List af->ag->Prop}(hh:A.handled=none)(P:Cq w s.heap a hs o es ep t)(hn:es.size<=cp)(q:∀(h':cq)(tk:Nat),(∀b o,s.heap.get? b=some o->h'.get? b=some o)->s.heap.objs.size<=h'.objs.size->Q ((iH w a ep es).toList.map (·.2)) {s with heap:=h',toks:=tk}):wpAny (model prog w) A (collect (.ref a)) Q E s:=by
 have la:a<s.heap.objs.size:=au P.obj;have up1:∀b o,s.heap.get? b=some o->(s.heap.push (seqObj "list" #[] 0)).get? b=some o:=λb o e=>ak _ e;have hS1:(s.heap.push (seqObj "list" #[] 0)).get? s.heap.objs.size=some (seqObj "list" #[] 0):=aw _ rfl;have P1:Cq w (s.heap.push (seqObj "list" #[] 0)) a hs o es ep t:=P.at' (up1 a o P.obj);have hT1:vf {s with heap:=s.heap.push (seqObj "list" #[] 0)} (.ref a) "set":=⟨o,P1.obj,P1.ex.1⟩;unfold collect;refine ae (wj (jf wk ?_));rw[gk F.plain_proto_collect _];refine ae (m:=newList []) (nq (aj ⟨rh _ (by decide+kernel),jf zo ?_⟩));rw[gk F.plain_list_iadd _];show wpAny _ A.in1 (ll (.ref s.heap.objs.size) (.ref a) (.ref s.heap.objs.size)) _ _ {s with heap:=s.heap.push (seqObj "list" #[] 0)};unfold ll;refine ae (qd hT1 ?_);have ne:wy (.ref s.heap.objs.size) (.ref a)=false:=by simp[wy,jh la]
 rw[if_neg (by rw[ne];decide)];refine ae (l8 P1 ?_);have sz:(s.heap.push (seqObj "list" #[] 0)).objs.size=s.heap.objs.size+1:=ya _ _;rw[sz];have up2:∀b o,(s.heap.push (seqObj "list" #[] 0)).get? b=some o->((s.heap.push (seqObj "list" #[] 0)).push (kR a 0 0 es.size ep)).get? b=some o:=λb o e=>ak _ e;have P2:Cq w ((s.heap.push (seqObj "list" #[] 0)).push (kR a 0 0 es.size ep)) a hs o es ep t:=P1.at' (up2 a o P1.obj);have hT2:vf {s with heap:=(s.heap.push (seqObj "list" #[] 0)).push (kR a 0 0 es.size ep)} (.ref a) "set":=⟨o,P2.obj,P2.ex.1⟩;have hI2:((s.heap.push (seqObj "list" #[] 0)).push (kR a 0 0 es.size ep)).get? (s.heap.objs.size+1)=some (kR a 0 0 es.size ep):=by rw[<-sz];exact aw _ rfl
 refine ae (ff ?_);unfold Builtin.List.listLengthHint;refine ae (wpAny_specialOf hT2 walk_slots.2.2.2.lookup ?_);have spl:splitId "set.__len__"=some ("set","__len__"):=by decide+kernel
 dsimp only;rw[spl];dsimp only;refine ae (uy (b:=true) hT2 sub_set_self ?_);rw[if_neg (by decide),if_pos (by decide+kernel)];refine ae (qd hT2 (aj ?_));rw[if_pos (by decide+kernel)];refine ae (tq ?_);refine ae (m8 (s:={s with heap:=(s.heap.push (seqObj "list" #[] 0)).push (kR a 0 0 es.size ep)}) (up2 _ _ hS1) λh3 c hS3 up3=>?_);have neS:∀b o,s.heap.get? b=some o->b≠s.heap.objs.size:=λb o e=>ay (au e);have P3:Cq w h3 a hs o es ep t:=P2.at' (up3 a o (ay la) P2.obj);have hI3:h3.get? (s.heap.objs.size+1)=some (kR a 0 0 es.size ep):=up3 _ _ (qj _) hI2;have hz:iA w t 0=0:=by unfold iA;split<;>rfl
 have hh2:A.in1.handled=none:=by simp[hh]
 have nin:s.heap.objs.size∉[s.heap.objs.size+1,a]:=λm=>by
  rcases bc.mp m with e|m
  ·exact qj _ e.symm
  ·exact jh la (cg.mp m)
 refine aj ⟨Bp F.plain_extend_loop _,codeAny_extend_loopS (A:=A) ((m7 (hs:=hs) (o:=o) (t:=t) (ep:=ep) (es:=es) hh2 (s.heap.objs.size+1) (a:=a) (ay (ji la))).toS) hn s.heap.objs.size nin _ es.size 0 {s with heap:=h3} #[] c rfl (gg _)
  ⟨P3,by rw[hz];exact hI3⟩ hS3 (ItemsOf.nil _) λs' acc c' mv hS' ia=>?_⟩
 have eacc:acc.toList=(iH w a ep es).toList.map (·.2):=by
  apply sk
  intro i;rw[jk,dm,jk]
  cases q:acc[i]? with
  |some v=>obtain⟨x,h1,h2⟩:=ia.2 i v q;rw[h1,h2];rfl
  |none=>have h1:acc.size<=i:=yt.mp q;rw[ly (by rw[yL,<-ia.1];exact h1)];rfl
 obtain⟨hp,gs,dr,tk,os⟩:=s';have e1:gs=s.gens:=mv.gens;have e2:dr=s.drawn:=mv.drawn;have e3:os=s.os:=mv.os;subst e1;subst e2;subst e3;show wpAny _ A (load s.heap.objs.size >>=_) _ _ _;refine ae (Al hS' (aj ?_));rw[eacc];refine q hp tk (λb o e=>mv.heap b o (λm=>?_) (up3 b o (neS b o e) (up2 b o (up1 b o e)))) (gh (au hS'))
 rcases bc.mp m with z|m
 ·exact neS b o e z
 ·exact ay (ji (au e)) (cg.mp m)
end
open PySem.W SoM L2
section
theorem NF{fin:Bool}{Q:Bool->ag->Prop}:∀{kx ky:y'}{vx vy:List af}(i:Nat),ItemsAre (intKind prog w) kx vx->ItemsAre (intKind prog w) ky vy->fin=decide (vx.length<vy.length)->Q (eC kx ky) s->KatLex prog w A true fin Q (vx.zip vy) i s
 |_,_,_,_,i,.nil,.nil,hf,h=>by subst hf;exact kat_nil h
 |_,_,_,_,i,.nil,.cons _ _,hf,h=>by subst hf;refine kat_nil ?_;rw[decide_eq_true (by simp)];exact h
 |_,_,_,_,i,.cons _ _,.nil,hf,h=>by subst hf;refine kat_nil ?_;rw[decide_eq_false (by simp)];exact h
 |_,_,_,_,i,.cons (k:=a) hu hx,.cons (k:=b) hv hy,hf,h=>by
  obtain⟨t,rfl⟩:=kn hu;obtain⟨t',rfl⟩:=kn hv;refine kat_cons (wpAny_eqBool_int (kat_go (λe=>?_) λe=>?_))
  ·refine kat_yes (NF (i+1) hx hy (hf.trans (by simp)) ?_);rw[eC,if_pos e]at h;exact h
  ·have h':Q (decide (a<b)) s:=by rw[eC,if_neg (by rw[e];simp)]at h;exact h
   refine kat_no ?_
   cases q:i==0 with
   |true=>exact oneLt_int h'
   |false=>exact kat_one _ _ (yi h')
theorem m9{x y:ai}{kx ky:y'}{Q:Bool->ag->Prop}(hx:ij (intKind prog w) s.heap kx x)(hy:ij (intKind prog w) s.heap ky y)(h:Q (eC kx ky) s):wpAny (model prog w) A (keyLt' (tuples' true) (.ref x) (.ref y)) Q E s:=by obtain⟨ox,ix,nx,e1,_,d1,i1⟩:=hx;obtain⟨oy,iy,ny,e2,_,d2,i2⟩:=hy;exact kat_lt e1 d1 e2 d2 (NF 0 i1 i2 (by simp) h)
def Dq(prog:bj)(w:cb)(h:cq)(n:Nat)(ad:Nat->ai)(ky:Nat->y'):Prop:=∀i,i<n->ij (intKind prog w) h (ky i) (ad i)/\ky i≠[]
def cO(n:Nat)(ad:Nat->ai):List af:=(az n).map λi=>.ref (ad i)
theorem lN(n:Nat)(ad:Nat->ai):(cO n ad).length=n:=by simp[cO]
theorem EA{n:Nat}{ad:Nat->ai}{i:Nat}(h:i<n):(cO n ad).getD i jn=.ref (ad i):=by simp[cO,h]
theorem NG:∀(l:A'){ad:Nat->ai}{ky:Nat->y'},(∀i∈l,ij (intKind prog w) s.heap (ky i) (ad i)/\ky i≠[])->∃fs:List af,KatTups s.heap (l.map λi=>.ref (ad i)) fs/\fs.length=l.length/\∀v∈fs,∃a t,v=.int a t
 |[],_,_,_=>⟨[],trivial,rfl,by simp⟩
 |i::l,ad,ky,h=>by
  obtain⟨fs,t,hl,hv⟩:=NG l (ad:=ad) (ky:=ky) λj hj=>h j (ax _ hj);obtain⟨⟨o,its,n,e,c,d,r⟩,ne⟩:=h i (bh ..)
  cases q:its.toList with
  |nil=>rw[q]at r;cases hk:ky i with
   |nil=>exact absurd hk ne
   |cons a b=>rw[hk]at r;cases r
  |cons v vs=>
   rw[q]at r
   cases hk:ky i with
   |nil=>exact absurd hk ne
   |cons a b=>
    rw[hk]at r
    cases r with
    |cons hu _=>
     obtain⟨tk,rfl⟩:=kn hu;refine⟨.int a tk::fs,KatTups.cons e c d (by rw[<-jk,q];rfl) t,by simp[hl],λv hv'=>?_⟩
     rcases bc.mp hv' with rfl|hv'
     ·exact⟨_,_,rfl⟩
     ·exact hv v hv'
theorem n9{n:Nat}{ad:Nat->ai}{ky:Nat->y'}{G:Array Nat->ag->Prop}(h2:2<=n)(hk:Dq prog w s.heap n ad ky)(h:∀p,Ent n p->hY eC (p.toList.map ky)->G p s):
  wpAny (model prog w) A (keyKind' (cO n ad).toArray) (λκ s'=>(kas_sort (cO n ad).length).kasWp (kas_ask prog w A κ (cO n ad)) G s') (λ_ _=>False) s:=by
 obtain⟨fs,t,hl,hv⟩:=NG (prog:=prog) (w:=w) (s:=s) (az n) (ad:=ad) (ky:=ky) λi hi=>hk i (br.mp hi);refine kat_kind (T:=.type "int") t (by rw[hl,nh];lia) (λv hv'=>?_) (by decide) ?_
 ·obtain⟨a,tk,rfl⟩:=hv v hv';exact .now
 ·rw[lN]
  let ks:=(az n).map ky
  have mem:∀i,i<n->ky i∈ks:=λi hi=>bz.mpr ⟨i,br.mpr hi,rfl⟩;refine L9 (n:=n) (f:=λi=>rk eC ks (ky i)) (I:=λs'=>s'=s) (λi j C s' hs hi hj hC=>?_) (kas_sort n) (λp=>Ent n p/\hY eC (p.toList.map ky)) G s s (Z3 (by lia) λp e inc=>⟨e,?_⟩) rfl λp s' hp hs=>by subst hs;exact h p hp.1 hp.2
  ·subst hs;show wpAny (model prog w) A (keyLt' (tuples' true) ((cO n ad).getD i jn) ((cO n ad).getD j jn)) C (λ_ _=>False) s';rw[EA hi,EA hj];refine m9 (hk i hi).1 (hk j hj).1 ?_;have:=hC s' rfl;rwa [MG Ej (mem i hi)]at this
  ·refine fj.mpr λi j hi hj Ea=>?_;have hj':j<p.size:=by simpa using hj
   have hi':i<p.size:=by lia
   have z:=inc i j (gh Ea) (by rw[<-e.1];exact hj');unfold SoM.F at z;have ei:p.getD i 0=p[i]:=by simp[lx,hi']
   have ej:p.getD j 0=p[j]:=by simp[lx,hj']
   rw[ei,ej]at z;have lt:∀k(hk:k<p.size),p[k]<n:=λk hk=>br.mp (e.2.mem_iff.mp (by simp));have:=Z5 Ej (mem _ (lt j hj')) z;simpa using this
end
section
abbrev nI(h h':cq):Prop:=∀b o,h.get? b=some o->h'.get? b=some o
def Ed(n:Nat)(ad:Nat->ai)(ky:Nat->y')(out:List af):Prop:=∃p:A',p.Perm (az n)/\hY eC (p.map ky)/\out=p.map λi=>.ref (ad i)
theorem Ed.len{n:Nat}{ad:Nat->ai}{ky:Nat->y'}{out:List af}(h:Ed n ad ky out):out.length=n:=by obtain⟨p,pp,_,e⟩:=h;rw[e,bf,pp.length_eq,nh]
theorem Dq.keep{h h':cq}{n:Nat}{ad:Nat->ai}{ky:Nat->y'}(k:Dq prog w h n ad ky)(g:∀i,i<n->∀o,h.get? (ad i)=some o->h'.get? (ad i)=some o):Dq prog w h' n ad ky:=λi hi=>⟨yJ (k i hi).1 (g i hi),(k i hi).2⟩
theorem o6{a:ai}{n c:Nat}{ad:Nat->ai}{ky:Nat->y'}{P:Fin->ag->Prop}(ho:s.heap.get? a=some (seqObj "list" (cO n ad).toArray c))(h64:n<64)(hk:Dq prog w s.heap n ad ky)(q:∀h' e out,Ed n ad ky out->h'.get? a=some (seqObj "list" out.toArray e)->(∀b o,b≠a->s.heap.get? b=some o->h'.get? b=some o)->P (.done (.ret .none)) {s with heap:=h'}):
  wpAny (model prog w) A (my.«list.sort» ⟨[.ref a],[]⟩) P E s:=by
 have la:a<s.heap.objs.size:=au ho;obtain⟨e1,g1⟩:∃e1,(s.heap.update a (qe λ_=>(#[]:Array af))).get? a=some (seqObj "list" #[] e1):=⟨_,nj ho λ_=>#[]⟩
 have k1:∀b o,b≠a->s.heap.get? b=some o->(s.heap.update a (qe λ_=>(#[]:Array af))).get? b=some o:=λb o hb e=>by rw[jz _ _ _ _ hb];exact e
 generalize hH1:s.heap.update a (qe λ_=>(#[]:Array af))=H1 at g1 k1;have k3:nI H1 ((H1.push (seqObj "tuple" (cO n ad).toArray 0)).push (seqObj "list" #[] 0)):=λb o e=>ak _ (ak _ e);have ne:∀i,i<n->ad i≠a:=λi hi e=>by obtain⟨⟨o,its,m,e1,c1,_⟩,_⟩:=hk i hi;rw[e,ho]at e1;cases e1;exact absurd (Value.type.inj c1) (by decide)
 have K3:Dq prog w ((H1.push (seqObj "tuple" (cO n ad).toArray 0)).push (seqObj "list" #[] 0)) n ad ky:=hk.keep λi hi o e=>k3 _ o (k1 _ o (ne i hi) e);have g3:=k3 a _ g1;have kk:∀b o,b≠a->s.heap.get? b=some o->((H1.push (seqObj "tuple" (cO n ad).toArray 0)).push (seqObj "list" #[] 0)).get? b=some o:=λb o hb e=>k3 b o (k1 b o hb e);have sl:n<=cp:=by rw[gv];lia
 have fin:∀(out:List af),Ed n ad ky out->wpAny (model prog w) A (do
   let touched:=(<-seqEpoch a) !=e1
   Builtin.List.listUpdate (.ref a) λ_=>out.toArray
   if let some e:=(none:Option af)then rule "list.sort.comparison-raised"; throw e
   if touched then rule "list.sort.modified"; raiseError "ValueError" "list modified during sort"
   ret .none) P E {s with heap:=(H1.push (seqObj "tuple" (cO n ad).toArray 0)).push (seqObj "list" #[] 0)}:=λout Gn=>by
  refine ae (seqEpoch_at g3 rfl ?_);refine ae (uv g3 rfl ?_ (gg _) (by rw[bg,Gn.len];lia));simp only[bne_self_eq_false,cf,if_false];exact aj (q _ _ out Gn (nj g3 λ_=>out.toArray) λb o hb e=>by rw[jz _ _ _ _ hb];exact kk b o hb e)
 generalize hH3:(H1.push (seqObj "tuple" (cO n ad).toArray 0)).push (seqObj "list" #[] 0)=H3 at k3 K3 g3 kk fin;rw[list_sort_plain];refine ae (listItems_at ho rfl (ae (uv ho rfl ?_ (by rw[bg,lN];exact sl) (gg _))));rw[hH1];refine ae (seqEpoch_at g1 rfl (ae (wpAny_newTuple (ae (nq (ff ?_) (gg _))) (by show(cO n ad).length<=_;rw[lN];exact sl))));show wpAny (model prog w) A _ P E {s with heap:=(H1.push (seqObj "tuple" (cO n ad).toArray 0)).push (seqObj "list" #[] 0)};rw[hH3];have hz:(cO n ad).toArray.size=n:=by rw[bg,lN]
 dsimp only
 by_cases h2:n<2
 ·rw[if_pos (by rw[hz];exact h2),if_pos (by rw[hz];exact h2)];refine ae (aj ?_);rw[StateT.run_pure];refine ae (aj ?_);have e:(arrOf (SortSt.mk' general' ((cO n ad).toArray.zip (cO n ad).toArray) #[] 7 none)).map (·.2)=(cO n ad).toArray:=by show(((cO n ad).toArray.zip (cO n ad).toArray)).map (·.2)=_;rw[Array.map_snd_zip (ao _)]
  dsimp only;rw[e];refine fin _ ⟨az n,.refl _,?_,rfl⟩;refine fj.mpr λi j hi hj Ea=>?_;rw[bf,nh]at hj
  lia
 ·have h2':2<=n:=by lia
  rw[if_neg (by rw[hz];exact h2),if_neg (by rw[hz];exact h2)];refine ae (kz (n9 (A:=A) (s:={s with heap:=H3}) (G:=λp s'=>s'={s with heap:=H3}/\Ent n p/\hY eC (p.toList.map ky)) h2' K3 λp e r=>⟨rfl,e,r⟩) (λκ s0 hκ=>?_) λ_ _ x=>x.elim);refine ae (kz (kat_run (ks:=cO n ad) (vs:=cO n ad) (Q:=λEn s'=>∃p:Array Nat,p.size=(cO n ad).length/\arrOf En=p.map (kas_item ((cO n ad).toArray.zip (cO n ad).toArray))/\failedOf En=none/\s'={s with heap:=H3}/\Ent n p/\hY eC (p.toList.map ky))
   rfl (by rw[lN];exact h2') (by rw[lN];exact h64) (λp En s' z1 z2 z3 z4=>⟨p,z1,z2,z3,z4⟩) hκ) ?_ λ_ _ e=>e)
  rintro ⟨⟨⟩,En⟩ s' ⟨p,_,z2,z3,rfl,z5,z6⟩
  dsimp only;rw[kat_snds rfl z2,z3];have e:(p.toList.map λi=>(cO n ad).getD i jn)=p.toList.map λi=>.ref (ad i):=List.map_congr_left λi hi=>EA (br.mp (z5.2.mem_iff.mp hi));rw[e];exact fin _ ⟨p.toList,z5.2,z6,rfl⟩
theorem o7{x:af}{n:Nat}{ad:Nat->ai}{ky:Nat->y'}{Q:af->ag->Prop}(h64:n<64)(hk:Dq prog w s.heap n ad ky)(hc:∀(Q':List af->ag->Prop)(E':af->ag->Prop),(∀h' tk,nI s.heap h'->s.heap.objs.size<=h'.objs.size->Q' (cO n ad) {s with heap:=h',toks:=tk})->wpAny (model prog w) A.in1 (collect x) Q' E' s)(q:∀h' tk D e out,Ed n ad ky out->s.heap.objs.size<=D->h'.get? D=some (seqObj "list" out.toArray e)->nI s.heap h'->Q (.ref D) {s with heap:=h',toks:=tk}):
  wpAny (model prog w) A (call (.builtin "sorted") [x]) Q E s:=by
 refine oh zw yu yv (yw _) ?_;unfold my.«sorted»;refine ae (m:=checkCount "sorted" 1 1 _) (aj (ae (hc _ _ λh1 tk k1 sz=>ae (nq ?_ (by rw[lN,gv];lia)))));have g:(h1.push (seqObj "list" (cO n ad).toArray 0)).get? h1.objs.size=some (seqObj "list" (cO n ad).toArray 0):=aw _ rfl;have k2:nI s.heap (h1.push (seqObj "list" (cO n ad).toArray 0)):=λb o e=>ak _ (k1 b o e);refine ae (ff (fe wm ⟨_,g,rfl⟩ vh (o6 (s:={s with heap:=h1.push (seqObj "list" (cO n ad).toArray 0),toks:=tk}) g h64 (hk.keep λi hi o e=>k2 _ o e) λh' e out so ho ke=>⟨_,rfl,?_⟩) (wq _)));exact aj ⟨_,rfl,q h' tk h1.objs.size e out so sz ho λb o e=>ke b o (ay (av (au e) sz)) (k2 b o e)⟩
end
def bare(w:cb):Obj:={cls:=.type "set",dict:=none,data:=.set #[] 0 (.fresh 0 0 (!w.params.followText "set-order"))}
section
theorem o8{h:cq}{a:ai}(e:h.get? a=some (bare w)):lM prog w h a []:=by
 have tok:∀led:Bool,Dy (.fresh 0 0 led) []:=λled=>⟨rfl,.nil,rfl,(λj hj=>nomatch hj),gg _,.inl rfl,(λi h j e=>nomatch e),rfl⟩
 exact⟨bare w,#[],0,_,e,⟨rfl,rfl,rfl⟩,rfl,rfl,tok _,.nil,(by show 0*5<7*3;decide),rfl⟩
theorem o9(a:af){Q:af->ag->Prop}(q:Q (.ref s.heap.objs.size) {s with heap:=s.heap.push (bare w)}):
  codeAny (model prog w) A (.call (.builtin "set.__new__") ⟨[.type "set",a],[]⟩) (wants Q E) s:=by
 refine wd F.plain_set_new F.entry_set_new (wb (F.newCall_set_1 a) ?_);have self:=sub_set_self;unfold my.«set.__new__» Builtin.Frozenset.newClass;cases s
 wp_walk
 exact ou (aj (ae (wpAny_alloc (aj (aj q)))))
theorem p0{v:af}{Q N:af->ag->Prop}(hn:codeAny (model prog w) A.in1 (.call (.builtin "set.__new__") ⟨[.type "set",v],[]⟩) (wants N E) s)(hi:∀x s1,N x s1->s1.TypeIs x "set"/\codeAny (model prog w) A.in1 (.call (.builtin "set.__init__") ⟨[x,v],[]⟩) (wants (λr s2=>r=.none/\Q x s2) E) s1):wpAny (model prog w) A (call (.type "set") [v]) Q E s:=by
 have f:=F.called_set;obtain⟨_,_,fm⟩:=f.mro;have fd:=f.made;have fs:=f.sub;have ft:=f.notType;have fc:=f.canCreate;have fk:=F.typeCall_set_1 v;have fl:=f.init.lookup;have q:(Code.builtin "type.__call__" ⟨[.type "set",v],[]⟩).quiet=true:=rh _ (by decide+kernel);refine Am (codeAny_of_tree (aj ⟨q,jf F.entry_type_call ?_⟩));rw[Around.under_plain (weight_type_call_type "set" [v] []) rfl]
 repeat (any_goals (first|assumption|wp_step))
 refine pz hn ?_
 rintro (e|fl1) s1 h1
 ·exact h1
 ·cases fl1<;>try exact h1.elim
  rename_i x;obtain⟨hx,hr⟩:=hi x s1 h1;have fb:=f.init.bind x
  repeat (any_goals (first|assumption|wp_step))
  refine pz hr ?_
  rintro (e|Gy) s2 h2
  ·exact h2
  ·cases Gy<;>try exact h2.elim
   obtain⟨rfl,h3⟩:=h2
   repeat (any_goals (first|assumption|wp_step))
theorem NH{l:ai}{T:String}{it:Obj}{Q:af->ag->Prop}{N:ag->Prop}(hT:s.TypeIs (.ref l) T)(n1:isSubtype (.type T) (.type "set")=pure false)(n2:isSubtype (.type T) (.type "frozenset")=pure false)(n3:(vp T==vp "dict")=false)(hi:∀(B:bx)(Q':af->ag->Prop)(E':af->ag->Prop),Q' (.ref (s.heap.objs.size+1)) {s with heap:=(s.heap.push (bare w)).push it}->wpAny (model prog w) B (pyIter (.ref l)) Q' E' {s with heap:=s.heap.push (bare w)})(run:∀(R:xm->ag->Prop),(((s.heap.push (bare w)).push it).get? s.heap.objs.size=some (bare w))->(∀b o,s.heap.get? b=some o->((s.heap.push (bare w)).push it).get? b=some o)->(∀s',N s'->R (.ok (.ret .none)) s')->
   codeAny (model prog w) A.in1.in1 (.builtin "set.update.loop" ⟨[.ref s.heap.objs.size,.ref (s.heap.objs.size+1)],[]⟩) R {s with heap:=(s.heap.push (bare w)).push it})(q:∀s',N s'->Q (.ref s.heap.objs.size) s'):wpAny (model prog w) A (call (.type "set") [.ref l]) Q E s:=by
 refine p0 (N:=λx s1=>x=.ref s.heap.objs.size/\s1={s with heap:=s.heap.push (bare w)}) (o9 _ ⟨rfl,rfl⟩) ?_
 rintro x s1 ⟨rfl,rfl⟩
 have up:∀b o,s.heap.get? b=some o->(s.heap.push (bare w)).get? b=some o:=λb o e=>ak _ e;have hb:(s.heap.push (bare w)).get? s.heap.objs.size=some (bare w):=aw _ rfl;have hS:vf {s with heap:=s.heap.push (bare w)} (.ref s.heap.objs.size) "set":=⟨_,hb,rfl⟩;refine⟨hS,wd F.called_set.init.plain F.entry_set_init (check_set_init_1 hS ?_)⟩;obtain⟨ol,el,cl⟩:=hT;have hl1:vf {s with heap:=s.heap.push (bare w)} (.ref l) T:=⟨ol,up l ol el,cl⟩
 have run:=λR=>run R (ak _ hb) λb o e=>ak _ (up b o e);unfold my.«set.__init__» noKeywords Builtin.Frozenset.updateFrom;generalize hPI:pyIter=PI;unfold bare at hb
 wp_walk
 subst hPI;refine hi _ _ _ ?_;refine ae (wj (run _ λs' n=>?_));exact aj (aj ⟨rfl,q s' n⟩)
theorem NI{l:ai}{T:String}{it:Obj}{n:Nat}{P:Nat->af->Prop}{St:Nat->cq->Prop}{fp wr:List ai}(ad:Nat->ai)(ky:Nat->y')(U:wt){Q:af->ag->Prop}(hu:A.units+8<cLine)(hT:s.TypeIs (.ref l) T)(n1:isSubtype (.type T) (.type "set")=pure false)(n2:isSubtype (.type T) (.type "frozenset")=pure false)(n3:(vp T==vp "dict")=false)(hi:∀(B:bx)(Q':af->ag->Prop)(E':af->ag->Prop),Q' (.ref (s.heap.objs.size+1)) {s with heap:=(s.heap.push (bare w)).push it}->wpAny (model prog w) B (pyIter (.ref l)) Q' E' {s with heap:=s.heap.push (bare w)})(W:Walks prog w A.in1.in1.in1 (s.heap.objs.size+1) fp wr n P St)(hfp:s.heap.objs.size∉fp)(hwr:∀b∈wr,s.heap.objs.size<b)(h0:St 0 ((s.heap.push (bare w)).push it))(hval:∀i v,P i v->v=.ref (ad i))(hU:U.length<=76)(hky:∀i,i<n->ky i∈U)(Eh:∀j,j<n->ij (intKind prog w) s.heap (ky j) (ad j))(q:∀(h':cq)(tk:Nat)kb,lM prog w h' s.heap.objs.size kb->Upto ky ad n kb->(∀b o,s.heap.get? b=some o->h'.get? b=some o)->Q (.ref s.heap.objs.size) {s with heap:=h',toks:=tk}):
  wpAny (model prog w) A (call (.type "set") [.ref l]) Q E s:=by
 have lt:∀j,j<n->ad j<s.heap.objs.size:=λj hj=>let ⟨_,_,_,e,_⟩:=Eh j hj;au e;refine NH (N:=λs'=>∃h' tk kb,s'={s with heap:=h',toks:=tk}/\lM prog w h' s.heap.objs.size kb/\Upto ky ad n kb/\∀b o,s.heap.get? b=some o->h'.get? b=some o) hT n1 n2 n3 hi (λR Fz up hR=>?_) λs'⟨h',tk,kb,e,S,u,k⟩=>by rw[e];exact q h' tk kb S u k
 refine j7 W s.heap.objs.size hfp ad ky hval (by show A.units+1+1+2<cLine;lia) U hU hky (λj hj=>⟨ay (lt j hj),λm=>Nat.lt_asymm (lt j hj) (hwr _ m)⟩) n 0 _ [] rfl (gg _) h0 (o8 Fz)
  ⟨(λp hp=>nomatch hp),λj hj=>absurd hj (yo j)⟩ (λj hj=>yJ (Eh j hj) λo e=>up _ o e) λh' tk kb keep S u=>hR _ ⟨h',tk,kb,rfl,S,u,λb o e=>?_⟩
 have hlt:=au e;exact keep b o (λm=>(bc.mp m).elim (ay hlt) λm=>Nat.lt_asymm hlt (hwr b m)) (up b o e)
end
end SR
namespace L2.Mr
open SR
def Cp(H:Hp):Ic->wt->Prop
 |[],[]=>True
 |v::vs,k::ks=>(∃b,v=.ref b/\H b=some (.tup (k.map Hi)))/\Cp H vs ks
 |_,_=>False
def p7:V->ai
 |.ref b=>b
 |_=>0
def gK(vs:Ic)(i:Nat):ai:=p7 (vs.getD i .non)
section
variable{X:Cx}{pins:List (ai×Obj)}{σ:St}{H H':Hp}{s:ag}
theorem Cp.len:∀{vs:Ic}{ks:wt},Cp H vs ks->vs.length=ks.length
 |[],[],_=>rfl
 |[],_::_,h=>h.elim
 |_::_,[],h=>h.elim
 |v::vs,k::ks,h=>by rw[cm,cm,Cp.len h.2]
theorem Cp.at_:∀{vs:Ic}{ks:wt}{i:Nat},Cp H vs ks->i<ks.length->vs[i]?=some (.ref (gK vs i))/\H (gK vs i)=some (.tup ((ks.getD i []).map Hi))
 |[],[],_,_,h=>by simp at h
 |[],_::_,_,h,_=>h.elim
 |_::_,[],_,h,_=>h.elim
 |v::vs,k::ks,0,h,_=>by obtain⟨⟨b,rfl,e⟩,_⟩:=h;exact⟨rfl,e⟩
 |v::vs,k::ks,i+1,h,hi=>by
  obtain⟨e1,e2⟩:=Cp.at_ (i:=i) h.2 (by simpa using hi);have ea:gK (v::vs) (i+1)=gK vs i:=by simp[gK]
  exact⟨by rw[ea];simpa using e1,by rw[ea];simpa using e2⟩
theorem NJ:∀{k:y'}{its:List af}{prog:bj}{w:cb},Cc (k.map Hi) its->ItemsAre (intKind prog w) k its
 |[],_,_,_,.nil=>.nil
 |n::k,_,_,_,.cons h1 h2=>by obtain⟨t,rfl⟩:=h1;exact .cons (Ba _ _ _ _) (NJ h2)
theorem EC(I:Inv X pins σ H s){b:ai}{k:y'}(e:H b=some (.tup (k.map Hi))):ij (intKind X.prog X.w) s.heap k b:=by obtain⟨_,its,r,o,e1,c,_,n,d⟩:=I.hok b _ e;exact⟨o,its.toArray,n,e1,c,d,NJ r⟩
theorem NK{vs:Ic}{ks:wt}{its:List af}(h:Cp H vs ks)(r:Cc vs its):its=cO ks.length (gK vs):=by
 have hl:=r.length;have hl2:=h.len
 apply sk
 intro i
 by_cases hi:i<ks.length
 ·obtain⟨e1,_⟩:=h.at_ hi;obtain⟨u,e2,e3⟩:=r.get e1;cases e3;rw[e2];simp[cO,hi]
 ·rw[Bb (by lia),Bb (by rw[lN];lia)]
theorem p8{n:Nat}{ad:Nat->ai}{ky:Nat->y'}{out:List af}(so:Ed n ad ky out)(hH:∀i,i<n->H (ad i)=some (.tup ((ky i).map Hi))):
  ∃(p:A')(Dr:Ic),p.Perm (az n)/\hY eC (p.map ky)/\Cc Dr out/\Cp H Dr (p.map ky):=by
 obtain⟨p,pp,r,rfl⟩:=so;refine⟨p,p.map λi=>Hz (ad i),pp,r,?_,?_⟩
 ·clear pp r
  induction p with
  |nil=>exact .nil
  |cons i p ih=>exact .cons rfl ih
 ·have:∀q:A',(∀i∈q,i<n)->Cp H (q.map λi=>Hz (ad i)) (q.map ky):=λq=>by
   induction q with
   |nil=>intro _;trivial
   |cons i q ih=>exact λh=>⟨⟨_,rfl,hH i (h i (bh ..))⟩,ih λj hj=>h j (ax _ hj)⟩
  exact this p λi hi=>br.mp (pp.mem_iff.mp hi)
theorem p9{α:Type}{p:A'}{n:Nat}{l:List α}{d:α}(h:p.Perm (az n))(hl:l.length=n):(p.map λi=>l.getD i d).Perm l:=by
 refine(h.map _).trans ?_;have:(az n).map (λi=>l.getD i d)=l:=by
  apply List.ext_getElem (by simp[hl])
  intro i h1 h2;simp[h2]
 rw[this]
def yM(prog:bj)(w:cb)(l:ai)(o:Obj)(kb:KB):Prop:=∃es ep t,∀h:cq,h.get? l=some o->Cu prog w h l kb o es ep t
structure KbOk(H:Hp)(kb:KB)(ks:wt):Prop where
 tup:∀p∈kb,H p.2=some (.tup (p.1.map Hi))
 frm:∀p∈kb,p.1∈ks
 all:∀k∈ks,k∈kb.map bw
abbrev NL(X:Cx):Ic->Hp->VK->Prop:=λxs H Q=>∃(p:ai)(vs:Ic)(ks:wt),xs=[.ref p]/\H p=some (.lst vs)/\Cp H vs ks/\(dE eC ks).length<=76/\∀l o kb,H l=none->yM X.prog X.w l o kb->KbOk H kb ks->Q (.ref l) (aV H l (.frz o (.own 0)))
theorem sub_list:isSubtype (.type "list") (.type "set")=pure false/\isSubtype (.type "list") (.type "frozenset")=pure false:=⟨F.sub_list_set,F.sub_list_frozenset⟩
theorem q5{k:Nat}(rm:Cv k X.A):Cf X (.type "set") (NL X):=by
 intro pins s σ H xs us Q I rv ⟨p,vs,ks,e,hp,ht,hU,q⟩;subst e;obtain⟨u,rfl,ru⟩:=iW rv;cases ru;obtain⟨its,rits,pl,hz⟩:=I.list (Hr hp);have hits:=NK ht rits;have lp:=I.hok.lt hp;have hI:s.heap.IsList p (cO ks.length (gK vs)).toArray:=by rw[<-hits];exact pl.isList
 have hsz:(cO ks.length (gK vs)).toArray.size=ks.length:=by rw[bg,lN]
 have hh:X.A.in1.in1.in1.handled=none:=rm.hd;have hne:p≠s.heap.objs.size+1:=ay (ji lp);have hb:(s.heap.push (bare X.w)).IsList p (cO ks.length (gK vs)).toArray:=hI.push _;have hs1:(s.heap.push (bare X.w)).objs.size=s.heap.objs.size+1:=ya _ _;have W:=vz (prog:=X.prog) (w:=X.w) (A:=X.A.in1.in1.in1) hh (s.heap.objs.size+1) p hne (cO ks.length (gK vs)).toArray;rw[hsz]at W;refine NI (T:="list") (it:={cls:=.type "list_iterator",data:=.fields #[.ref p,.int 0 0]}) (gK vs) (λi=>ks.getD i []) (dE eC ks) (by have:=rm.un;lia) hI.typeIs sub_list.1 sub_list.2 (by decide) (λB Q' E' hQ=>?_) W ?_ ?_ ?_ (λi v hv=>?_) hU (λi hi=>?_) (λj hj=>?_) λh' tk kb hS Ex k=>?_
 ·refine nu hb ?_;rw[<-hs1]at hQ;exact hQ
 ·intro m
  rcases bc.mp m with z|m
  ·exact qj _ z.symm
  ·exact jh lp (cg.mp m)
 ·intro b hb;rw[cg.mp hb];exact lg _
 ·refine⟨⟨{cls:=.type "list_iterator",data:=.fields #[.ref p,.int 0 0]},?_,rfl,rfl⟩,hb.push _⟩;rw[<-hs1];exact aw _ rfl
 ·have hi:i<ks.length:=by have:=(dw.mp hv).1;rwa [hsz]at this
  have:(cO ks.length (gK vs))[i]?=some (.ref (gK vs i)):=by simp[cO,hi]
  rw[Bc,this]at hv;exact(cn hv).symm
 ·refine(mP Ej _ _).mpr ?_;show ks.getD i []∈ks;simp[hi]
 ·exact EC I (ht.at_ hj).2
 ·obtain⟨o,es,ep,t,P⟩:=hS;refine⟨.ref s.heap.objs.size,_,I.laid (t':=tk) (o:=.frz o (.own 0)) k (ao _) ⟨P.obj,o,P.obj⟩,rfl,q _ o kb (I.hok.fresh (ao _)) ⟨es,ep,t,λh e=>P.at' e⟩ ⟨λz hz=>?_,λz hz=>?_,λz hz=>?_⟩⟩
  ·obtain⟨j,hj,rfl⟩:=Ex.from_ z hz;exact(ht.at_ hj).2
  ·obtain⟨j,hj,rfl⟩:=Ex.from_ z hz;show ks.getD j []∈ks;simp[hj]
  ·obtain⟨j,hj,rfl⟩:=ie hz;have:=Ex.all j hj;simpa[hj]using this
abbrev NM(X:Cx):Ic->Hp->VK->Prop:=λxs H Q=>∃(l:ai)(o:Obj)(kb:KB)(ks:wt),xs=[.ref l]/\H l=some (.frz o (.own 0))/\yM X.prog X.w l o kb/\KbOk H kb ks/\(∀k∈ks,k≠[])/\(dE eC ks).length<64/\∀D Dr,H D=none->Cp H Dr (dE eC ks)->Q (.ref D) (aV H D (.lst Dr))
theorem q9{α β:Type}{f:α->β}:∀{l:List β}{l':List β},l.Perm l'->∀xs:List α,l'=xs.map f->∃ys:List α,ys.Perm xs/\l=ys.map f:=by
 intro l l' h
 induction h with
 |nil=>intro xs e;exact⟨xs,.refl _,e⟩
 |cons a _ ih=>
  intro xs e
  cases xs with
  |nil=>cases e
  |cons x xs=>simp only[cy,Bj]at e;obtain⟨ys,p,e'⟩:=ih xs e.2;exact⟨x::ys,p.cons x,by simp[e.1,e']⟩
 |swap a b l=>
  intro xs e
  cases xs with
  |nil=>cases e
  |cons x xs=>
   cases xs with
   |nil=>simp at e
   |cons y xs=>simp only[cy,Bj]at e;exact⟨y::x::xs,.swap ..,by simp[e.1,e.2.1,e.2.2]⟩
 |trans _ _ ih1 ih2=>intro xs e;obtain⟨ys,p,e'⟩:=ih2 xs e;obtain⟨zs,p',e''⟩:=ih1 ys e';exact⟨zs,p'.trans p,e''⟩
theorem r8{k:Nat}(rm:Cv k X.A):Cf X (.builtin "sorted") (NM X):=by
 intro pins s σ H xs us Q I rv ⟨l,o,kb,ks,e,hl,⟨es,ep,t,hP⟩,kO,ne,h64,q⟩;subst e;obtain⟨u,rfl,ru⟩:=iW rv;cases ru;have P:=hP s.heap (I.hok l _ hl).1;have pe:(iH X.w l ep es).toList.Perm (hZ X.prog X.w kb):=by rw[<-P.es];exact DZ _ _ _ _
 obtain⟨kc,pk,ek⟩:=q9 pe kb rfl;have mem:∀i,i<kc.length->kc.getD i ([],0)∈kb:=λi hi=>pk.mem_iff.mp (by simp[hi]);have hn:(kb.map bw).length=(dE eC ks).length:=by refine List.Perm.length_eq ((ik P.nd (oP Ej (qD Ej ks))).mpr λz=>?_);rw[mP Ej];refine⟨λh=>?_,λh=>kO.all z h⟩;obtain⟨p,hp,rfl⟩:=bz.mp h;exact kO.frm p hp
 have hlen:kc.length<64:=by rw[pk.length_eq];rw[bf]at hn;lia
 have Eu:es.size=kc.length:=by rw[P.size,pk.length_eq]
 have KA:Dq X.prog X.w s.heap kc.length (λi=>(kc.getD i ([],0)).2) (λi=>(kc.getD i ([],0)).1):=λi hi=>⟨EC I (kO.tup _ (mem i hi)),ne _ (kO.frm _ (mem i hi))⟩
 have er:(iH X.w l ep es).toList.map (·.2)=cO kc.length (λi=>(kc.getD i ([],0)).2):=by
  rw[ek,kg]
  apply List.ext_getElem (by simp[lN])
  intro i h1 h2;have hi:i<kc.length:=by simpa using h1
  simp[cO,hi]
 refine o7 hlen KA (λQ' E' hQ=>?_) λh' tk D e out so hD ho k=>?_
 ·refine ND (show X.A.in1.handled=none from rm.hd) P.e (by rw[Eu,gv];lia) λh' tk kk sz=>?_;rw[er];exact hQ h' tk kk sz
 ·obtain⟨pp,Dr,h1,h2,h3,h4⟩:=p8 (H:=H) so λi hi=>kO.tup _ (mem i hi);have pm:(pp.map λi=>(kc.getD i ([],0)).1).Perm (kb.map bw):=by have:=((p9 (d:=(([],0):y'×ai)) h1 rfl).trans pk).map bw;rwa [kg]at this
  have nd:(pp.map λi=>(kc.getD i ([],0)).1).Nodup:=pm.nodup_iff.mpr P.nd;have rs:jI eC (pp.map λi=>(kc.getD i ([],0)).1):=by
   refine(h2.and nd).imp λ{a b}⟨x,y⟩=>?_
   cases q:eC a b with
   |true=>rfl
   |false=>exact absurd (Ej.tot a b q x) y
  have e1:(pp.map λi=>(kc.getD i ([],0)).1)=dE eC ks:=ME Ej rs λz=>by rw[pm.mem_iff];refine⟨λh=>?_,λh=>kO.all z h⟩;obtain⟨p,hp,rfl⟩:=bz.mp h;exact kO.frm p hp
  rw[e1]at h4;refine⟨.ref D,_,I.laid (t':=tk) k hD (show Ce X.prog X.w _ _ _ (.lst Dr) from⟨?_,out,e,h3,ho⟩),rfl,q D Dr (I.hok.fresh hD) h4⟩;rw[h4.len,gv];lia
end
def sH:Dv->Option y' 
 |.tup xs=>cD hW xs
 |_=>none
def yN(k:y'):Dv:=.tup (k.map Hc)
section
variable{X:Cx}{G:Cfg}{E:XK}{k:Nat}{e a b:bp}{es:List bp}{ma mb:M Dv}{aX:M Bt}{p p2 pos Ds:Pos}
theorem ED{μ:Nat->ai}{n:Nat}{H:Hp}:∀{xs:Bt}{vs:Ic}{ks:wt},RelDL G μ n H xs vs->cD sH xs=some ks->Cp H vs ks
 |[],_,ks,r,e=>by cases e;rw[RelDL]at r;subst r;trivial
 |x::xs,_,ks,r,e=>by
  rw[RelDL]at r;obtain⟨v,rr,rfl,r1,r2⟩:=r;unfold cD at e
  cases x with
  |tup ds=>
   dsimp only[sH]at e
   cases q:cD hW ds with
   |none=>rw[q]at e;cases e
   |some zs=>
    rw[q]at e;dsimp only at e
    cases q2:cD sH xs with
    |none=>rw[q2]at e;cases e
    |some ys=>rw[q2]at e;cases e;rw[Ca]at r1;obtain⟨b,us,rfl,h1,h2⟩:=r1;rw[pZ h2 q]at h1;exact⟨⟨b,rfl,h1⟩,ED r2 q2⟩
  |_=>cases e
theorem NN{μ:Nat->ai}{n:Nat}{H:Hp}:∀{vs:Ic}{ks:wt},Cp H vs ks->RelDL G μ n H (ks.map yN) vs
 |[],[],_=>Hn
 |[],_::_,h=>h.elim
 |_::_,[],h=>h.elim
 |v::vs,k::ks,h=>by obtain⟨⟨b,rfl,e⟩,h2⟩:=h;refine Hl ?_ (NN h2);unfold yN;rw[Ca];exact⟨b,_,rfl,e,oA k⟩
def yO(ks:wt):Bool:=ks.all λk=>!k.isEmpty
theorem r9{ks:wt}(h:yO ks=true):∀k∈ks,k≠[]:=λk hk e=>by have:=iw.mp h k hk;rw[e]at this;cases this
theorem NO:dk "set"=some (.type "set"):=by decide+kernel
end
open PySem.SeqAt PySem.MeetsSeq PySem.MeetsSeq2 PySem.MeetsSeq3
section
variable{X:Cx}{G:Cfg}{E:XK}{k:Nat}{e a b o:bp}{es:List bp}{mo me ma mb:M Dv}{aX:M Bt}{p p2 pos Ds apos cpos np:Pos}{y:Str}
theorem t9{prog:bj}{w:cb}{A:bx}{Ee:af->ag->Prop}{s:ag}{t sl:ai}{items:Array af}{vl vu:af}{lo hi:Option Int}{Q:af->ag->Prop}(ht:Aj s.heap t items)(hs:s.heap.IsSliceOf sl vl vu .none)(pl:wa vl lo)(pu:wa vu hi)(h0:HT.sIx items.size 0 lo=0)(h1:HT.sIx items.size items.size hi=items.size)(h:Q (.ref t) s):wpAny (model prog w) A (getItem (.ref t) (.ref sl)) Q Ee s:=by
 obtain⟨os,hos,hcs,hds⟩:=id hs;have hTs:s.TypeIs (.ref sl) "slice":=⟨os,hos,hcs⟩;have tt:=ht.typeIs;obtain⟨ot,et,ct,_⟩:=id ht;unfold getItem
 try with_reducible refine ff ?_
 first|refine ae (aj ?_)|skip
 refine ae (wpAny_sequenceKey tt (by decide) (ae (gr (name:=mr "__getitem__") tt ic (fe ic tt PySem.F.entry_tuple_getitem ?_ (PySem.F.args_tuple_getitem_2 _ _)))));refine ae (m:=slotArgs "__getitem__" 1 ⟨[.ref t,.ref sl],[]⟩) (aj (ae (tupleItemsOf_ ht (ae (qd hTs ?_)))));rw[if_pos (by decide)];refine ae (HT.sliceApplied_gen hs pl pu ?_);rw[h0,h1];show wpAny _ _ (if(((0:Nat):Int)==0&&(1:Int)==1&&(items.size-0)==items.size)=true then _ else _) _ _ s;rw[if_pos (by simp)];unfold Builtin.Tuple.tupleIsExact;refine ae (ae (qd tt (aj ?_)));rw[if_pos (by decide)];refine ae (tq (aj ⟨_,rfl,aj h⟩))
theorem u0:SlR X (λx lo hi H Q=>∃a xs,x=.ref a/\Ct X.K H a xs/\HT.sIx xs.length 0 lo=0/\HT.sIx xs.length xs.length hi=xs.length/\Q (.ref a) H):=by
 intro pins s σ H x v vl vu lo hi sl Q I rx hs pl pu ⟨a,xs,ex,hx,h0,h1,q⟩;subst ex;cases rx;obtain⟨its,r,ht,hz⟩:=I.tuple hx;have hlen:its.toArray.size=xs.length:=by rw[bg];exact r.length.symm
 exact⟨"tuple",_,ic.lookup,ht.typeIs,t9 ht hs pl pu (by rw[hlen];exact h0) (by rw[hlen];exact h1) ⟨.ref a,H,I,rfl,q⟩⟩
def yP(x:Dv)(lo hi:Option Int)(h:Hs):Rs Dv:=match x with
 |.ref j=>match getL h j with
  |some xs=>.ok (.ref h.length) (h++[.lst (oM xs lo hi)])
  |none=>.bad
 |.tup xs=>.ok (.tup (oM xs lo hi)) h
 |_=>.bad
theorem u5{xs:Bt}{lo hi:Option Int}(h0:HT.sIx xs.length 0 lo=0)(h1:HT.sIx xs.length xs.length hi=xs.length):oM xs lo hi=xs:=by unfold oM;rw[h0,h1];simp
def uW(m:M Dv)(lo hi:MO):M Dv:=λρ h=>(m ρ h).bind λx h1=>(lo ρ h1).bind λl h2=>(hi ρ h2).bind λu h3=>yP x l u h3
theorem u6{lo hi:Option bp}{ml mh:MO}(ho:aK X G E o mo)(hl:xT X G E lo ml)(hh:xT X G E hi mh):aK X G E (.Subscript o (.Slice lo hi none p2) pos) (uW mo ml mh):=λhK=>
 Hj (UK (SlR.or (SlR.or UW UM) u0) (ho hK) (hl hK) (hh hK)) λσ H Q⟨μ,ρ,h,rs,s,oo⟩=>gF rs s oo λμ1 x h1 vx H1 x1 Cr s1 r1 o1=>by
  refine⟨μ1,ρ,h1,Cr,s1,(o1.bind (R1:=λ_ _ _ a b=>b=a)).mono λl' H2⟨μ2,l,h2,x2,s2,el,o2⟩=>?_⟩;subst el;refine⟨μ2,ρ,h2,Cr.mono x2,s2,(o2.bind (R1:=λ_ _ _ a b=>b=a)).mono λu' H3⟨μ3,u,h3,x3,s3,eu,o3⟩=>?_⟩;subst eu;have r3:=Hq (x2.trans x3) _ _ r1
  cases x with
  |ref j=>
   dsimp only[yP]at o3
   cases q:getL h3 j with
   |none=>rw[q]at o3;exact o3.elim
   |some xs=>rw[q]at o3;obtain⟨vs,ea,ra⟩:=s3.ob j _ (fG q);obtain⟨_,rfl⟩:=r3;exact .inl (.inl ⟨_,vs,rfl,Hr ea,λp hp=>lZ s3 (LC ra _ _) hp o3⟩)
  |tup xs=>
   dsimp only[yP]at o3;obtain⟨a,vs,rfl,ea,ra⟩:=r3
   by_cases hw:HT.sIx xs.length 0 l'=0/\HT.sIx xs.length xs.length u'=xs.length
   ·refine .inr ⟨a,vs,rfl,Hk ea,by rw[ra.length];exact hw.1,by rw[ra.length];exact hw.2,o3 μ3 _ _ Hm s3 ?_⟩;rw[u5 hw.1 hw.2];exact⟨a,vs,rfl,ea,ra⟩
   ·exact .inl (.inr ⟨a,vs,rfl,Hk ea,by rw[ra.length];exact hw,λp hp=>o3 μ3 _ _ (Hg (dD hp)) (s3.same (dD hp)) ⟨p,_,rfl,dR,Hf (Hg (dD hp)) _ _ (LC ra _ _)⟩⟩)
  |_=>exact o3.elim
def fO(x y:Dv)(h:Hs):Rs Dv:=match x,y with
 |.int i,.int j=>.ok (.bl (decide (i<j))) h
 |.tup xs,.tup ys=>match cD hW xs,cD hW ys with
  |some ns,some ms=>.ok (.bl (HT.lexLt ns ms)) h
  |_,_=>.bad
 |_,_=>.bad
theorem NP:∀x y:y',HT.lexLt x y=eC x y
 |[],[]=>rfl
 |[],_::_=>rfl
 |_::_,[]=>rfl
 |a::x,b::y=>by
  rw[HT.lexLt_cons,eC,NP x y]
  by_cases h:a=b<;>simp[h]
theorem NQ:fY G (λx y H Q=>(kG λi j=>.bl (decide (i<j))) x y H Q∨IG G.K x y H Q) fO:=by
 intro E μ h H x y vx vy Q s rx ry o;unfold fO at o
 split at o
 ·rename_i i j;exact .inl (rK E μ h H (.int i) (.int j) vx vy Q s rx ry o)
 ·rename_i xs ys
  cases q1:cD hW xs with
  |none=>rw[q1]at o;exact o.elim
  |some ns=>
   cases q2:cD hW ys with
   |none=>rw[q1,q2]at o;exact o.elim
   |some ms=>rw[q1,q2]at o;obtain⟨a,us,rfl,ea,ra⟩:=rx;obtain⟨b,ws,rfl,eb,rb⟩:=ry;exact .inr ⟨a,b,ns,ms,rfl,rfl,Hk (by rw[ea,pZ ra q1]),Hk (by rw[eb,pZ rb q2]),o.val s rfl⟩
 ·exact o.elim
theorem yQ(g:Good X G E k)(ha:aK X G E a ma)(hb:aK X G E b mb):aK X G E (.Compare a [.Lt] [b] pos) (m2 fO ma mb):=λhK=>tX (Cw.or HP (IH (by have:=g.room.un;lia))) (by rw[hK];exact NQ) ha hb (kW _) hK
theorem EE(g:Good X G E k)(ha:aK X G E a ma)(hb:aK X G E b mb):gE X G E (.Compare a [.Lt] [b] pos) (mB (m2 fO ma mb)):=λhK=>lA (Cw.or HP (IH (by have:=g.room.un;lia))) (by rw[hK];exact NQ) ha hb (kW _) hK
def bH(j:Int):y':=(az j.toNat).map λk:Nat=>(k:Int)
theorem u7:Cf X (.type "range") (λxs H Q=>∃j:Int,xs=[.int j]/\∀l,H l=none->Q (.ref l) (aV H l (.rng 0 j))):=by intro pins s σ H xs us Q I rv ⟨j,e,q⟩;subst e;obtain⟨u,rfl,ru⟩:=iW rv;obtain⟨t,rfl⟩:=ru;refine call_range_1 ⟨.ref s.heap.objs.size,_,I.laid (t':=s.toks+1+1) (o:=.rng 0 j) (λb ob q=>ak _ q) (ao _) ⟨_,_,_,aw _ rfl⟩,rfl,q _ (I.hok.fresh (ao _))⟩
theorem u9(rm:Cv k X.A):Cf X (.type "list") (λxs H Q=>∃(l:ai)(j:Int),xs=[.ref l]/\H l=some (.rng 0 j)/\0<=j/\j<=1000/\∀D,H D=none->Q (.ref D) (aV H D (.lst ((bH j).map Hi)))):=by
 intro pins s σ H xs us Q I rv ⟨l,j,e,hl,h0,h1,q⟩;subst e;obtain⟨u,rfl,ru⟩:=iW rv;cases ru;obtain⟨t,u,v,hr⟩:=I.hok l _ hl;refine call_list_range (n:=j.toNat) (a:=0) (b:=j) (c:=1) rm.hd hr (small_one (by lia) (by lia) (by lia) (by lia)) ?_ (by lia) λh' tk acc c ke ho ia=>?_
 ·rw[rangeSize_one]
  split<;>lia
 ·have hv:Cc ((bH j).map Hi) acc.toList:=by
   have:∀(n:Nat)(as:List af),as.length=n->(∀(i:Nat)(v:af),as[i]?=some v->∃t,v=nr (0+(i:Int)*1) t)->Cc (((az n).map λk:Nat=>(k:Int)).map Hi) as:=λn=>by
    induction n with
    |zero=>intro as hl _;rw[ub.mp hl];exact .nil
    |succ n ih=>
     intro as hl hi;have hne:as≠[]:=λz=>by rw[z]at hl;cases hl
     have e:=List.dropLast_concat_getLast hne;rw[<-e,List.range_succ,je,je];have hlast:as[n]?=some (as.getLast hne):=by
      rw[List.getLast_eq_getElem,bo (by lia)]
      congr 2;lia
     obtain⟨t,ht⟩:=hi n _ hlast;refine Cc.append (ih as.dropLast (by simp[hl]) λi v hv=>hi i v ?_) ?_
     ·rw[List.getElem?_dropLast]at hv
      split at hv
      ·exact hv
      ·cases hv
     ·refine .cons ?_ .nil;show RelV (.int (n:Int)) _;rw[ht];exact⟨t,by simp⟩
   refine this j.toNat acc.toList (by simpa using ia.1) λi v hv=>?_;exact ia.2 i v (by simpa using hv)
  refine⟨.ref s.heap.objs.size,_,I.laid (t':=tk) ke (ao _) (show Ce X.prog X.w _ _ _ (.lst ((bH j).map Hi)) from⟨?_,acc.toList,c,hv,?_⟩),rfl,q _ (I.hok.fresh (ao _))⟩
  ·rw[bf,bH,bf,nh,gv];lia
  ·rw[ho]
def kB:Dv->Hs->Rs Dv
 |.int j,h=>if(decide (0<=j)&&decide (j<=1000))=true then .ok (.ref h.length) (h++[.lst ((bH j).map Hc)])else .bad
 |_,_=>.bad
theorem EF(g:Good X G E k)(hg:Gl X "list")(hm:X.mg "list"=none)(hg2:Gl X "range")(hm2:X.mg "range"=none)(ha:eO X G E [e] aX)(he:aq [e] X.env=[(false,eval e X.env)]:=by rfl)(Ew:aq [Expr.Call (.Name "range" p2) [e] [] Ds] X.env=[(false,eval (.Call (.Name "range" p2) [e] [] Ds) X.env)]:=by rfl):
  aK X G E (.Call (.Name "list" p) [.Call (.Name "range" p2) [e] [] Ds] [] pos) (aH (f1 kB) aX):=λhK=>
 Hj (rA (u9 g.room) hg hm xE (iJ (rA u7 hg2 hm2 boot_range (ha hK) (by decide) (by decide) he rfl) jU Ew) (by decide) (by decide) Ew rfl) λσ H Q⟨μ,ρ,h,rs,s,o⟩=>by
  refine kZ rs s o λμ1 ds h1 vs H1 x1 Cr s1 r1 o1=>?_;unfold f1 at o1
  split at o1
  ·rename_i d;obtain⟨v,rfl,rv⟩:=rM r1
   cases d with
   |int j=>
    dsimp only[kB]at o1
    split at o1
    ·rename_i h0;rw[fg]at h0;have j0:0<=j:=by simpa using h0.1
     have j1:j<=1000:=by simpa using h0.2
     rw[Ca]at rv;subst rv;refine⟨j,rfl,λl hl=>?_⟩;have sm:=dD (o:=.rng 0 j) hl;refine⟨l,j,rfl,dR,j0,j1,λD hD=>?_⟩;exact lZ (E:=E) (s1.same sm) (oA _) hD (λμ' H' v x'=>o1 μ' H' v ((Hg sm).trans x'))
    ·exact o1.elim
   |_=>exact o1.elim
  ·exact o1.elim
end
section
variable{X:Cx}{G:Cfg}{E:XK}{k:Nat}{e a b o:bp}{es:List bp}{mo me ma mb:M Dv}{aX:M Bt}{p p2 pos Ds apos cpos np:Pos}{y:Str}
theorem sub_tuple:isSubtype (.type "tuple") (.type "set")=pure false/\isSubtype (.type "tuple") (.type "frozenset")=pure false:=by constructor<;>(rw[isSubtype_type];kernel_rfl)
abbrev NR(X:Cx):Ic->Hp->VK->Prop:=λxs H Q=>∃(p:ai)(vs:Ic)(ks:wt),xs=[.ref p]/\H p=some (.tup vs)/\Cp H vs ks/\(dE eC ks).length<=76/\∀l o kb,H l=none->yM X.prog X.w l o kb->KbOk H kb ks->Q (.ref l) (aV H l (.frz o (.own 0)))
theorem v5(rm:Cv k X.A):Cf X (.type "set") (NR X):=by
 intro pins s σ H xs us Q I rv ⟨p,vs,ks,e,hp,ht,hU,q⟩;subst e;obtain⟨u,rfl,ru⟩:=iW rv;cases ru;obtain⟨its,rits,pl,hz⟩:=I.tuple (Hk hp);have hits:=NK ht rits;have lp:=I.hok.lt hp;have hI:s.heap.IsTuple p (cO ks.length (gK vs)).toArray:=by rw[<-hits];exact pl
 have hsz:(cO ks.length (gK vs)).toArray.size=ks.length:=by rw[bg,lN]
 have hne:p≠s.heap.objs.size+1:=ay (ji lp);have hb:(s.heap.push (bare X.w)).IsTuple p (cO ks.length (gK vs)).toArray:=IsTup.push (items:=(cO ks.length (gK vs)).toArray) hI _;have hs1:(s.heap.push (bare X.w)).objs.size=s.heap.objs.size+1:=ya _ _;have W:=Walks.tuple (prog:=X.prog) (w:=X.w) (A:=X.A.in1.in1.in1) (show X.A.in1.in1.in1.handled=none from rm.hd) (s.heap.objs.size+1) p hne (cO ks.length (gK vs)).toArray;rw[hsz]at W;refine NI (T:="tuple") (it:={cls:=.type "tuple_iterator",data:=.fields #[.ref p,.int 0 0]}) (gK vs) (λi=>ks.getD i []) (dE eC ks) (by have:=rm.un;lia) hI.typeIs sub_tuple.1 sub_tuple.2 (by decide) (λB Q' E' hQ=>?_) W (λm=>?_) (λb hb=>?_) ⟨⟨{cls:=.type "tuple_iterator",data:=.fields #[.ref p,.int 0 0]},?_,rfl,rfl⟩,IsTup.push (items:=(cO ks.length (gK vs)).toArray) hb _⟩ (λi v hv=>?_) hU (λi hi=>?_) (λj hj=>EC I (ht.at_ hj).2) λh' tk kb hS Ex k=>?_
 ·refine tj hb ?_;rw[<-hs1]at hQ;exact hQ
 ·rcases bc.mp m with z|m
  ·exact qj _ z.symm
  ·exact jh lp (cg.mp m)
 ·rw[cg.mp hb];exact lg _
 ·rw[<-hs1];exact aw _ rfl
 ·have hi:i<ks.length:=by have:=(dw.mp hv).1;rwa [hsz]at this
  have:(cO ks.length (gK vs))[i]?=some (.ref (gK vs i)):=by simp[cO,hi]
  rw[Bc,this]at hv;exact(cn hv).symm
 ·refine(mP Ej _ _).mpr ?_;show ks.getD i []∈ks;simp[hi]
 ·obtain⟨o,es,ep,t,P⟩:=hS;refine⟨.ref s.heap.objs.size,_,I.laid (t':=tk) (o:=.frz o (.own 0)) k (ao _) ⟨P.obj,o,P.obj⟩,rfl,q _ o kb (I.hok.fresh (ao _)) ⟨es,ep,t,λh e=>P.at' e⟩ ⟨λz hz=>?_,λz hz=>?_,λz hz=>?_⟩⟩
  ·obtain⟨j,hj,rfl⟩:=Ex.from_ z hz;exact(ht.at_ hj).2
  ·obtain⟨j,hj,rfl⟩:=Ex.from_ z hz;show ks.getD j []∈ks;simp[hj]
  ·obtain⟨j,hj,rfl⟩:=ie hz;have:=Ex.all j hj;simpa[hj]using this
theorem v7(rm:Cv k X.A):Cf X (.type "set") (λxs H Q=>NL X xs H Q∨NR X xs H Q):=by
 intro pins s σ H xs us Q I rv h
 rcases h with h|h
 ·exact q5 rm pins s σ H xs us Q I rv h
 ·exact v5 rm pins s σ H xs us Q I rv h
def sJ(x:Dv)(h:Hs):Option wt:=match x with
 |.ref i=>match getL h i with
  |some xs=>cD sH xs
  |none=>none
 |.tup xs=>cD sH xs
 |_=>none
def sL(x:Dv)(h:Hs):Rs Dv:=match sJ x h with
 |some ks=>if(yO ks&&decide ((dE eC ks).length<64))=true then .ok (.ref h.length) (h++[.lst ((dE eC ks).map yN)])else .bad
 |none=>.bad
theorem v8(g:Good X G E k)(hg:Gl X "sorted")(hm:X.mg "sorted"=none)(hg2:Gl X "set")(hm2:X.mg "set"=none)(ha:eO X G E [e] aX)(he:aq [e] X.env=[(false,eval e X.env)]:=by rfl)(Ew:aq [Expr.Call (.Name "set" p2) [e] [] Ds] X.env=[(false,eval (.Call (.Name "set" p2) [e] [] Ds) X.env)]:=by rfl):
  aK X G E (.Call (.Name "sorted" p) [.Call (.Name "set" p2) [e] [] Ds] [] pos) (aH (f1 sL) aX):=λhK=>
 Hj (qZ (r8 g.room) hg hm xZ (iJ (rA (v7 g.room) hg2 hm2 NO (ha hK) (by decide) (by decide) he rfl) jU Ew) (by decide) (by decide) Ew rfl) λσ H Q⟨μ,ρ,h,rs,s,o⟩=>by
  refine kZ rs s o λμ1 ds h1 vs H1 x1 Cr s1 r1 o1=>?_;unfold f1 at o1
  split at o1
  ·rename_i d;obtain⟨v,rfl,rv⟩:=rM r1;unfold sL at o1
   cases q:sJ d h1 with
   |none=>rw[q]at o1;exact o1.elim
   |some ks=>
    rw[q]at o1;dsimp only at o1
    split at o1
    ·rename_i h0;rw[fg]at h0;have h64:(dE eC ks).length<64:=by simpa using h0.2
     have fin:∀(l:ai)(o:Obj)(kb:KB),H1 l=none->yM X.prog X.w l o kb->KbOk H1 kb ks->NM X [.ref l] (aV H1 l (.frz o (.own 0))) Q:=λl o kb hl so ko=>by have sm:=dD (o:=.frz o (.own 0)) hl;refine⟨l,o,kb,ks,rfl,dR,so,⟨λp hp=>sm _ _ (ko.tup p hp),ko.frm,ko.all⟩,r9 h0.1,h64,λD Dr hD ht=>?_⟩;exact lZ (E:=E) (s1.same sm) (NN ht) hD (λμ' H' v x'=>o1 μ' H' v ((Hg sm).trans x'))
     cases d with
     |ref i=>
      dsimp only[sJ]at q
      cases q1:getL h1 i with
      |none=>rw[q1]at q;cases q
      |some xs=>rw[q1]at q;obtain⟨vs,e1,r2⟩:=s1.ob i _ (fG q1);obtain⟨_,rfl⟩:=rv;exact .inl ⟨_,vs,ks,rfl,e1,ED r2 q,by lia,fin⟩
     |tup xs=>obtain⟨a,vs,rfl,e1,r2⟩:=rv;exact .inr ⟨_,vs,ks,rfl,e1,ED r2 q,by lia,fin⟩
     |_=>cases q
    ·exact o1.elim
  ·exact o1.elim
theorem v9{prog:bj}{w:cb}{A:bx}{Ee:af->ag->Prop}{s:ag}{l:ai}{vs:List af}{Q:List af->ag->Prop}(ht:Aj s.heap l vs.toArray)(hz:vs.length<=cp)(q:∀h',nI s.heap h'->s.heap.objs.size<=h'.objs.size->Q vs {s with heap:=h'}):wpAny (model prog w) A (collect (.ref l)) Q Ee s:=by
 have up:nI s.heap (s.heap.push (seqObj "list" #[] 0)):=λb o e=>ak _ e;have hS:(s.heap.push (seqObj "list" #[] 0)).get? s.heap.objs.size=some (seqObj "list" #[] 0):=aw _ rfl;obtain⟨o,ho,hc,n,hd⟩:=ht;unfold collect;refine ae (wj (jf wk ?_));rw[gk F.plain_proto_collect _];refine ae (m:=newList []) (nq (aj ⟨rh _ (by decide+kernel),jf zo ?_⟩));rw[gk F.plain_list_iadd _];show wpAny _ A.in1 (ll (.ref s.heap.objs.size) (.ref l) (.ref s.heap.objs.size)) _ _ {s with heap:=s.heap.push (seqObj "list" #[] 0)};unfold ll;refine ae (qd (T:="tuple") ⟨o,up l o ho,hc⟩ ?_);rw[if_pos (by simp)];refine ae (listItems_at (up l o ho) hd (ae (listItems_at hS rfl ?_)));rw[if_neg (by simp)];refine ae (uv hS rfl (aj ?_) (gg _) (by show(#[]++vs.toArray).size<=cp+1;simp only[Array.size_append,bg,oq];lia));have hS2:=nj hS λx=>x++vs.toArray;show wpAny (model prog w) A (load s.heap.objs.size >>=_) Q Ee _;refine ae (Al hS2 (aj ?_));have e:((#[]:Array af)++vs.toArray).toList=vs:=by simp
 rw[e];refine q _ (λb o e=>?_) ?_
 ·rw[jz _ _ _ _ (ay (au e))];exact up b o e
 ·rw[Heap.size_update,ya];exact Nat.le_succ _
end
end L2.Mr
namespace L2.Mr.Com
def EG:MS:=(aT (dM (m1 (bO pX) (aD 0)) (m1 pM (m1 (bO lJ) (aD 0)))))
def sM:Bs:=bM 1 1 (EG)
def yR:MS:=(aT (dM (aH sM (aN (aD 0))) (rH kM kM (aD 1) (aD 0) (aD 2))))
def oS:Bs:=bM 3 3 (yR)
def NS:MS:=(aT (mL hV (cR (aX oH (aJ (aD 0) (uW (aD 0) (uK (aG 1)) uJ))) [none,none] (gI 2 (dH (aI 0) (dH (aI 1) gJ))) dP (cG (m2 fO (aD 0) (aD 1))))))
def yS:Bs:=bM 1 1 (NS)
def EH:MS:=(aT (aH oS (eZ (aD 1) (aG 0) (m2 jH (aD 0) (aG 1)))))
def kS:Bs:=bM 2 2 (EH)
def yT:MS:=(aT (dM (m1 (bO gR) (aD 1)) (mL hV (cR (cC fI (aD 1)) [none,some 0] (aI 0) dP (cG (aH kS (aJ (aD 1) (aD 0))))))))
def oU:Bs:=bM 2 2 (yT)
def sN:MS:=(aT (dM (aH oU (aJ (aD 0) (aD 1))) (m2 cP (aH (f1 cU) (aN (aD 1))) (aG 2))))
def lO:Bs:=bM 2 2 (sN)
def EI:MS:=(aT (mL hV (cR (cC fI (aD 1)) [none,some 0] (aI 0) dP (cG (aH lO (aJ (aD 1) (aD 0)))))))
def sO:Bs:=bM 2 2 (EI)
def NT:MS:=(aT (mL uD (cR (cC fI (aD 0)) [none,none] (gI 2 (dH (aI 0) (dH (aI 1) gJ))) dP (cG (m2 cP (aD 0) (aD 1))))))
def yU:Bs:=bM 1 1 (NT)
def NU:MS:=(aT (mL hV (cR (cC fI (aD 0)) [none,none,none,none,some 0] (gI 2 (dH (aI 0) (dH (aI 1) gJ))) dP (gQ (cC fI (aD 4)) (gI 2 (dH (aI 2) (dH (aI 3) gJ))) (mB (m2 cP (aD 1) (aD 2))) (cG (m2 (dX false) (aO (aJ (aD 0) (aD 3))) (aD 4)))))))
def yV:Bs:=bM 1 1 (NU)
def qF:MS:=(aL (bF (fV (cQ (bN (m1 (bO gR) (aD 0)))) (mB (m2 bZ (aH (f1 cU) (aN (aD 0))) (aG 2)))) (aT (mC (.bl false))) bP) (aL (aR (aD 0) (gI 2 (dH (aI 1) (dH (aI 2) gJ)))) (aL (bF (fV (cQ (bN (aH oS (eZ (aD 1) (aG 1) (aG 6))))) (cQ (bN (m1 (bO gR) (aD 2))))) (aT (mC (.bl false))) bP) (aL (bF (fV (cQ (bN (aH sO (aJ (aD 1) (aD 2))))) (cQ (bN (aH yS (aN (aD 2)))))) (aT (mC (.bl false))) bP) (aT (dM (m1 pM (aH yU (aN (aD 2)))) (aH yV (aN (aD 2)))))))))
def jS:Bs:=bM 1 3 (qF)
def yW(scr:y'):MS:=(aL (bF (mB (m2 fO (aD 1) (aH (f1 (gX scr)) (aN (aD 0))))) (aT (m2 (eV scr) (aD 0) (aD 1))) bP) (aT (aG 0)))
def uX(scr:y'):Bs:=bM 2 2 (yW scr)
def yX(scr:y'):MS:=(aL (aR (aH (uX scr) (aJ (aD 0) (aD 1))) (aI 2)) (aL (bF (mB (m2 xV (aD 2) (m2 uL (aG 10) (aG 18)))) (aT (aZ (aJ (m2 jH (aD 2) (m2 uL (aG 10) (aG 18))) (mC (.bl true))))) bP) (aT (aZ (aJ (m2 iR (aD 2) (aG 2147483647)) (mC (.bl false)))))))
def qG(scr:y'):Bs:=bM 2 3 (yX scr)
def EJ:MS:=(aL (bF (bN (m2 aQ (aD 0) (aG 1))) (aL (aR (m2 iR (m2 aQ (aD 0) (aG 0)) (aD 1)) (aI 2)) (aL (uE (aD 0) (aG 0) (m2 uP (m2 aQ (aD 0) (aG 0)) (aD 1))) (aT (aD 2)))) bP) (aL (uE (aD 0) (aG 0) (m2 iR (m2 cV (m2 pV (m2 aQ (aD 0) (aG 0)) (aG 48271)) (aG 29)) (aG 2147483647))) (aL (aR (m2 iR (m2 cV (m2 cV (m2 pV (m2 aQ (aD 0) (aG 0)) (m2 aQ (aD 0) (aG 0))) (m2 pV (aG 39373) (m2 aQ (aD 0) (aG 0)))) (aG 7)) (aG 2147483629)) (aI 3)) (aL (aR (m2 iR (m2 cV (m2 pV (aD 3) (aD 3)) (m2 pV (aG 16807) (aD 3))) (aG 2147483587)) (aI 3)) (aT (m2 iR (m2 uP (aD 3) (aG 8)) (aD 1)))))))
def cZ:Bs:=bM 2 4 (EJ)
def iB(Fs:Bs):MS:=(aL (bF (bN (m1 (bO rY) (aD 1))) (aL (bF (fV (mB (m2 bZ (m1 (bO gR) (aD 0)) (m1 (bO gR) (aD 1)))) (mB (m2 bZ (m1 (bO mM) (aD 0)) (m1 (bO mM) (aD 1))))) (aT (mC (.bl false))) bP) (aL (bF (mB (m2 bZ (aH (f1 cU) (aN (aD 0))) (aH (f1 cU) (aN (aD 1))))) (aT (mC (.bl false))) bP) (aT (mL hV (cR (aX oH (aJ (aD 0) (aD 1))) [none,none] (gI 2 (dH (aI 0) (dH (aI 1) gJ))) dP (cG (aH Fs (aJ (aD 0) (aD 1))))))))) bP) (aT (dM (m2 cP (aD 0) (aD 1)) (m2 cP (m1 (bO lJ) (aD 0)) (m1 (bO lJ) (aD 1))))))
def eX:Nat->Bs
 |0=>λ_ _=>.bad
 |n+1=>bM 2 2 (iB (eX n))
end L2.Mr.Com
namespace L2
end L2
namespace L2.Mr
end L2.Mr
namespace L2.Mr.Cod
open L2.Mr.Com
def qH:MS:=(bF (cQ (bN (aH jS (aN (aD 0))))) (uC 0 (aN (mC (.str "this is no order")))) bP)
def jJ:Bs:=bM 1 1 (qH)
def yY:MS:=(aL (aR (m2 aQ (aD 0) (aG 1)) (aI 3)) (aT (dM (m2 bZ (aD 1) (aD 2)) (dM (m2 (dX true) (aO (aJ (aD 1) (aD 2))) (aD 3)) (m2 (dX true) (aO (aJ (aD 2) (aD 1))) (aD 3))))))
def lQ:Bs:=bM 3 4 (yY)
def EK:MS:=(aL (aR (aH (f1 kB) (aN (aD 1))) (aI 2)) (aL (aR (aZ aU) (aI 3)) (aL (lG (mB (m2 bZ (aD 2) (aZ aU))) (dN (gC (aD 3) (oK (aD 2) (aH cZ (aJ (aD 0) (aH (f1 cU) (aN (aD 2)))))))) 40) (aT (aH (f1 jX) (aN (aD 3)))))))
def oV:Bs:=bM 2 4 (EK)
def EM:MS:=(aL (aR (aH (f1 lK) (aN (aD 1))) (aI 2)) (aL (dC (aX cJ (aN (aD 0))) (aI 3) (dC (aX cJ (aN (aD 0))) (aI 4) (dC (aX cJ (aN (aD 0))) (aI 5) (bF (dW (mB (m2 (dX false) (aO (aJ (aD 4) (aD 3))) (aD 2))) (dW (mB (m2 (dX false) (aO (aJ (aD 3) (aD 5))) (aD 2))) (mB (m2 (dX true) (aO (aJ (aD 4) (aD 5))) (aD 2))))) (dN (gC (aD 2) (aO (aJ (aD 4) (aD 5))))) bP)))) (aT (aH (f1 jX) (aN (aH (f1 sL) (aN (aD 2))))))))
def nJ:Bs:=bM 2 6 (EM)
def EN:MS:=(aL (aR (m2 jH (aD 1) (m2 aQ (aZ (aY (aG 0) (aY (aG 0) (aY (aG 1) (aY (aG 0) (gW (aG 2) (aG 1) (aG 3) (m2 jH (aD 1) (aG 1)))))))) (aH cZ (aJ (aD 0) (aG 8))))) (aI 2)) (aL (aR (aH mZ (aJ (aG 1) (aD 2))) (aI 2)) (aL (aR (aH oV (aJ (aD 0) (aD 2))) (aI 3)) (aL (aR (aH cZ (aJ (aD 0) (aG 5))) (aI 4)) (aL (aR (dF (cR (cC fI (aD 3)) [none,some 0] (aI 0) dP (cG (aH cZ (aJ (aD 1) (aG 3)))))) (aI 5)) (aL (aR (aZ aU) (aI 6)) (aL (dC (aX cJ (aN (aD 2))) (aI 7) (dC (aX pQ (aJ (m2 cV (aD 7) (aG 1)) (aD 2))) (aI 8) (aL (aR (m2 fO (aH cZ (aJ (aD 0) (aG 4))) (m2 aQ (aZ (eZ (aG 1) (aG 2) (aG 3))) (m2 iR (aD 4) (aG 3)))) (aI 9)) (aL (bF (mB (m2 cP (aD 4) (aG 3))) (aR (m2 cP (m2 aQ (aD 5) (aD 7)) (m2 aQ (aD 5) (aD 8))) (aI 9)) bP) (aL (bF (mB (m2 cP (aD 4) (aG 4))) (aR (m2 fO (m2 aQ (aD 5) (aD 7)) (m2 aQ (aD 5) (aD 8))) (aI 9)) bP) (bF (bN (aD 9)) (dN (gC (aD 6) (aO (aJ (m2 aQ (aD 3) (aD 7)) (m2 aQ (aD 3) (aD 8)))))) bP)))))) (aT (aO (aJ (aD 2) (aH nJ (aJ (aD 2) (aD 6)))))))))))))
def sP:Bs:=bM 2 10 (EN)
def EO:MS:=(aL (aR (aZ (aY (mC .non) (aY (aO aU) (aY (aO (aJ (aG 0) (aO aU))) (aY (aO (aJ (aG 7) (aO aU))) (aY (aO (aJ (mC (.bl true)) (aO aU))) (gW (aO (aJ (aG 2) (aZ (aN (aO (aJ (aG 0) (aG 1))))))) (aO (aJ (aG 2) (aO (aJ (aO (aJ (aG 1) (aG 0))) (aO (aJ (aG 0) (aG 1))))))) (aO (aJ (aG 2) (aO (aN (aO (aJ (aG 0) (aG 0))))))) (aZ (aJ (aG 2) (aO aU)))))))))) (aI 1)) (aL (aR (m2 cV (aD 1) (aZ (aY (aO (aJ (aG 3) (aO (aJ (aO (aJ (aG 0) (aG 1))) (aO (aJ (aG 1) (aG 2))))))) (aY (aO (aJ (aG 2) (aO (aJ (aO (aJ (aG 0) (aG 1))) (aO (aJ (aG 0) (aG 1))))))) (gW (aO (aJ (aG 2) (aO (aN (aO (aJ (aG 0) (aG 2))))))) (aO (aJ (aG 2) (aO (aN (aO (aJ (aG 0) (mC (.bl true)))))))) (aO (aN (aG 2))) (aO (eZ (aG 2) (aO aU) (aO aU)))))))) (aI 1)) (aL (aR (m2 cV (aD 1) (aZ (aY (aO (aJ (aG 3) (aO (aJ (aO (aJ (aG 0) (aG 2))) (aO (aJ (aG 0) (aG 1))))))) (gW (mC (.str "2: 0<1")) (mC .edc) (aO (aJ (aG 2) (aO (aN (aO (eZ (aG 0) (aG 1) (aG 1))))))) (aO (aJ (aG 2) (aO (aJ (aO (aJ (aG 0) (aG 1))) (aO (aJ (aG 1) (aG 0))))))))))) (aI 1)) (aT (m2 aQ (aD 1) (aH cZ (aJ (aD 0) (aG 20))))))))
def uY:Bs:=bM 1 2 (EO)
end L2.Mr.Cod
namespace L2.Mr
def oW:M Dv:=λ_ _=>.bad
def yZ(f:bp->M Dv):List bp->M Bt 
 |[]=>aU
 |e::es=>aY (f e) (yZ f es)
def nK(lk:Str->Option Nat):Nat->bp->M Dv
 |0,_=>oW
 |n+1,e=>match e with
  |.Constant c _ _=>match c with
   |.int i=>aG i
   |.bool b=>mC (.bl b)
   |.none=>mC .non
   |.str x=>mC (.str x)
   |_=>oW
  |.Tuple es _ _=>aO (yZ (nK lk n) es)
  |.List es _=>aZ (yZ (nK lk n) es)
  |.Dict [] [] _=>mC .edc
  |.Name x _=>match lk x with
   |some i=>aD i
   |none=>oW
  |.UnaryOp .USub a _=>m1 DF (nK lk n a)
  |_=>oW
def NV(e:bp):Prop:=∀es env,aq (e::es) env=(false,eval e env)::aq es env
section
variable{X:Cx}{G:Cfg}{E:XK}{lk:Str->Option Nat}
theorem zA{e:bp}:aK X G E e oW:=λ_ pins s σ H Q _⟨_,_,_,_,_,o⟩=>o.elim
theorem y7{e:bp}{es:List bp}{ms:M Bt}:eO X G E (e::es) (aY oW ms):=λ_ pos pins s σ H Q _⟨_,_,_,_,_,o⟩=>o.elim
theorem ER{f:bp->M Dv}(hf:∀e,aK X G E e (f e)/\(NV e∨f e=oW)):∀es,eO X G E es (yZ f es)
 |[]=>iD
 |e::es=>by
  obtain⟨a,b|b⟩:=hf e
  ·exact iZ a (ER hf es) (b es X.env)
  ·show eO X G E (e::es) (aY (f e) _);rw[b];exact y7
theorem zB(hv:∀x i pos,lk x=some i->aK X G E (.Name x pos) (aD i)):∀n e,aK X G E e (nK lk n e)/\(NV e∨nK lk n e=oW)
 |0,_=>⟨zA,.inr rfl⟩
 |n+1,e=>by
  unfold nK
  split
  ·split
   ·exact⟨bD,.inl λ_ _=>rfl⟩
   ·exact⟨gG,.inl λ_ _=>rfl⟩
   ·exact⟨pI,.inl λ_ _=>rfl⟩
   ·exact⟨rE,.inl λ_ _=>rfl⟩
   ·exact⟨zA,.inr rfl⟩
  ·exact⟨fH (ER (zB hv n) _),.inl λ_ _=>rfl⟩
  ·exact⟨fR (ER (zB hv n) _),.inl λ_ _=>rfl⟩
  ·exact⟨YU,.inl λ_ _=>rfl⟩
  ·rename_i x pos
   split
   ·rename_i i q;exact⟨hv x i pos q,.inl λ_ _=>rfl⟩
   ·exact⟨zA,.inr rfl⟩
  ·exact⟨Y3 (zB hv n _).1,.inl λ_ _=>rfl⟩
  ·exact⟨zA,.inr rfl⟩
theorem zC(n:Nat){e:bp}{m:M Dv}(h:nK (λ_=>none) n e=m:=by rfl):aK X G E e m:=h▸(zB (λ_ _ _ h=>by cases h) n e).1
end
structure SW(X:Cx)(G:Cfg)(E:XK)(st:iq)(m:MS):Prop where
 ok:iE X G E st m
structure SWs(X:Cx)(G:Cfg)(E:XK)(st:List iq)(m:MS):Prop where
 ok:jY X G E st m
section
variable{X:Cx}{G:Cfg}{E:XK}{st:iq}{rest:List iq}{m u:MS}{pos:Pos}
theorem ES(a:SW X G E st m)(b:SWs X G E rest u):SWs X G E (st::rest) (aL m u):=⟨bK a.ok b.ok⟩
theorem y8(a:SW X G E st m):SWs X G E [st] m:=⟨bG a.ok⟩
theorem y9(n:Nat){i:Nat}{x:Str}{pos':Pos}{e:bp}{me:M Dv}(hN:X.N.Nodup)(hi:X.N[i]?=some x)(hx:lW X.env.scope x)(h:nK (λ_=>none) n e=me:=by rfl)(hs:swapsWith e (some (.Name x pos')) pos.line X.env=pure false:=by rfl)(hf:X.fn x=true∨X.env.scope.names.lookup x=some .local:=by first|exact .inl rfl|exact .inr rfl|assumption):
  SW X G E (.Assign [.Name x pos'] e pos) (aR me (aI i)):=⟨CI hN hi hx (zC n h) hs hf⟩
theorem NW(n:Nat){i:Nat}{x:Str}{pos' p2 p3:Pos}{e:bp}{me:M Dv}(hN:X.N.Nodup)(hi:X.N[i]?=some x)(hx:lW X.env.scope x)(hv:aK X G E (.Name x p2) (aD i))(h:nK (λ_=>none) n e=me:=by rfl)(hs:swapsWith (.BinOp (.Name x p2) .Add e p3) (some (.Name x pos')) pos.line X.env=pure false:=by rfl)(hf:X.fn x=true∨X.env.scope.names.lookup x=some .local:=by first|exact .inl rfl|exact .inr rfl|assumption):
  SW X G E (.Assign [.Name x pos'] (.BinOp (.Name x p2) .Add e p3) pos) (aR (m2 cV (aD i) me) (aI i)):=⟨CI hN hi hx (jQ hv (zC n h)) hs hf⟩
end
section
variable{P:bj}{w:cb}{K:ar}{mg:Str->Option af}{base:cq}{G:Cfg}{N:Br}{f:ai}{k:Nat}
theorem z00{x qual:Str}{st:iq}{fd:bq}{ps:Br}{mb:MS}(Fn:Fun K x qual st f fd)(S:Cb N ps (bJ st))(hK:K=G.K)(Cz:∀(cdv:af)(A:bx)(outer:List Env)(s:ag)(H:Hp)(E₀ E:XK),Good (gU (cA P w base) P w K mg base N qual (bJ st) f cdv A outer s H E₀) G E k->SWs (gU (cA P w base) P w K mg base N qual (bJ st) f cdv A outer s H E₀) G E (jV st) mb):
  Cg P w K mg base (cA P w base) (k+1) f fd ps (cW G (bM ps.length N.length mb)):=eQ Fn S hK λcdv A outer s H E₀ E g=>(Cz cdv A outer s H E₀ E g).ok
end
open SR
open PySem.SeqAt PySem.MeetsSeq PySem.MeetsSeq2 PySem.MeetsSeq3
end L2.Mr
namespace L2.Mr.K60
open L2.Mr.Cod
open L2.Mr.Com
def uZ:MS:=(aT (dM (m1 (bO pX) (aD 0)) (m1 pM (m1 (bO lJ) (aD 0)))))
def oX:Bs:=bM 1 1 (uZ)
end L2.Mr.K60
namespace L2.Mr
open SR
open PySem.SeqAt PySem.MeetsSeq PySem.MeetsSeq2 PySem.MeetsSeq3
theorem ET{h:cq}{a:ai}{vs:List af}{out:Array af}{n:Nat}(ho:h.get? a=some (seqObj "list" vs.toArray n)):∃ep,(sortedHeap h a vs out).get? a=some (seqObj "list" out ep):=by have e1:=nj ho λ_=>#[];have e2:=ak (seqObj "list" #[] 0) (ak (seqObj "tuple" vs.toArray 0) e1);exact⟨_,nj e2 λ_=>out⟩
theorem EU{h:cq}{a b:ai}{vs:List af}{out:Array af}{o:Obj}(hb:b≠a)(e:h.get? b=some o):(sortedHeap h a vs out).get? b=some o:=by unfold sortedHeap;rw[jz _ _ _ _ hb];refine ak _ (ak _ ?_);rw[jz _ _ _ _ hb];exact e
section
variable{X:Cx}{G:Cfg}{E:XK}{e:bp}{aX:M Bt}{p pos:Pos}
abbrev NX:Ic->Hp->VK->Prop:=λxs H Q=>∃(p:ai)(ns:y'),xs=[.ref p]/\H p=some (.tup (ns.map Hi))/\ns.length<64/\∀l,H l=none->Q (.ref l) (aV H l (.lst ((iF ns).map Hi)))
theorem z01:Cf X (.builtin "sorted") NX:=by
 intro pins s σ H xs us Q I rv ⟨p,ns,e,hp,h0,q⟩;subst e;obtain⟨u,rfl,ru⟩:=iW rv;cases ru;obtain⟨its,rits,pt,hz⟩:=I.tuple (Hk hp);have hl:=rits.length;rw[bf]at hl;refine oh zw yu yv (yw _) ?_;unfold my.«sorted»;refine ae (m:=checkCount "sorted" 1 1 _) (aj (ae (v9 pt (by rw[gv];lia) λh1 k1 sz=>ae (nq ?_ (by rw[gv];lia)))));have g:(h1.push (seqObj "list" its.toArray 0)).get? h1.objs.size=some (seqObj "list" its.toArray 0):=aw _ rfl;have k2:nI s.heap (h1.push (seqObj "list" its.toArray 0)):=λb o e=>ak _ (k1 b o e);refine ae (ff (fe wm ⟨_,g,rfl⟩ vh (Bd (s:={s with heap:=h1.push (seqObj "list" its.toArray 0)}) g (LP rits) (by lia) λout Ek a1 a2 a3=>⟨_,rfl,aj ⟨_,rfl,?_⟩⟩) (wq _)));obtain⟨ep,he⟩:=ET (out:=out) g;have hu:=xY a2 a3;subst hu;refine⟨.ref h1.objs.size,_,I.laid (t':=s.toks) (λb o e=>EU (ay (av (au e) sz)) (k2 b o e)) sz (show Ce X.prog X.w _ _ _ (.lst ((iF ns).map Hi)) from⟨?_,out.toList,ep,pG a1,?_⟩),rfl,q _ (I.hok.fresh sz)⟩
 ·rw[bf,LO];exact df (gh h0) (by decide)
 ·rw[he]
def nL(x:Dv)(h:Hs):Rs Dv:=match x with
 |.tup xs=>match cD hW xs with
  |some ns=>if ns.length<64 then .ok (.ref h.length) (h++[.lst ((iF ns).map Hc)])else .bad
  |none=>.bad
 |_=>.bad
theorem z02:lB G (λx H Q=>NX [x] H Q) nL:=by
 intro E μ h H x vx Q s r o
 cases x with
 |tup xs=>
  dsimp only[nL]at o
  cases q2:cD hW xs with
  |none=>rw[q2]at o;exact o.elim
  |some ns=>
   rw[q2]at o;dsimp only at o
   split at o
   ·rename_i h0;obtain⟨a,vs,rfl,e1,r1⟩:=r;exact⟨_,ns,rfl,by rw[e1,pZ r1 q2],h0,λl hl=>lZ s (oA _) hl o⟩
   ·exact o.elim
 |_=>exact o.elim
theorem z03(hg:Gl X "sorted")(hm:X.mg "sorted"=none)(ha:eO X G E [e] aX)(he:aq [e] X.env=[(false,eval e X.env)]:=by rfl):aK X G E (.Call (.Name "sorted" p) [e] [] pos) (aH (f1 nL) aX):=
 pO (Cf.imp z01 λxs H Q⟨v,h1,h2⟩=>by rw[h1];exact h2) (pP z02) hg hm xZ ha (by decide) (by decide) he rfl
end
end L2.Mr
namespace L2.Mr.K05
open L2.Mr.Com
def qH:MS:=(bF (cQ (bN (aH jS (aN (aD 0))))) (uC 0 (aN (mC (.str "this is no order")))) bP)
def jJ:Bs:=bM 1 1 (qH)
end L2.Mr.K05
namespace L2.Mr
def NY:MS:=λ_ _=>.bad
theorem z04{X:Cx}{G:Cfg}{E:XK}{st:iq}:iE X G E st NY:=λ_ _ _ _ _ _ _⟨_,_,_,_,_,o⟩=>o.elim
end L2.Mr
namespace L2.Mr.K82
open L2.Mr.Com
def qH:MS:=(bF (cQ (bN (aH jS (aN (aD 0))))) (uC 0 (aN (mC (.str "this is no order")))) bP)
def jJ:Bs:=bM 1 1 (qH)
end L2.Mr.K82
namespace L2.Mr
open PySem.Calls
section
variable{X:Cx}{G:Cfg}{E:XK}{o e i:bp}{mo me mi:M Dv}{ml:M Bt}{pos apos cpos:Pos}
theorem z05{a b:bp}{sp:Pos}(ho:aK X G E (.Subscript a b sp) mo)(he:aK X G E e me)(hs:aq [e] X.env=[(false,eval e X.env)]:=by rfl)(hl:(apos.endLine==cpos.line)=true:=by rfl):aK X G E (.Call (.Attribute (.Subscript a b sp) "append" apos) [e] [] cpos) (gC mo me):=λhK=>
 Hj (BN si ym yn IV (ho hK) (iJ (he hK) jU hs) rfl (by rw[hs];rfl) hl hs rfl) λσ H Q⟨μ,ρ,h,rs,s,oo⟩=>gF rs s oo λμ1 x h1 vx H1 x1 Cr s1 r1 o1=>by
  split at o1
  ·rename_i hl;refine⟨CZ s1 r1 hl,gF Cr s1 o1 λμ2 d h2 vd H2 x2 Em s2 r2 o2=>?_⟩
   cases x with
   |ref j=>
    dsimp only[kL]at o2
    cases q:getL h2 j with
    |none=>rw[q]at o2;exact o2.elim
    |some xs=>
     rw[q]at o2;dsimp only at o2
     split at o2
     ·rename_i hz;obtain⟨vs,ea,ra⟩:=s2.ob j _ (fG q);obtain⟨_,rfl⟩:=Hq x2 _ _ r1;obtain⟨x3,s3⟩:=s2.write (fG q) (ra.append (Hl r2 Hn));exact⟨_,vs,vd,rfl,rfl,ea,by rw[ra.length];exact av hz (by decide),o2 μ2 _ _ x3 s3 rfl⟩
     ·exact o2.elim
   |_=>exact o2.elim
  ·exact o1.elim
end
end L2.Mr
namespace L2.Mr.Sam
open L2.Mr.Com hiding eX iB
end L2.Mr.Sam
namespace L2.Mr
end L2.Mr
namespace L2.Mr.K04
open L2.Mr.Com hiding eX iB
open L2.Mr.Sam
end L2.Mr.K04
namespace L2.Mr
end L2.Mr
namespace L2.Mr.K06
open L2.Mr.Com hiding eX iB
open L2.Mr.Sam
end L2.Mr.K06
namespace L2.Mr
theorem z06{env:Env}:∀(l:List (Str×mq))(acc:List (Str×ai)),(∀y cc,(y,cc)∈acc->env.cells.lookup y=some cc)->(∀y,(y,ck)∈l->∃c,env.cells.lookup y=some c)->∀y cc,(y,cc)∈eE env l acc->env.cells.lookup y=some cc:=by
 intro l
 induction l with
 |nil=>exact λacc h1 _=>h1
 |cons a l ih=>
  obtain⟨y0,k0⟩:=a;intro acc h1 h2;rw[eE];refine ih _ (λy cc hm2=>?_) λy hy=>h2 y (ax _ hy)
  cases hk0:k0==ck with
  |true=>
   rw[hk0,if_pos rfl]at hm2
   rcases bc.mp hm2 with z|z
   ·cases z;have ek:k0=.free:=by cases k0<;>first|rfl|cases hk0
    subst ek;obtain⟨c3,h3⟩:=h2 y0 (bh ..);rw[h3];rfl
   ·exact h1 _ _ z
  |false=>rw[hk0,if_neg (by simp)]at hm2;exact h1 _ _ hm2
section
variable{X:Cx}{G:Cfg}{k:Nat}{p:Str}{params:ju}{body:bp}{scope:fy}{Nl:Br}{me:M Dv}{caps:A'}{pins:List (ai×Obj)}{σ:St}{H:Hp}{s:ag}
theorem z07{A:bx}{cs:List ai}(hfn:∀y,X.fn y=true)(hA:A.frames=some X.stack)(I:Inv X pins σ H s)(memc:∀b∈cs,∃y,X.env.cells.lookup y=some b):Hb X.prog X.w X.K X.mg (jN X.base s.heap cs) A X.stack s H:=by
 have kb:∀b u,X.base.get? b=some u->(jN X.base s.heap cs).get? b=some u:=λb u e=>xP (I.bk _ _ e) (.inl ⟨u,e⟩);have M0:=I.ok.mod;have nsk:∀{a:ai}{m:Str->Option af},X.base.Ns a m->(jN X.base s.heap cs).Ns a m:=λhn=>hn.keeps kb;have hM:Mod X.K X.mg (jN X.base s.heap cs):=⟨M0.kin.keeps kb,nsk M0.glob,(let ⟨mb,a,b⟩:=M0.blt;⟨mb,nsk a,b⟩),M0.nolimit.keeps kb⟩
 have hbs:∀b u,(jN X.base s.heap cs).get? b=some u->s.heap.get? b=some u/\H b=none:=λb u e=>by
  obtain⟨g1,g2⟩:=K2 e;refine⟨g1,?_⟩
  rcases g2 with⟨u',g2⟩|g2
  ·exact(I.bs _ _ g2).2
  ·obtain⟨y,hy⟩:=memc b g2;exact I.freeC y b hy
 have nbf:∀b∈eY X.stack,(jN X.base s.heap cs).get? b=none:=λb hb=>by
  cases qq:(jN X.base s.heap cs).get? b with
  |none=>rfl
  |some u=>
   exfalso
   obtain⟨g1,g2⟩:=K2 qq
   rcases g2 with⟨u',g2⟩|g2
   ·have:=(I.stack.mem hb).1;rw[this]at g2;cases g2
   ·obtain⟨y,hy⟩:=memc b g2
    rcases bc.mp (I.stkSub b hb)with z|z
    ·exact I.cne y b hy z
    ·have fm:∀z∈X.fs,z<X.s₀.heap.objs.size:=λz hz=>by obtain⟨_,o2,h2,_⟩:=I.ok.funs.mem hz;exact au h2
     exact absurd (av (fm b z) (I.ok.cab y b (hfn y) hy)) (iu _)
 have hfun:s.heap.FunFrames (jN X.base s.heap cs) X.stack:=by
  have all:∀(l:List Env),(∀b∈eY l,b∈eY X.stack)->s.heap.FunFrames X.base l->s.heap.FunFrames (jN X.base s.heap cs) l:=by
   intro l
   induction l with
   |nil=>intro _ _;trivial
   |cons env r ih=>
    intro hs hl;obtain⟨Du,⟨L,o',hf',hn',Gn,Fx⟩,hr'⟩:=hl;have hL:L∈eY (env::r):=by unfold eY;rw[cu,hf'];exact bh
    exact⟨Du,⟨L,o',hf',nbf L (hs L hL),Gn,Fx⟩,ih (λb hb=>hs b (by unfold eY;rw[cu,hf'];exact ax _ hb)) hr'⟩
  exact all X.stack (λ_ hb=>hb) I.stack
 exact⟨hA,hM,hbs,rf (zx _ _),hfun,I.stkFree,I.hok,I.bare⟩
theorem z08{H0:Hp}{f c':ai}{pm ctv:af}{oc:Obj}{cl:List (Str×ai)}{μ:Nat->ai}{n:Nat}{ρ:Ev}{ds:Bt}(hfr:∀y∈Nl,scope.names.lookup y=some .free)(hal:∀x∈scope.names,x.2=.free->x.1∈Nl)(Eg:∀y∈Nl,X.env.scope.names.lookup y=some .cell)(hlen:caps.length=Nl.length)(Gg:∀z∈caps.zip Nl,X.N[z.1]?=some z.2)(I:Inv X pins σ H0 s)(rs:Cj G μ n H ρ σ)(hcd:mJ caps ρ=some ds)(hcs:eE X.env scope.names []=cl)(e1:H f=some (.frz (kh "<lambda>" G.lq params body scope cl pm c' ctv) (.own 0)))(e2:H c'=some (.frz oc (.own 0)))(e3:Fh G.lq oc):
  (∀b∈cl.map (·.2),∃y,X.env.cells.lookup y=some b)/\Gj G (jN X.base s.heap (cl.map (·.2))) H μ n Nl params body scope f c' cl ds/\∀y cc,cl.lookup y=some cc->y∈Nl:=by
 obtain⟨hdl,hdg⟩:=K1 hcd;have hfree:∀y,(y,ck)∈scope.names->X.env.kindOf y=some .cell∨X.env.kindOf y=some .free:=λy hy=>.inl (Eg y (hal _ hy rfl));have hfc:∀y,(y,ck)∈scope.names->∃c,X.env.cells.lookup y=some c:=λy hy=>I.ok.has y (hfree y hy);have look:∀y cc,cl.lookup y=some cc->(y,ck)∈scope.names/\X.env.cells.lookup y=some cc:=λy cc e=>YH hfc (by rw[hcs];exact e);have memL:∀y cc,cl.lookup y=some cc->cc∈cl.map (·.2):=λy cc e=>bz.mpr ⟨(y,cc),gb e,rfl⟩;refine⟨λb hb=>?_,⟨⟨pm,ctv,e1⟩,⟨oc,e2,e3⟩,λy z cc a b=>I.ok.inj y z cc (look y cc a).2 (look z cc b).2,hdl.trans hlen,λi y hy=>?_,λy cc e=>?_,λi y cc d hy hd e=>?_⟩,λy cc e=>hal _ (look y cc e).1 rfl⟩
 ·obtain⟨⟨y,cc⟩,hm1,rfl⟩:=bz.mp hb;exact⟨y,z06 scope.names [] (λ_ _ z=>by cases z) hfc y cc (by rw[hcs];exact hm1)⟩
 ·have hf1:=hfr y (cx hy);have:=tQ (env:=X.env) (x:=y) scope.names [] (.inl (gb hf1));rw[hcs]at this;exact⟨_,this⟩
 ·obtain⟨v0,ob,ho1,hd1⟩:=I.cell y cc (look y cc e).2;exact⟨ob,v0,xP ho1 (.inr (memL y cc e)),hd1⟩
 ·obtain⟨jj,hjj,hρ⟩:=hdg i d hd;obtain⟨v,hv,rd⟩:=rs.at_ jj d hρ;have hNj:X.N[jj]?=some y:=Gg (jj,y) (cx (i:=i) (sd.mpr ⟨hjj,hy⟩));have hyk:=Eg y (cx hy);obtain⟨m,hn,hl⟩:=I.loc;obtain⟨u,ru,lk⟩:=hl jj y v hNj hv (.inr (.inl hyk))
  rcases lk with⟨kl,_⟩|⟨_,c4,ec4,ob,ho1,hd1⟩
  ·have kl':X.env.scope.names.lookup y=some .local:=kl;rw[hyk]at kl';cases kl'
  ·rw[(look y cc e).2]at ec4;cases ec4;exact⟨ob,u,v,xP ho1 (.inr (memL y cc e)),hd1,ru,rd⟩
end
section
variable{X:Cx}{G:Cfg}{E:XK}{k:Nat}{q x:Str}{p pos lpos:Pos}{params:ju}{body:bp}{scope:fy}{c P fr:ai}{fdr:bq}{Nl:Br}{me:M Dv}{n ncl j:Nat}{mb:MS}{caps:A'}{os:fy}{oN:Br}
theorem z09(g:Good X G E k)(hj:j<=k)(hfn:∀y,X.fn y=true)(F:∀base,(∀b o,X.base.get? b=some o->base.get? b=some o)->Cg X.prog X.w X.K X.mg base (cA X.prog X.w base) j fr fdr [x] (DC G base Nl params body scope me n ncl mb))(hg:Gl X q)(hm:X.mg q=some (.ref fr))(hk:qv X.K (.ref fr)=true)(hb:Binds X.K fdr [x] [])(hdef:defaultsOf params X.env=([],[]))(hq:X.env.qual++"<lambda>"=G.lq)(hP:G.tabs P=some G.lq)(hcode:X.env.code=.ref c)(hC:pb X.base c P)(hB:mI X.mg X.base)(LS:Di Nl scope)(hs:X.env.scope.names=os.names)(hN:X.N=oN)(Eg:∀y∈Nl,os.names.lookup y=some .cell)(hcl:caps.length=Nl.length)(Gg:∀z∈caps.zip Nl,oN[z.1]?=some z.2)(Ft:(q==Ib)=false:=by decide)(he:aq [.Lambda params body scope lpos] X.env=[(false,eval (.Lambda params body scope lpos) X.env)]:=by rfl):
  aK X G E (.Call (.Name q p) [.Lambda params body scope lpos] [] pos) (oJ caps n ncl mb me):=by
 intro hK pins s σ H Q I ⟨μ,ρ,h,rs,sm,o⟩;rw[<-hs]at Eg;rw[<-hN]at Gg;unfold oJ at o
 cases hcd:mJ caps ρ with
 |none=>rw[hcd]at o;exact o.elim
 |some ds=>
 rw[hcd]at o;have hfree:∀y,(y,ck)∈scope.names->X.env.kindOf y=some .cell∨X.env.kindOf y=some .free:=λy hy=>.inl (Eg y (LS.all _ hy rfl));refine ph (tK I hg hm ?_ Ft);refine An (h₀:=X.base) I.ok.mod.kin hk (bQ (iJ (YG (G:=G) (lpos:=lpos) (body:=body) hdef hq hP hcode hC hB hfree) jU he pos pins s σ H
  (λvs H1=>∃f c' pm ctv oc,vs=[.ref f]/\K0 H H1/\Es G H1/\H1 f=some (.frz (kh "<lambda>" G.lq params body scope (eE X.env scope.names []) pm c' ctv) (.own 0))/\H1 c'=some (.frz oc (.own 0))/\Fh G.lq oc) I
  ⟨sm.tab,λf c' pm ctv oc H1 _ st tb e1 e2 e3=>⟨f,c',pm,ctv,oc,rfl,st,tb,e1,e2,e3⟩⟩) λus s1⟨vs,H1,I1,r,f,c',pm,ctv,oc,ev,st,tb,e1,e2,e3⟩=>⟨I1.kIn,?_⟩) he rfl
 subst ev;generalize hcs:eE X.env scope.names []=cl at *;have xt:Ext μ h.length H μ h.length H1:=⟨ao _,λ_ _=>rfl,λa u im z=>st a u (λps w=>by subst w;exact im) z⟩
 have sm1:Cm G μ h H1:=⟨sm.inj,λi ob z=>by
  have r0:=sm.ob i ob z
  cases ob with
  |lst xs=>obtain⟨vs,z1,z2⟩:=r0;exact⟨vs,st _ _ (λ_ w=>by cases w) z1,Hf xt _ _ z2⟩
  |clo k t=>exact r0.clo xt
  |dct ks=>exact st _ _ (λ_ w=>by rcases rD ks with⟨_,e⟩|⟨_,e,_⟩<;>rw[e]at w<;>cases w) r0,tb⟩
 obtain⟨memc,L,hall⟩:=z08 LS.fr LS.all Eg hcl Gg I1 (rs.mono xt) hcd hcs e1 e2 e3;have e0:=z07 hfn I1.ok.frames I1 memc;have kb:∀b u,X.base.get? b=some u->(jN X.base s1.heap (cl.map (·.2))).get? b=some u:=λb u e=>xP (I1.bk _ _ e) (.inl ⟨u,e⟩);have hlen:(us++([]:List af)).length=[x].length:=by rw[om,<-r.length];rfl
 have hbt:=hb s1 us I1.kIn hlen;rw[om]at hbt;refine Am (pz ((F _ kb).run X.A X.stack s1 H1 ⟨us,[]⟩ us [.ref f] Q E (g.room.mono hj) e0 hbt r ⟨f,c',cl,ds,μ,h,rfl,L,hall,sm1,o.ext xt⟩) λrr s' hq'=>?_)
 cases rr with
 |ok fl=>
  cases fl with
  |ret u=>exact I1.after hq'
  |next=>exact ja hq'
  |brk=>exact ja hq'
  |cont=>exact ja hq'
 |error ev=>
  obtain⟨e,C,H',eu,os,bare,un,hok,fl,hE⟩:=hq';refine g.pas pins σ H1 s1 ev s' I1 ⟨e,C,H',eu,os,bare,un,hok,?_,hE⟩;obtain⟨T,a0,w1,w2,w3,w4⟩:=fl;refine⟨T,a0,w1,w2,?_,w4⟩
  cases qq:X.base.get? e with
  |none=>rfl
  |some u=>have:=kb e u qq;rw[w3]at this;cases this
end
end L2.Mr
namespace L2
end L2
namespace SR
open PySem PySem.Spec PySem.W PyProof.Rows SM
def DcO(h:cq)(d:ai)(es:Array zk)(ep:Nat):Prop:=∃o,h.get? d=some o/\o.ExactDict/\o.data=.dict es ep
def vA(d:ai)(i n ep:Nat):Obj:={cls:=.type "dict_keyiterator",data:=.fields #[.ref d,rawInt i,rawInt n,rawInt ep]}
section
variable{prog:bj}{w:cb}{A:bx}{E:af->ag->Prop}{s:ag}{d it:ai}{es:Array zk}{ep:Nat}
theorem DcO.at'{h h':cq}(D:DcO h d es ep)(k:∀o,h.get? d=some o->h'.get? d=some o):DcO h' d es ep:=let ⟨o,a,b⟩:=D;⟨o,k o a,b⟩
theorem DcO.ty(D:DcO s.heap d es ep):s.TypeIs (.ref d) "dict":=let ⟨o,a,b,_⟩:=D;⟨o,a,b.1⟩
theorem DcO.lt{h:cq}(D:DcO h d es ep):d<h.objs.size:=let ⟨o,a,_⟩:=D;au a
theorem NZ{i:Nat}{Q:Option af->ag->Prop}(hh:A.handled=none)(D:DcO s.heap d es ep)(hit:s.heap.get? it=some (vA d i es.size ep))(go:∀e h',es[i]?=some e->h'.get? it=some (vA d (i+1) es.size ep)->ig it s.heap h'->Q (some e.key) {s with heap:=h'})(no:∀h',es[i]?=none->xv it s.heap h'->Q none {s with heap:=h'}):wpAny (model prog w) A (pyNext (.ref it)) Q E s:=by
 have hT:s.TypeIs (.ref it) "dict_keyiterator":=⟨_,hit,rfl⟩;have hb:(if Builtin.Dict_items.ownsTuple "dict_keyiterator"=true then 2 else 0)=0:=by decide
 have hi:(if((i:Nat):Int)<0 then none else es[((i:Nat):Int).toNat]?)=es[i]?:=by rw[if_neg (by lia),dh]
 obtain⟨o,ho,hc,hd⟩:=D;unfold pyNext;refine ae (uq (gr (name:=mr "__next__") hT F.slot_dict_keyiterator_next (fe F.slot_dict_keyiterator_next hT F.entry_dict_keyiterator_next ?_ (F.args_dict_keyiterator_next_1 _))));refine ae (m:=Builtin.Dict_items.slot0 "__next__" ⟨[.ref it],[]⟩) (aj (ae (ae (ae (rg hT (aj (ae (Az hit rfl ?_))))))));rw[hb];show wpAny _ _ (Builtin.Dict_items.addrOf (.ref d) >>=_) _ _ s;refine ae (aj (ae (wpAny_dictEntries ho hd ?_)));rw[if_neg (by simp)];refine ae (aj (ae (wpAny_dictEpoch ho hd ?_)));rw[if_neg (by simp)];refine aj ?_;show wpAny _ _ (match (if((i:Nat):Int)<0 then none else es[((i:Nat):Int).toNat]?)with|some e=>_|none=>_) _ _ s;rw[hi]
 cases hx:es[i]? with
 |some e=>
  refine ae (ae (rg hT (aj (ae (wpAny_isOneOf_keyiter hT ?_)))));rw[hb];show wpAny _ _ (setField (.ref it) 1 (rawInt (((i:Nat):Int)+1)) >>=_) _ _ s;refine ae (iz hit (by simp) λh1 g1 b1=>?_);have g2:h1.get? it=some (vA d (i+1) es.size ep):=by rw[g1];rfl
  refine ae (ff (ae (wpAny_isOneOf_keyiter (s:={s with heap:=h1}) ⟨_,g2,rfl⟩ ?_)));show wpAny _ _ (pure e.key) _ _ _;exact aj (aj ⟨_,rfl,aj (go e h1 hx g2 b1)⟩)
 |none=>refine ae (ae (rg hT (aj ?_)));rw[hb];refine ae (m:=setField (.ref it) 0 jn) (iz hit (by simp) λh1 g1 b1=>?_);show wpAny _ _ (newExc (.type "StopIteration") [] >>=_) _ _ _;refine ae ?_;simp only[newExc,newTuple];refine ae (fh ?_ (by size_fits));refine ae (m:=firstArgMember _ _) (wb (a:=jn) (by first|rfl|(simp only[firstArgMember];rfl)) ?_);refine fh ?_ (by size_fits);simp only[raiseNew];refine ae (wpAny_handled ?_);rw[show A.in1.handled=none from hh];refine ae (aj (wpAny_throw ?_));refine ae (uy (T:="StopIteration") (b:=true) ⟨_,aw _ rfl,rfl⟩ Ax ?_);exact aj (no _ hx ((b1.extBut.push _).push _))
end
section
variable{prog:bj}{w:cb}{A:bx}{E:af->ag->Prop}{s:ag}{d it:ai}{es:Array zk}{ep:Nat}
theorem z0a(hh:A.handled=none)(I:ai)(hne:d≠I):
  Walks prog w A I [I,d] [I] es.size (λi v=>∃e,es[i]?=some e/\v=e.key) (λi h=>DcO h d es ep/\h.get? I=some (vA d i es.size ep)) where
 sub:=λb hb=>by rw[cg.mp hb];exact bh ..
 frame:=λi h h'⟨p,q⟩k=>⟨p.at' (k d (by simp)),k I (by simp) _ q⟩
 item:=λi s Q E hi⟨p,q⟩hQ=>NZ hh p q (λe h' hx q' sb=>hQ _ h' s.toks ⟨_,hx,rfl⟩ ⟨p.at' λo e=>(sb.2 d hne).trans e,q'⟩ λb o hb e=>(sb.2 b λz=>hb (by rw[z];exact bh ..)).trans e) λh' hx _=>by rw[fi hi]at hx;cases hx
 done:=λs Q E⟨p,q⟩hQ=>NZ hh p q (λe h' hx _ _=>by rw[ly (ao _)]at hx;cases hx) λh' _ x=>hQ h' s.toks λb o hb e=>x b o (λz=>hb (by rw[z];exact bh ..)) e
 self:=λi s Q E⟨_,q⟩hQ=>wpAny_pyIter_keyiter (d:=d) (i:=i) (n:=es.size) (ep:=ep) ⟨_,q,rfl,rfl⟩ hQ
theorem z0b{Q:af->ag->Prop}(lo:(d==sysModules)=false)(D:DcO s.heap d es ep)(h:Q (.ref s.heap.objs.size) {s with heap:=s.heap.push (vA d 0 es.size ep)}):wpAny (model prog w) A (pyIter (.ref d)) Q E s:=by obtain⟨o,ho,hc,hd⟩:=id D;refine yr D.ty F.slot_dict_iter (fe F.slot_dict_iter D.ty F.entry_dict_iter ?_ (F.args_dict_iter_1 _));show wpAny _ _ ((Builtin.Dict.notOrdered "__iter__" ⟨[.ref d],[]⟩ >>=_) >>=_) _ _ s;refine ae (ae (wpAny_notOrdered_dict D.ty (aj (ae (m:=Builtin.Dict.addrOf (.ref d)) (aj (ae ?_))))));unfold Builtin.Dict.showsAll;rw[lo,if_neg gu];exact aj (ae (wpAny_dictEntries ho hd (ae (wpAny_dictEpoch ho hd (ae (fh (aj ⟨_,rfl,"dict_keyiterator",_,⟨_,aw _ rfl,rfl⟩,F.slot_dict_keyiterator_next.lookup,h⟩)))))))
theorem z0c(lo:(d==sysModules)=false):KdlSrc prog w "dict" d d es.size (λi v=>∃e,es[i]?=some e/\v=e.key) (λh=>DcO h d es ep) where
 type:=λ_ hm=>hm.ty
 there:=λ_ hm=>⟨hm.lt,hm.lt⟩
 keep:=λ_ _ hm hk=>hm.at' λo e=>hk d (.inl rfl) o e
 notList:=by decide
 notTuple:=by decide
 hint:=λ_ _ _ _ hm hq=>kdl_hint_dict hm.ty hq
 iter:=λ_ _ hh hm=>⟨_,_,(λ_ _ hq=>z0b lo hm hq),z0a (ep:=ep) hh _ (ay hm.lt),⟨hm.at' λo e=>ak _ e,aw _ rfl⟩⟩
theorem z0d{Q:List af->ag->Prop}(hh:A.handled=none)(lo:(d==sysModules)=false)(D:DcO s.heap d es ep)(hn:es.size<=cp)(q:∀(h':cq)(tk:Nat),(∀b o,s.heap.get? b=some o->h'.get? b=some o)->s.heap.objs.size<=h'.objs.size->Q (es.toList.map (·.key)) {s with heap:=h',toks:=tk}):wpAny (model prog w) A (collect (.ref d)) Q E s:=by
 have la:d<s.heap.objs.size:=D.lt;have up1:∀b o,s.heap.get? b=some o->(s.heap.push (seqObj "list" #[] 0)).get? b=some o:=λb o e=>ak _ e;have hS1:(s.heap.push (seqObj "list" #[] 0)).get? s.heap.objs.size=some (seqObj "list" #[] 0):=aw _ rfl;unfold collect;refine ae (wj (jf wk ?_));rw[gk F.plain_proto_collect _];refine ae (m:=newList []) (nq (aj ⟨rh _ (by decide+kernel),jf zo ?_⟩));rw[gk F.plain_list_iadd _];refine kz (kdl_extend (A:=A) (s:={s with heap:=s.heap.push (seqObj "list" #[] 0)}) (R:=λr s'=>match r with
  |.ok (.ret v)=>wpAny (model prog w) A (match v with
   |.ref a=>do
    let o <-load a
    match o.data with
    |.seq xs _=>pure xs.toList
    |_=>unsupported "internal:collect"
   |_=>unsupported "internal:collect") Q E s'
  |.ok _=>False
  |.error e=>E e s') (z0c (es:=es) (ep:=ep) lo) hh (D.at' (up1 d)) s.heap.objs.size (jh la) (jh la) (.ref s.heap.objs.size) 0 hS1 (λh' tk acc c ke hS' ia=>?_) hn) (λfin s' z=>by cases fin<;>exact z) λ_ _ z=>z
 show wpAny _ A (load s.heap.objs.size >>=_) _ _ _;refine ae (Al hS' (aj ?_));have eacc:acc.toList=es.toList.map (·.key):=by
  apply sk
  intro i;rw[jk,dm,jk]
  cases q:acc[i]? with
  |some v=>obtain⟨x,h1,h2⟩:=ia.2 i v q;rw[h1,h2];rfl
  |none=>have h1:acc.size<=i:=yt.mp q;rw[ly (by rw[<-ia.1];exact h1)];rfl
 rw[eacc];exact q h' tk (λb o e=>ke b o (ay (au e)) (up1 b o e)) (gh (au hS'))
end
end SR
namespace L2.Mr
open SR
section
variable{G:Cfg}{μ:Nat->ai}{h:Hs}{H H':Hp}{p:ai}{n:Nat}
theorem Cm.allocD(s:Cm G μ h H)(hp:H p=none)(ks:wt ⊕ wo):
  Ext μ h.length H (λi=>if i=h.length then p else μ i) (h++[Hx ks]).length (aV H p (dO ks))/\Cm G (λi=>if i=h.length then p else μ i) (h++[.dct ks]) (aV H p (dO ks)):=by
 have hl:(h++[Hx ks]).length=h.length+1:=by simp
 have hq:=s.not hp;have x:Ext μ h.length H (λi=>if i=h.length then p else μ i) (h++[Hx ks]).length (aV H p (dO ks)):=⟨by lia,λi hi=>if_neg (ay hi),λa o _ e=>dD hp a o e⟩
 refine⟨x,λi j hi hj e=>?_,λi o q=>?_,s.tab.keep λa o _ _ q=>dD hp a o q⟩
 ·rw[hl]at hi hj
  by_cases h1:i=h.length<;>by_cases h2:j=h.length
  ·lia
  ·rw[if_pos h1,if_neg h2]at e;exact absurd e.symm (hq j (by lia))
  ·rw[if_neg h1,if_pos h2]at e;exact absurd e (hq i (by lia))
  ·rw[if_neg h1,if_neg h2]at e;exact s.inj i j (by lia) (by lia) e
 ·by_cases h1:i<h.length
  ·rw[ed h1]at q;have r1:=s.ob i o q;rw[if_neg (ay h1)]
   cases o with
   |lst xs=>obtain⟨ws,e1,r2⟩:=r1;exact⟨ws,dD hp _ _ e1,Hf x _ _ r2⟩
   |clo k t=>exact r1.clo x
   |dct ks=>exact dD hp _ _ r1
  ·rw[gj (by lia)]at q;have h2:i=h.length:=by have:=(ba.mp q).1;simp at this;lia
   subst h2;simp at q;subst q;rw[if_pos rfl];exact dR
theorem Cm.writeD{i:Nat}{ks:wt ⊕ wo}(s:Cm G μ h H)(q:h[i]?=some (.dct ks))(Gm:wt ⊕ wo):
  Ext μ h.length H μ (h.set i (.dct Gm)).length (aV H (μ i) (dO Gm))/\Cm G μ (h.set i (.dct Gm)) (aV H (μ i) (dO Gm)):=by
 have e0:H (μ i)=some (dO ks):=s.ob i _ q;have hi:i<h.length:=(ba.mp q).1;have im:∀a o,(∀d,o≠dO d)->H a=some o->aV H (μ i) (dO Gm) a=some o:=λa o m e=>by
  rw[cB];exact e
  rintro rfl;rw[e0]at e;cases e;exact m _ rfl
 have x:Ext μ h.length H μ (h.set i (.dct Gm)).length (aV H (μ i) (dO Gm)):=⟨by simp,λ_ _=>rfl,λa o m e=>im a o (λd z=>by subst z;rcases rD d with⟨l,e⟩|⟨l,e,ne⟩<;>rw[e]at m;exact m;exact ne m) e⟩
 refine⟨x,λa b ha hb=>?_,λj o e=>?_,λP lq e=>?_⟩
 ·rw[kr]at ha hb;exact s.inj a b ha hb
 ·by_cases Ea:i=j
  ·subst Ea;rw[dv hi]at e;cases e;exact dR
  ·rw[da Ea]at e;have hj:j<h.length:=(ba.mp e).1;have r1:=s.ob j o e;have ne:μ j≠μ i:=λz=>Ea (s.inj j i hj hi z).symm
   cases o with
   |lst zs=>obtain⟨ws,e1,r2⟩:=r1;exact⟨ws,by rw[cB ne];exact e1,Hf x _ _ r2⟩
   |clo k t=>exact r1.clo x
   |dct ks=>exact(cB ne).trans r1
 ·obtain⟨ps,h1,h2,h3⟩:=s.tab P lq e;refine⟨ps,im P _ (λd z=>by rcases rD d with⟨_,e⟩|⟨_,e,_⟩<;>rw[e]at z<;>cases z) h1,h2,λpos cv q=>?_⟩;obtain⟨a,oc,e1,e2,e3⟩:=h3 pos cv q;exact⟨a,oc,e1,im a _ (λd z=>by rcases rD d with⟨_,e⟩|⟨_,e,_⟩<;>rw[e]at z<;>cases z) e2,e3⟩
end
theorem z0e(elt tg iter Dh Cd Ei Cn:bp)(ifs Co Cy:List bp)(sc:fy)(ps:Pos)(it:af)(D:ai)(env:Env):
  compTurn (.ListComp elt [⟨tg,iter,ifs,0⟩,⟨Dh,Cd,Co,0⟩,⟨Ei,Cn,Cy,0⟩] sc ps) 0 it (.ref D) env=
   iX iter.pos it tg ifs env (kX Cd (.ListComp elt [⟨tg,iter,ifs,0⟩,⟨Dh,Cd,Co,0⟩,⟨Ei,Cn,Cy,0⟩] sc ps) 1 D env) (.compLoop (.ListComp elt [⟨tg,iter,ifs,0⟩,⟨Dh,Cd,Co,0⟩,⟨Ei,Cn,Cy,0⟩] sc ps) 0 it (.ref D) env):=by
 unfold iX kX;simp only[bind_assoc,pure_bind];rfl
theorem z0f(elt tg iter Dh Cd Ei Cn:bp)(ifs Co Cy:List bp)(sc:fy)(ps:Pos)(it:af)(D:ai)(env:Env):
  compTurn (.ListComp elt [⟨tg,iter,ifs,0⟩,⟨Dh,Cd,Co,0⟩,⟨Ei,Cn,Cy,0⟩] sc ps) 1 it (.ref D) env=
   iX Cd.pos it Dh Co env (kX Cn (.ListComp elt [⟨tg,iter,ifs,0⟩,⟨Dh,Cd,Co,0⟩,⟨Ei,Cn,Cy,0⟩] sc ps) 2 D env) (.compLoop (.ListComp elt [⟨tg,iter,ifs,0⟩,⟨Dh,Cd,Co,0⟩,⟨Ei,Cn,Cy,0⟩] sc ps) 1 it (.ref D) env):=by
 unfold iX kX;simp only[bind_assoc,pure_bind];rfl
theorem z0g(elt tg iter Dh Cd Ei Cn:bp)(ifs Co Cy:List bp)(sc:fy)(ps:Pos)(it:af)(D:ai)(env:Env):
  compTurn (.ListComp elt [⟨tg,iter,ifs,0⟩,⟨Dh,Cd,Co,0⟩,⟨Ei,Cn,Cy,0⟩] sc ps) 2 it (.ref D) env=
   iX Cn.pos it Ei Cy env (do let x <-eval elt env;let _ <-call (.builtin "list.append") [.ref D,x];pure ()) (.compLoop (.ListComp elt [⟨tg,iter,ifs,0⟩,⟨Dh,Cd,Co,0⟩,⟨Ei,Cn,Cy,0⟩] sc ps) 2 it (.ref D) env):=by rfl
section
variable{X:Cx}{G:Cfg}{E:XK}{elt tg iter Dh Cd Ei Cn:bp}{ifs Co Cy:List bp}{sc:fy}{ps px pos:Pos}{mi mi' mi2:M Src}{st En Gb:eB}{test Dz test2:M Bool}{me:M Dv}{N:Br}{cap:List (Option Nat)}{i:Nat}{x:Str}
theorem z0h(hc:X.calm=true)(hK:X.K=G.K)(hi':∀s H ex,jC (cF X sc N s H ex) G E0 Dh Cd mi')(Fq:∀s H ex,jB (cF X sc N s H ex) G Dh En)(htt':∀s H ex,lE (cF X sc N s H ex) G Co Dz)(hi2:∀s H ex,jC (cF X sc N s H ex) G E0 Ei Cn mi2)(hg2:∀s H ex,jB (cF X sc N s H ex) G Ei Gb)(htt2:∀s H ex,lE (cF X sc N s H ex) G Cy test2)(Ff:∀s H ex,aK (cF X sc N s H ex) G E0 elt me)(hs':∀s H ex x,foldedSetIterable Cd (cF X sc N s H ex).env x=pure x)(hs2:∀s H ex x,foldedSetIterable Cn (cF X sc N s H ex).env x=pure x)(s:ag)(H:Hp)(ex:List ai)(D:ai):
  Ga (cF X sc N s H ex) D (kX Cd (.ListComp elt [⟨tg,iter,ifs,0⟩,⟨Dh,Cd,Co,0⟩,⟨Ei,Cn,Cy,0⟩] sc ps) 1 D (cF X sc N s H ex).env) (rO G (gQ mi' En Dz (gQ mi2 Gb test2 (cG me)))):=
 Ga.imp (BR (X:=cF X sc N s H ex) (D:=D) (gens:=[⟨tg,iter,ifs,0⟩,⟨Dh,Cd,Co,0⟩,⟨Ei,Cn,Cy,0⟩]) (d:=1) rfl hc rfl (λit=>z0f elt tg iter Dh Cd Ei Cn ifs Co Cy sc ps (.ref it) D _) (hi' s H ex hK) (Fq s H ex hK) (htt' s H ex hK)
  (Ga.imp (BR (X:=cF X sc N s H ex) (D:=D) (gens:=[⟨tg,iter,ifs,0⟩,⟨Dh,Cd,Co,0⟩,⟨Ei,Cn,Cy,0⟩]) (d:=2) rfl hc rfl (λit=>z0g elt tg iter Dh Cd Ei Cn ifs Co Cy sc ps (.ref it) D _) (hi2 s H ex hK) (hg2 s H ex hK) (htt2 s H ex hK)
   (Ga.imp (wX (Ff s H ex hK)) λ_ _ _ _ t=>xH t) (hs2 s H ex)) λ_ _ _ _ t=>CK t) (hs' s H ex)) λ_ _ _ _ t=>CK t
theorem z0i(hN:X.N.Nodup)(hi1:X.N[i]?=some x)(hc:X.calm=true)(C:Df X sc N cap)(hi:jC X G E tg iter mi)(hg:∀s H ex,jB (cF X sc N s H ex) G tg st)(Gd:∀s H ex,lE (cF X sc N s H ex) G ifs test)(hi':∀s H ex,jC (cF X sc N s H ex) G E0 Dh Cd mi')(Fq:∀s H ex,jB (cF X sc N s H ex) G Dh En)(htt':∀s H ex,lE (cF X sc N s H ex) G Co Dz)(hi2:∀s H ex,jC (cF X sc N s H ex) G E0 Ei Cn mi2)(hg2:∀s H ex,jB (cF X sc N s H ex) G Ei Gb)(htt2:∀s H ex,lE (cF X sc N s H ex) G Cy test2)(Ff:∀s H ex,aK (cF X sc N s H ex) G E0 elt me)(hx:X.env.scope.names.lookup x=some .local:=by rfl)(hsw:swapsWith (.ListComp elt [⟨tg,iter,ifs,0⟩,⟨Dh,Cd,Co,0⟩,⟨Ei,Cn,Cy,0⟩] sc ps) (some (.Name x px)) pos.line X.env=pure true:=by rfl)(hs:∀x,foldedSetIterable iter X.env x=pure x:=by intro _;rfl)(hs':∀s H ex x,foldedSetIterable Cd (cF X sc N s H ex).env x=pure x:=by intro _ _ _ _;rfl)(hs2:∀s H ex x,foldedSetIterable Cn (cF X sc N s H ex).env x=pure x:=by intro _ _ _ _;rfl):
  iE X G E (.Assign [.Name x px] (.ListComp elt [⟨tg,iter,ifs,0⟩,⟨Dh,Cd,Co,0⟩,⟨Ei,Cn,Cy,0⟩] sc ps) pos) (aR (dF (cR mi cap st test (gQ mi' En Dz (gQ mi2 Gb test2 (cG me))))) (aI i)):=λhK=>
 PS.imp (JK hsw hN hi1 hx hc C rfl (inner:=λD env=>kX Cd (.ListComp elt [⟨tg,iter,ifs,0⟩,⟨Dh,Cd,Co,0⟩,⟨Ei,Cn,Cy,0⟩] sc ps) 1 D env) (λit D env=>z0e elt tg iter Dh Cd Ei Cn ifs Co Cy sc ps (.ref it) D env) (hi hK) (λs H ex=>hg s H ex hK) (λs H ex=>Gd s H ex hK)
  (z0h hc hK hi' Fq htt' hi2 hg2 htt2 Ff hs' hs2) hs) λD σ H⟨μ,ρ,h,rs,s,o⟩=>
  xJ (CL (kK rs s o λμ1 d h1 v H1 x1 Cr s1 r1 o1=>o1 μ1 H1 _ Hm s1 (Cr.set i r1)))
end
open PySem.SeqAt PySem.MeetsSeq PySem.MeetsSeq2 PySem.MeetsSeq3
end L2.Mr
namespace L2.Mr.K61
open L2.Mr.Cod
open L2.Mr.Com
open L2.Mr.K60 (oX uZ)
end L2.Mr.K61
namespace L2.Mr
end L2.Mr
namespace L2.Mr.K63
open L2.Mr.Cod
open L2.Mr.Com
end L2.Mr.K63
namespace L2.Mr
open PySem PySem.Spec PySem.W PyProof.Rows SoM SR
end L2.Mr
namespace SR
open SM
theorem EV{α β:Type}{f g:α->Option β}:∀{l:List α},(∀x∈l,f x=g x)->l.filterMap f=l.filterMap g
 |[],_=>rfl
 |x::l,h=>by rw[cu,cu,h x (bh ..),EV λy hy=>h y (ax _ hy)]
abbrev EL:=List (Int×af)
def kI:af->Int|.int k _=>k|_=>0
def hG(L:EL):y':=L.map λe=>kI e.2
def Fb(w:cb)(h:cq)(a:ai)(L:EL):Prop:=∃o es ep t,Cq w h a (L.map bw) o es ep t/\es.toList=L/\L.length*5<t.mask*3
theorem Fb.keep{w:cb}{h h':cq}{a:ai}{L:EL}(S:Fb w h a L)(k:∀o,h.get? a=some o->h'.get? a=some o):Fb w h' a L:=by obtain⟨o,es,ep,t,P,r⟩:=S;exact⟨o,es,ep,t,P.at' (k o P.obj),r⟩
theorem z0j{t:gy}{hs:y'}(T:Dy t hs)(h:Int):∃n,pr t.mask h n∉t.place.toList/\(∀m,m<n->pr t.mask h m∈t.place.toList)/\t.freeSlot h=some (pr t.mask h n,false):=by
 obtain⟨N,hN,hNe⟩:=T.stops h;obtain⟨m,a1,a2,a3,a4⟩:=MY T (λ_=>h+1) h (10*qp t.mask) 0 N (gg _) (by lia) hNe
 rcases a4 with⟨b1,b2⟩|⟨i,b1,b2,b3⟩
 ·refine⟨m,b1,λl hl=>(a3 l (gg _) hl).1,?_⟩;have e:t.probe (λ_=>h+1) h (t.probeStart h)=some (.empty (pr t.mask h m) none):=b2;unfold SetTable.freeSlot;rw[e];rfl
 ·lia
theorem z0k{t:gy}{es:Array (Int×af)}{L:EL}{wanted mask':Nat}(T:Dy t (L.map bw))(Eu:es.toList=L)(hw:qr wanted-1=mask')(hg:kQ mask')(hl:L.length*5<mask'*3):
  ∃es' t',relayAll t es wanted=(es',t',false)/\t'.led=t.led/\t'.mask=mask'/\es'.toList.Perm L/\Dy t' (es'.toList.map bw):=by
 have hsz:es.size=L.length:=by rw[<-Eu];simp
 have hs':(es.map (·.1)).size=L.length:=by simp[hsz]
 have eh:(es.map (·.1)).toList=L.map bw:=by rw[Array.toList_map,Eu]
 obtain⟨t',order,e1,e2,e3,e4,e5⟩:=M7 (mask:=mask') (finger:=t.finger) (moves:=t.movedTo mask') (led:=t.led) (hs:=es.map (·.1)) hg (by rw[hs'];lia);have er:t.relaid (es.map (·.1)) wanted=some (t',order):=by unfold Bo;rw[hw,T.plain];exact e1
 rw[hs']at e4;have ef:(order.filterMap (es[·]?)).toList=order.toList.filterMap λi=>L[i]?:=by rw[Aa];exact EV λi _=>by rw[<-Eu,jk]
 have hp:(order.filterMap (es[·]?)).toList.Perm L:=by rw[ef];exact(e4.filterMap (λi=>L[i]?)).trans (Bh (DY L))
 have hT:Dy t' ((order.filterMap (es[·]?)).toList.map bw):=by
  have:(order.filterMap (es[·]?)).toList.map bw=order.toList.filterMap ((es.map (·.1)).toList[·]?):=by rw[ef,List.map_filterMap,eh];exact EV λi _=>by rw[dm]
  rw[this];exact e5
 refine⟨_,t',?_,e3,e2,hp,hT⟩;unfold relayAll;rw[er];have hc:coversAll order es.size=true:=by unfold coversAll;rw[hsz];exact List.isPerm_iff.mpr e4
 have hf:t'.fits (order.filterMap (es[·]?)).size=true:=by have:=hT.fits;rw[bf,jx]at this;exact this
 dsimp only;rw[hc,hf];rfl
section
variable{prog:bj}{w:cb}{A:bx}{E:af->ag->Prop}{s:ag}{a:ai}{L:EL}{k:Int}{tg:Nat}
theorem N0{e:Int×af}(Ff:ElemsOf (intKind prog w) L)(he:e∈L)(k:Int):(intKind prog w).is k e.2=decide (kI e.2=k):=by obtain⟨⟨k',h,_⟩,_⟩:=Ff e he;obtain⟨t,q⟩:=kn h;rw[KeyKind.is_eq_decide h k,q];simp[kI,eq_comm]
theorem z0l{tg}(S:Fb w s.heap a L)(Ff:ElemsOf (intKind prog w) L)(h76:k∉hG L->L.length+1<=76){Q:Bool->ag->Prop}(h:∀h' L' r,ig a s.heap h'->Fb w h' a L'->(k∈hG L->L'.Perm L)->(k∉hG L->L'.Perm (((intKind prog w).hash k,.int k tg)::L))->Q r {s with heap:=h'}):
  wpAny (model prog w) A (setAddHashed a (.int k tg) ((intKind prog w).hash k)) Q E s:=by
 obtain⟨o,es,ep,t,P,Eu,nf⟩:=S;have hsz:es.size=L.length:=by rw[<-Eu];simp
 have Fe:=P.tab.msk;have h127:L.length<127:=by rcases Fe with q|q|q<;>(rw[q]at nf;lia)
 have hsb:es.size<scanBound:=by unfold scanBound;lia
 rw[<-Eu]at Ff;have hkey:(intKind prog w).is k (nr k tg)=true:=Ba _ _ _ _;unfold setAddHashed setAddHashedIn;refine ff (ae (jm P.obj P.data P.fits ?_));dsimp only;rw[byScan_of rfl hsb Ff];simp only[↓reduceIte];unfold setAddByScan;refine ae ?_;refine ae (tq ?_);refine ae (wpAny_setScan_of hkey P.obj P.data P.fits Ff ?_);rw[Eu]at Ff⊢
 cases hr:List.findIdx? (λe=>(intKind prog w).is k e.2) L with
 |some j=>
  dsimp only;obtain⟨hj,hpj,_⟩:=List.findIdx?_eq_some_iff_getElem.mp hr;have Dm:k∈hG L:=by rw[N0 Ff (di hj)]at hpj;exact bz.mpr ⟨_,di hj,of_decide_eq_true hpj⟩
  refine aj (aj ?_);exact h s.heap L false (oi ..) ⟨o,es,ep,t,P,Eu,nf⟩ (λ_=>.refl _) λq=>absurd Dm q
 |none=>
  have Dl:k∉hG L:=λDm=>by obtain⟨e,he,q⟩:=bz.mp Dm;have:=List.findIdx?_eq_none_iff.mp hr e he;rw[N0 Ff he,decide_eq_true q]at this;exact Bool.noConfusion this
  have h76':=h76 Dl;generalize hhk:(intKind prog w).hash k=hk at h⊢;obtain⟨n,hn,hw,hfr⟩:=z0j P.tab hk;have hroom:(L.map bw).length+1<=t.mask:=by
   rw[bf]
   rcases Fe with q|q|q<;>(rw[q]at nf⊢;lia)
  have T2:=P.tab.put (h:=hk) (n:=n) hn hw hroom;have hbl:=(sE (j:=pr t.mask hk n) P.tab.rise).2.2;generalize hp:qt t.place (pr t.mask hk n)=p at T2 hbl;have eT:(L.map bw).take p++hk::(L.map bw).drop p=(L.take p++(hk,nr k tg)::L.drop p).map bw:=by simp[sy,qi]
  rw[eT]at T2;have Ey:(ib es p (hk,nr k tg)).toList=L.take p++(hk,nr k tg)::L.drop p:=by rw[sF _ _ _ (by rw[hsz,<-show t.place.size=L.length from by have:=P.tab.size;simpa using this];exact hbl),Eu]
  have pm:=SR.ins_perm L (hk,nr k tg) p;generalize hL2:L.take p++(hk,nr k tg)::L.drop p=L2 at T2 Ey pm;have De:L2.length=L.length+1:=pm.length_eq;generalize hes2:ib es p (hk,nr k tg)=es2 at Ey;have Ge:es2.size=L.length+1:=by rw[<-De,<-Ey];simp
  obtain⟨t2,eln,T2,hl2,hm2⟩:∃t2,layNew t es hk (.int k tg)=(es2,t2,false,false)/\Dy t2 (L2.map bw)/\t2.led=t.led/\t2.mask=t.mask:=by
   refine⟨_,?_,T2,rfl,rfl⟩;unfold layNew;rw[hfr];dsimp only;rw[M1 P.tab.nod,hp];dsimp only;rw[hes2];have hf:({t with place:=ib t.place p (pr t.mask hk n)}:gy).fits es2.size=true:=by have:=T2.fits;rw[bf,De,<-Ge]at this;exact this
   unfold SetTable.orStandIn;rw[hf];rfl
  dsimp only;rw[eln];dsimp only;refine ae (aj ?_);rw[if_pos T2.plain];refine ae (aj ?_);simp only[if_true];refine ae (uh P.obj P.data ?_ (by rw[Ge,gv];lia));have Fv:=yI (s:=s) (es':=es2) (t':=t2) P.data P.obj;have fill:t2.tooFull=decide ((L.length+1)*5>=t.mask*3):=by unfold Bi ye;have e1:=T2.size;rw[bf,De]at e1;rw[T2.nod,e1,hm2];rfl
  simp only[zb,zv];rw[fill];have fin:∀h' L',ig a (s.heap.update a (ur es2 t2)) h'->Fb w h' a L'->L'.Perm L2->Q true {s with heap:=h'}:=λh' L' sb st p'=>h h' L' true ((km ..).trans sb) st (λq=>absurd q Dl) λ_=>p'.trans pm
  by_cases full:(L.length+1)*5>=t.mask*3
  ·rw[decide_eq_true full,if_pos rfl];have hcase:(t.mask=7/\L.length=4)∨(t.mask=31/\L.length=18):=by
    rcases Fe with q|q|q
    ·left;rw[q]at nf full;exact⟨q,by lia⟩
    ·right;rw[q]at nf full;exact⟨q,by lia⟩
    ·rw[q]at full;lia
   have go:∀mask',qr (xk es2.size)-1=mask'->kQ mask'->L2.length*5<mask'*3->
     ∃es' t',relayAll t2 es2 (xk es2.size)=(es',t',false)/\t'.led=t2.led/\es'.toList.Perm L2/\Dy t' (es'.toList.map bw)/\es'.toList.length*5<t'.mask*3:=λmask' x1 x2 x3=>by
    obtain⟨es',t',z1,z2,z3,z4,z5⟩:=z0k T2 Ey x1 x2 x3;exact⟨es',t',z1,z2,z4,z5,by rw[z3,z4.length_eq];exact x3⟩
   have go':∃es' t',relayAll t2 es2 (xk es2.size)=(es',t',false)/\t'.led=t2.led/\es'.toList.Perm L2/\Dy t' (es'.toList.map bw)/\es'.toList.length*5<t'.mask*3:=by
    rcases hcase with⟨q1,q2⟩|⟨q1,q2⟩
    ·exact go 31 (by rw[Ge,q2];decide) (.inr (.inl rfl)) (by rw[De,q2];decide)
    ·exact go 127 (by rw[Ge,q2];decide) (.inr (.inr rfl)) (by rw[De,q2];decide)
   obtain⟨es',t',z1,z2,z4,z5,z6⟩:=go';rw[z1];dsimp only;refine ae (aj ?_);have zs:es'.size=L.length+1:=by rw[<-De,<-z4.length_eq];simp
   refine ae (uh (s:={s with heap:=s.heap.update a (ur es2 t2)}) Fv rfl ?_ (by rw[zs,gv];lia));refine aj (aj ?_);exact fin _ _ (km ..) ⟨_,_,_,t',⟨yI (s:={s with heap:=s.heap.update a (ur es2 t2)}) rfl Fv,P.ex,rfl,by simp,z5,(z2.trans hl2).trans P.led⟩,rfl,z6⟩ z4
  ·rw[decide_eq_false full,if_neg gu];refine aj (aj (fin _ L2 (oi ..) ⟨_,_,_,_,⟨Fv,P.ex,rfl,by rw[Ge];simp[De],T2,hl2.trans P.led⟩,Ey,?_⟩ (.refl _)));rw[De,hm2];exact Nat.lt_of_not_le full
end
section
variable{prog:bj}{w:cb}{A:bx}{R:xm->ag->Prop}{I:ai}{fp wr:List ai}{n:Nat}{P:Nat->af->Prop}{St:Nat->cq->Prop}
structure Fg(prog:bj)(w:cb)(ky:Nat->Int)(i:Nat)(L:EL):Prop where
 el:ElemsOf (intKind prog w) L
 nd:(hG L).Nodup
 mem:∀k,k∈hG L↔∃j,j<i/\ky j=k
theorem Fg.step{ky:Nat->Int}{i:Nat}{L L':EL}{tg}(u:Fg prog w ky i L)(q1:ky i∈hG L->L'.Perm L)(q2:ky i∉hG L->L'.Perm (((intKind prog w).hash (ky i),.int (ky i) tg)::L)):Fg prog w ky (i+1) L':=by
 have jl:∀k,(∃j,j<i+1/\ky j=k)↔(ky i=k∨∃j,j<i/\ky j=k):=λk=>by
  constructor
  ·rintro ⟨j,hj,e⟩
   rcases jr j i with z|z
   ·exact .inr ⟨j,z,e⟩
   ·have:j=i:=by lia
    subst this;exact .inl e
  ·rintro (e|⟨j,hj,e⟩)
   ·exact⟨i,by lia,e⟩
   ·exact⟨j,by lia,e⟩
 by_cases Dm:ky i∈hG L
 ·have pm:=q1 Dm;have pk:(hG L').Perm (hG L):=pm.map _;refine⟨u.el.perm pm,pk.nodup_iff.mpr u.nd,λk=>?_⟩;rw[pk.mem_iff,jl,u.mem];exact⟨.inr,λz=>z.elim (λe=>by rw[<-e];exact(u.mem _).mp Dm) id⟩
 ·have pm:=q2 Dm;have pk:(hG L').Perm (ky i::hG L):=pm.map λe:Int×af=>kI e.2;refine⟨λe he=>?_,pk.nodup_iff.mpr (jw.mpr ⟨Dm,u.nd⟩),λk=>?_⟩
  ·rcases bc.mp (pm.mem_iff.mp he)with rfl|h
   ·exact⟨⟨ky i,Ba _ _ _ _,rfl⟩,rfl⟩
   ·exact u.el e h
  ·rw[pk.mem_iff,jl,bc,u.mem,eq_comm]
theorem z0m(W:Walks prog w A.in1 I fp wr n P St)(S:ai)(hSf:S∉fp)(ky:Nat->Int)(hval:∀i v,P i v->∃t,v=.int (ky i) t)(h76:n<=76):
  ∀(m i:Nat)(s:ag)(L:EL),n-i=m->i<=n->L.length<=i->St i s.heap->Fb w s.heap S L->Fg prog w ky i L->
   (∀h' tk L',(∀b o,b∉S::wr->s.heap.get? b=some o->h'.get? b=some o)->Fb w h' S L'->Fg prog w ky n L'->R (.ok (.ret .none)) {s with heap:=h',toks:=tk})->
   codeAny (model prog w) A (.builtin "set.update.loop" ⟨[.ref S,.ref I],[]⟩) R s:=by
 have hSw:S∉wr:=λh=>hSf (W.sub _ h);intro m
 induction m with
 |zero=>
  intro i s L hk hi hl Fj hT Ex hR;have Dm:i=n:=by lia
  subst Dm;refine jf F.entry_set_update_loop ?_;rw[gk F.plain_set_update_loop _];show wpAny _ A.in1 (pyNext (.ref I) >>=_) _ _ s;refine ae (W.done s _ _ Fj λh' tk hm=>?_);exact aj (hR h' tk L (λb o hb e=>hm b o (λz=>hb (ax _ z)) e) (hT.keep λo e=>hm S o hSw e) Ex)
 |succ m ih=>
  intro i s L hk hi hl Fj hT Ex hR;have hlt:i<n:=by lia
  refine jf F.entry_set_update_loop ?_;rw[gk F.plain_set_update_loop _];show wpAny _ A.in1 (pyNext (.ref I) >>=_) _ _ s;refine ae (W.item i s _ _ hlt Fj λv h' tk hP hst' hm=>?_);obtain⟨tg,rfl⟩:=hval i v hP;show wpAny _ A.in1 (holding [nr (ky i) tg] (setAdd S (.int (ky i) tg)) >>=_) _ _ _;refine ae (ff ?_);unfold setAdd;refine ff ?_;refine ae ((intKind prog w).pyHash (s:={s with heap:=h',toks:=tk}) (k:=ky i) (Ba _ _ _ _) ?_);refine z0l (s:={s with heap:=h',toks:=tk+1}) (hT.keep λo e=>hm S o hSw e) Ex.el (λ_=>by lia) λh2 L2 r sb hT2 q1 q2=>?_;have hl2:L2.length<=i+1:=by
   by_cases Dm:ky i∈hG L
   ·rw[(q1 Dm).length_eq];lia
   ·rw[(q2 Dm).length_eq,cm];lia
  refine aj ⟨Bp F.plain_set_update_loop _,ih (i+1) _ L2 (by lia) hlt hl2 (W.frame _ _ _ hst' λb hb o e=>?_) hT2 (Ex.step q1 q2) λh3 tk3 L3 k3 hT3 hup3=>?_⟩
  ·rw[sb.2 b (λz:b=S=>hSf (by rw[<-z];exact hb))];exact e
  ·refine hR h3 tk3 L3 (λb o hb e=>k3 b o hb ?_) hT3 hup3;exact(sb.2 b λz=>hb (by rw[z];exact bh)).trans (hm b o (λz=>hb (ax _ z)) e)
end
theorem z0n{w:cb}{h:cq}{a:ai}(e:h.get? a=some (bare w)):Fb w h a []:=⟨bare w,#[],0,_,⟨e,⟨rfl,rfl,rfl⟩,rfl,rfl,⟨rfl,.nil,rfl,(λj hj=>nomatch hj),gg _,.inl rfl,(λi h j e=>nomatch e),rfl⟩,rfl⟩,rfl,(by show 0*5<7*3;decide)⟩
end SR
namespace L2.Mr
open SR
def iI(a b:Int):Bool:=decide (a<b)
theorem mQ:F' iI:=by refine⟨λx=>?_,λx y z h1 h2=>?_,λx y h1 h2=>?_⟩<;>simp[iI]at*<;>lia
section
variable{X:Cx}{G:Cfg}{E:XK}{k:Nat}{e:bp}{aX:M Bt}{p p2 pos Ds:Pos}
def N1(prog:bj)(w:cb)(l:ai)(o:Obj)(ns:y'):Prop:=∃es ep t L,(∀h:cq,h.get? l=some o->Cq w h l (L.map bw) o es ep t)/\es.toList=L/\ElemsOf (intKind prog w) L/\(hG L).Perm (dE iI ns)
abbrev BM(X:Cx):Ic->Hp->VK->Prop:=λxs H Q=>∃(p:ai)(ns:y'),xs=[.ref p]/\H p=some (.lst (ns.map Hi))/\ns.length<64/\∀l o,H l=none->N1 X.prog X.w l o ns->Q (.ref l) (aV H l (.frz o (.own 0)))
theorem z0o(rm:Cv k X.A):Cf X (.type "set") (BM X):=by
 intro pins s σ H xs us Q I rv ⟨p,ns,e,hp,h64,q⟩;subst e;obtain⟨u,rfl,ru⟩:=iW rv;cases ru;obtain⟨its,rits,pl,hz⟩:=I.list (Hr hp);have lp:=I.hok.lt hp;have hn:its.toArray.size=ns.length:=by have:=rits.length;simp at this⊢;lia
 have hI:s.heap.IsList p its.toArray:=pl.isList;have hne:p≠s.heap.objs.size+1:=ay (ji lp);have hb:(s.heap.push (bare X.w)).IsList p its.toArray:=hI.push _;have hs1:(s.heap.push (bare X.w)).objs.size=s.heap.objs.size+1:=ya _ _;have W:=vz (prog:=X.prog) (w:=X.w) (A:=X.A.in1.in1.in1) (show X.A.in1.in1.in1.handled=none from rm.hd) (s.heap.objs.size+1) p hne its.toArray;rw[hn]at W;refine NH (T:="list") (it:={cls:=.type "list_iterator",data:=.fields #[.ref p,.int 0 0]}) (N:=λs'=>∃h' tk L,s'={s with heap:=h',toks:=tk}/\Fb X.w h' s.heap.objs.size L/\Fg X.prog X.w (λi=>ns.getD i 0) ns.length L/\∀b o,s.heap.get? b=some o->h'.get? b=some o) hI.typeIs sub_list.1 sub_list.2 (by decide) (λB Q' E' hQ=>?_) (λR Fz up hR=>?_) ?_
 ·refine nu hb ?_;rw[<-hs1]at hQ;exact hQ
 ·refine z0m W s.heap.objs.size (λm=>?_) (λi=>ns.getD i 0) (λi v hv=>LL rits hv) (by lia) ns.length 0 _ [] rfl (gg _) (gg _) ⟨⟨{cls:=.type "list_iterator",data:=.fields #[.ref p,.int 0 0]},?_,rfl,rfl⟩,hb.push _⟩ (z0n Fz)
   ⟨(λe he=>nomatch he),.nil,λk=>⟨λh=>(nomatch h),λ⟨j,hj,_⟩=>absurd hj (yo j)⟩⟩ λh' tk L keep S u=>hR _ ⟨h',tk,L,rfl,S,u,λb o e=>?_⟩
  ·rcases bc.mp m with z|m
   ·exact qj _ z.symm
   ·exact jh lp (cg.mp m)
  ·rw[<-hs1];exact aw _ rfl
  ·have hlt:=au e;refine keep b o (λm=>?_) (up b o e)
   rcases bc.mp m with z|m
   ·exact ay hlt z
   ·exact ay (ji hlt) (cg.mp m)
 ·rintro s' ⟨h',tk,L,rfl,⟨o,es,ep,t,P,Eu,_⟩,u,kk⟩
  refine⟨.ref s.heap.objs.size,_,I.laid (t':=tk) (o:=.frz o (.own 0)) kk (ao _) ⟨P.obj,o,P.obj⟩,rfl,q _ o (I.hok.fresh (ao _)) ⟨es,ep,t,L,λh e=>P.at' e,Eu,u.el,?_⟩⟩;refine(ik u.nd (oP mQ (qD mQ ns))).mpr λz=>?_;rw[mP mQ,u.mem];constructor
  ·rintro ⟨j,hj,rfl⟩
   show ns.getD j 0∈ns;simp[hj]
  ·intro hz;obtain⟨j,hj,rfl⟩:=ie hz;exact⟨j,hj,by simp[hj]⟩
theorem z0p{L:EL}{prog:bj}{w:cb}(h:ElemsOf (intKind prog w) L):mn (L.map (·.2)) (hG L):=by
 induction L with
 |nil=>exact .nil
 |cons e L ih=>obtain⟨k,hk,_⟩:=(h e (bh ..)).1;obtain⟨t,q⟩:=kn hk;have ih:=ih λx hx=>h x (ax _ hx);unfold hG at ih⊢;rw[cy,cy,q];exact .cons _ _ ih
theorem z0q(rm:Cv k X.A):Cf X (.builtin "sorted") (λxs H Q=>∃(l:ai)(o:Obj)(ns:y'),xs=[.ref l]/\H l=some (.frz o (.own 0))/\N1 X.prog X.w l o ns/\ns.length<64/\∀D,H D=none->Q (.ref D) (aV H D (.lst ((dE iI ns).map Hi)))):=by
 intro pins s σ H xs us Q I rv ⟨l,o,ns,e,hl,⟨es,ep,t,L,hP,Eu,Ff,hk⟩,h64,q⟩;subst e;obtain⟨u,rfl,ru⟩:=iW rv;cases ru;have P:=hP s.heap (I.hok l _ hl).1;have pe:(iH X.w l ep es).toList.Perm L:=by rw[<-Eu];exact DZ _ _ _ _
 have hlen:L.length<64:=by
  have:=hk.length_eq;have:=yE (lt:=iI) ns;unfold hG at *;rw[bf]at *
  lia
 generalize hLo:(iH X.w l ep es).toList=Lo at pe;have hlo:Lo.length<64:=by rw[pe.length_eq];exact hlen
 have hI:=z0p (Ff.perm pe);refine oh zw yu yv (yw _) ?_;unfold my.«sorted»;refine ae (m:=checkCount "sorted" 1 1 _) (aj (ae (ND (show X.A.in1.handled=none from rm.hd) P (by rw[P.size,bf,gv];lia) λh1 tk k1 sz=>?_)));rw[hLo];refine ae (nq ?_ (by rw[bf,gv];lia));have g:(h1.push (seqObj "list" (Lo.map (·.2)).toArray 0)).get? h1.objs.size=some (seqObj "list" (Lo.map (·.2)).toArray 0):=aw _ rfl;have k2:nI s.heap (h1.push (seqObj "list" (Lo.map (·.2)).toArray 0)):=λb o e=>ak _ (k1 b o e);refine ae (ff (fe wm ⟨_,g,rfl⟩ vh (Bd (s:={s with heap:=h1.push (seqObj "list" (Lo.map (·.2)).toArray 0),toks:=tk}) g hI (by rw[bf];exact hlo) λout Ek a1 a2 a3=>⟨_,rfl,aj ⟨_,rfl,?_⟩⟩) (wq _)));obtain⟨ep',he⟩:=ET (out:=out) g;have pk:Ek.Perm (dE iI ns):=a2.trans (((pe.map λe:Int×af=>kI e.2)).trans hk);have nd:Ek.Nodup:=pk.nodup_iff.mpr (oP mQ (qD mQ ns));have hu:Ek=dE iI ns:=ME mQ ((a3.and nd).imp λ{a b}⟨x,y⟩=>by simp only[iI,decide_eq_true_eq];lia) λz=>by rw[pk.mem_iff,mP mQ]
 subst hu;refine⟨.ref h1.objs.size,_,I.laid (t':=tk) (λb o e=>EU (ay (av (au e) sz)) (k2 b o e)) sz (show Ce X.prog X.w _ _ _ (.lst ((dE iI ns).map Hi)) from⟨?_,out.toList,ep',pG a1,?_⟩),rfl,q _ (I.hok.fresh sz)⟩
 ·have:=yE (lt:=iI) ns;rw[bf,gv];lia
 ·rw[he]
def qI(x:Dv)(h:Hs):Rs Dv:=match x with
 |.ref i=>match getL h i with
  |some xs=>match cD hW xs with
   |some ns=>if ns.length<64 then .ok (.ref h.length) (h++[.lst ((dE iI ns).map Hc)])else .bad
   |none=>.bad
  |none=>.bad
 |_=>.bad
theorem z0r(g:Good X G E k)(hg:Gl X "sorted")(hm:X.mg "sorted"=none)(hg2:Gl X "set")(hm2:X.mg "set"=none)(ha:eO X G E [e] aX)(he:aq [e] X.env=[(false,eval e X.env)]:=by rfl)(Ew:aq [Expr.Call (.Name "set" p2) [e] [] Ds] X.env=[(false,eval (.Call (.Name "set" p2) [e] [] Ds) X.env)]:=by rfl):
  aK X G E (.Call (.Name "sorted" p) [.Call (.Name "set" p2) [e] [] Ds] [] pos) (aH (f1 qI) aX):=λhK=>
 Hj (qZ (z0q g.room) hg hm xZ (iJ (rA (z0o g.room) hg2 hm2 NO (ha hK) (by decide) (by decide) he rfl) jU Ew) (by decide) (by decide) Ew rfl) λσ H Q⟨μ,ρ,h,rs,s,o⟩=>by
  refine kZ rs s o λμ1 ds h1 vs H1 x1 Cr s1 r1 o1=>?_;unfold f1 at o1
  split at o1
  ·rename_i d;obtain⟨v,rfl,rv⟩:=rM r1
   cases d with
   |ref i=>
    dsimp only[qI]at o1
    cases q1:getL h1 i with
    |none=>rw[q1]at o1;exact o1.elim
    |some xs=>
     rw[q1]at o1;dsimp only at o1
     cases q:cD hW xs with
     |none=>rw[q]at o1;exact o1.elim
     |some ns=>
      rw[q]at o1;dsimp only at o1
      split at o1
      ·rename_i h0;obtain⟨vs,e1,r2⟩:=s1.ob i _ (fG q1);obtain⟨_,rfl⟩:=rv;refine⟨_,ns,rfl,by rw[e1,pZ r2 q],h0,λl o hl so=>⟨l,o,ns,rfl,dR,so,h0,λD hD=>?_⟩⟩;have sm:=dD (o:=.frz o (.own 0)) hl;exact lZ (E:=E) (s1.same sm) (oA _) hD (λμ' H' v x'=>o1 μ' H' v ((Hg sm).trans x'))
      ·exact o1.elim
   |_=>exact o1.elim
  ·exact o1.elim
end
end L2.Mr
namespace L2.Mr.K74
open L2.Mr.Cod
open L2.Mr.Com
def vB:MS:=(aL (dN (aH jJ (aN (aD 0)))) (bF (cQ (bN (aH kS (aJ (m2 aQ (aD 0) (aG 0)) (aD 1))))) NY bP))
def qJ:Bs:=bM 2 2 (vB)
def vD:MS:=(aL (dN (aH qJ (aJ (aD 0) (aD 1)))) (aT (dF (cR (cC fI (m2 aQ (aD 0) (aG 1))) [none,none,some 1] (gI 2 (dH (aI 0) (dH (aI 1) gJ))) (mB (m2 cP (aD 1) (aD 2))) (cG (aD 0))))))
def nM:Bs:=bM 2 2 (vD)
def EW:MS:=(aT (dM (m2 (dX false) (aO (aJ (aD 1) (aD 3))) (m2 aQ (aD 0) (aG 1))) (dM (aH lQ (eZ (aD 0) (aD 1) (aD 2))) (aH lQ (eZ (aD 0) (aD 2) (aD 3))))))
def nO:Bs:=bM 4 4 (EW)
def vE:MS:=(aL (aR (dF (cR (aX cJ (aN (m2 aQ (aD 0) (aG 0)))) [none,some 0] (aI 0) dP (cG (aH (f1 cU) (aN (aH nM (aJ (aD 1) (aD 0)))))))) (aI 1)) (aT (dF (cR (cC eM (aH (f1 qI) (aN (aD 1)))) [none,some 0,some 1] (aI 0) dP (cG (mL CY (cR (aX cJ (aN (m2 aQ (aD 1) (aG 0)))) [none,some 0,some 2] (aI 0) (mB (m2 cP (m2 aQ (aD 2) (aD 0)) (aD 1))) (cG (aD 0)))))))))
def qK:Bs:=bM 1 2 (vE)
def mb_qe:MS:=(aL (dN (aH jJ (aN (aD 0)))) (aL (aR (aH (f1 kB) (aN (m2 aQ (aD 0) (aG 0)))) (aI 1)) (aL (aR (dF (cR (cC eM (aD 1)) [none,none,none,some 0,some 1] (aI 0) dP (gQ (cC eM (aD 4)) (aI 1) dP (gQ (cC eM (aD 4)) (aI 2) (bN (aH nO (gW (aD 3) (aD 0) (aD 1) (aD 2)))) (cG (aO (eZ (aD 0) (aD 1) (aD 2)))))))) (aI 2)) (aL (bF (bN (aD 2)) (aT (aO (aJ (mC (.str "bar")) (m2 aQ (aD 2) (aG 0))))) bP) (aT (aO (aJ (mC (.str "levels")) (aH qK (aN (aD 0))))))))))
def gO:Bs:=bM 1 3 (mb_qe)
def sQ:MS:=(aL (aR (aZ aU) (aI 1)) (aL (dC (aX cJ (aN (m2 cV (aG 1) (aH cZ (aJ (aD 0) (aG 6)))))) (aI 2) (dN (gC (aD 1) (m2 cV (aG 1) (m2 aQ (aZ (gW (aG 0) (aG 0) (aH cZ (aJ (aD 0) (aG 3))) (aH cZ (aJ (aD 0) (aG 6))))) (aH cZ (aJ (aD 0) (aG 4)))))))) (aL (aR (aG 6) (aI 3)) (aL (aR (aZ aU) (aI 4)) (aL (dC (cC eM (aD 1)) (aI 5) (bF (fV (mB (m2 kM (aD 5) (aD 3))) (mB (m2 cP (aD 4) (aZ aU)))) (aL (dN (gC (aD 4) (aD 5))) (aR (m2 jH (aD 3) (aD 5)) (aI 3))) bP)) (aT (m2 aQ (aZ (gW (aD 4) (aD 4) (aD 4) (aD 1))) (aH cZ (aJ (aD 0) (aG 4))))))))))
def jK:Bs:=bM 1 6 (sQ)
end L2.Mr.K74
namespace L2.Mr
open SR
abbrev KI(kvs:wo)(vs:List (eK×af)):Prop:=KV (pH kvs) vs
theorem KI.get{k:Int}:∀{kvs:wo}{vs:List (eK×af)},KI kvs vs->match kvs.lookup k with
  |some v=>∃w',valueAt vs (.inl k:eK)=some w'/\RelV (.int v) w'
  |none=>valueAt vs (.inl k:eK)=none
 |[],_,r=>by cases r;rfl
 |(j,v)::kvs,_,r=>by
  cases r with
  | @cons p q _ qs h t=>
   have ih:=KI.get (k:=k) (kvs:=kvs) t;have e:q.1=(.inl j:eK):=h.1.symm;rw[gi]
   by_cases z:k=j
   ·subst z;rw[beq_self_eq_true];exact⟨q.2,by simp[valueAt,List.find?_cons,e],h.2⟩
   ·have b:valueAt (q::qs) (.inl k:eK)=valueAt qs (.inl k:eK):=by have z':¬q.1=(.inl k:eK):=λw=>z (Sum.inl.inj (w.symm.trans e));simp[valueAt,List.find?_cons,z']
    rw[show(k==j)=false by simpa using z,b];exact ih
theorem Ec{k:Int}:∀{kvs:wo},kvs.lookup k=none↔k∉kvs.map bw
 |[]=>by simp
 |(j,v)::kvs=>by
  rw[gi]
  by_cases z:k=j
  ·subst z;simp
  ·rw[show(k==j)=false by simpa using z];simp[Ec (kvs:=kvs),z]
theorem KI.isSome{k:Int}{kvs:wo}{vs:List (eK×af)}(r:KI kvs vs):(valueAt vs (.inl k:eK)).isSome=decide (k∈kvs.map bw):=by
 have h:=r.get (k:=k)
 cases q:kvs.lookup k with
 |none=>rw[q]at h;rw[h,decide_eq_false (Ec.mp q)];rfl
 |some v=>
  rw[q]at h;obtain⟨w',e,_⟩:=h;rw[e,decide_eq_true (by
   by_cases z:k∈kvs.map bw
   ·exact z
   ·rw[Ec.mpr z]at q;cases q)]
  rfl
theorem KI.snoc{k v:Int}{u:af}(hu:RelV (.int v) u):∀{kvs:wo}{vs:List (eK×af)},KI kvs vs->KI (kvs++[(k,v)]) (vs++[(.inl k,u)])
 |[],_,r=>by cases r;exact .cons ⟨rfl,hu⟩ .nil
 |j::kvs,_,r=>by
  cases r with
  |cons h t=>exact .cons h (KI.snoc hu (kvs:=kvs) t)
theorem KI.len:∀{kvs:wo}{vs:List (eK×af)},KI kvs vs->vs.length=kvs.length
 |[],_,r=>by cases r;rfl
 |j::kvs,_,r=>by
  cases r with
  |cons h t=>rw[cm,cm,KI.len (kvs:=kvs) t]
theorem z0s(kvs:wo)(p:Int×Int):dO (.inr (kvs++[p]))=.dK (pH (kvs++[p])):=by cases kvs<;>rfl
section
variable{X:Cx}{G:Cfg}{pins:List (ai×Obj)}{σ:St}{H:Hp}{s:ag}{a:ai}{kvs:wo}
theorem zD(I:Inv X pins σ H s)(e:H a=some (dO (.inr kvs))):kvs.length<=cp/\(a==sysModules)=false/\∃vs,KI kvs vs/\s.heap.DictOf (qV X.prog X.w) a vs:=by
 cases kvs with
 |nil=>
  obtain⟨z,y,xs,r,o,es,ep,h1,h2,h3,h4,h5⟩:=(show Ce X.prog X.w H s.heap a (.dT []) from I.hok a _ e)
  cases r;have e0:es=#[]:=by apply Array.toList_inj.mp;rw[h4];rfl
  subst e0;exact⟨gg _,y,[],.nil,o,#[],ep,h1,h2,h3,(λe he=>by simp at he),.nil,.nil⟩
 |cons p kvs=>
  obtain⟨z,y,vs,r,d⟩:=(show Ce X.prog X.w H s.heap a (.dK (pH (p::kvs))) from I.hok a _ e)
  exact⟨by simpa[pH]using z,y,vs,r,d⟩
abbrev N2:R2:=λx y H Q=>∃a kvs k,y=.ref a/\x=.int k/\H a=some (dO (.inr kvs))/\Q (.bl (decide (k∈kvs.map bw))) H
theorem z0t:Cw X (compareOp .In) N2:=by intro pins s σ H x y v u Q I r1 r2 ⟨a,kvs,k,e1,e2,h1,q⟩;subst e1;subst e2;obtain⟨t,rfl⟩:=r1;cases r2;obtain⟨z,hd,vs,rel,dd⟩:=zD I h1;refine wpAny_in_of (A0 X.prog X.w k t) hd dd.mapOf ?_;rw[rel.isSome];exact⟨.bl (decide (k∈kvs.map bw)),H,I.tok _,rfl,q⟩
abbrev N3:R2:=λx y H Q=>∃a kvs k v,x=.ref a/\y=.int k/\H a=some (dO (.inr kvs))/\kvs.lookup k=some v/\Q (.int v) H
theorem z0u:IxR X N3:=by intro value slice pins s σ H x y v u Q I rx ry ⟨a,kvs,k,v',e1,e2,h1,l,q⟩ hs;subst e1;subst e2;cases rx;obtain⟨t,rfl⟩:=ry;obtain⟨z,hd,vs,rel,dd⟩:=zD I h1;have g:=rel.get (k:=k);rw[l]at g;obtain⟨w',ew,rw'⟩:=g;exact tail_any dd.mapOf.typeIs slot_dict_getitem.lookup (wpAny_getItem_of (A0 X.prog X.w k t) dd.mapOf ew ⟨.int v',H,I.tok _,rw',q⟩) hs
theorem z0v:A5 X (λo i v H Q=>∃a kvs k v',o=.ref a/\i=.int k/\v=.int v'/\H a=some (dO (.inr kvs))/\k∉kvs.map bw/\kvs.length<cp/\Q (aV H a (dO (.inr (kvs++[(k,v')]))))):=by
 intro pins s σ H o i v ov iv u Q I ro ri rv ⟨a,kvs,k,v',e1,e2,e3,h1,nk,hl,q⟩;subst e1;subst e2;subst e3;cases ro;obtain⟨t,rfl⟩:=ri;obtain⟨z,hd,vs,rel,dd⟩:=zD I h1;have st:stored vs (.inl k:eK) u=vs++[(.inl k,u)]:=by unfold stored;rw[if_neg];intro c;have h:=rel.isSome (k:=k);rw[decide_eq_false nk]at h;obtain⟨p,hp,he⟩:=nv.mp c;unfold valueAt at h;rw[Option.isSome_map,List.find?_isSome.mpr ⟨p,hp,he⟩]at h;cases h
 refine wpAny_setItem_pairs (hsz:=by rw[rel.len];exact z) (A0 X.prog X.w k t) dd λh' dd' hs=>?_;rw[st]at dd';refine⟨_,?_,q⟩;have he:∃q,h'.get? a=some q:=let ⟨q,_,_,hq,_⟩:=dd';⟨q,hq⟩;refine I.write (x:=a) (e:=a) ?_ (.inl rfl) (λb q hb z=>(hs.2 b hb).trans z) he ?_
 ·rw[h1];rcases rD (.inr kvs)with⟨_,e⟩|⟨_,e,_⟩<;>rw[e]<;>exact True.intro
 ·rw[z0s];exact⟨by simp[pH];lia,hd,_,rel.snoc rv,dd'⟩
theorem z0w{E:XK}{Q:VK}{pos:Pos}(I:Inv X pins σ H s)(q:∀p,H p=none->Q (.ref p) (aV H p (.dT []))):wpAny (model X.prog X.w) X.A (eval (.Dict [] [] pos) X.env) (EP X pins σ Q) X.xe s:=by have hb:sysModules<s.heap.objs.size:=Av (by decide) (I.mod.glob.keeps I.bk).lt;exact wpAny_Dict_empty ⟨.ref s.heap.objs.size,_,I.laid (a:=s.heap.objs.size) (o:=.dT []) (t':=s.toks) (λ_ _ q=>ak _ q) (ao _) ⟨gg _,beq_eq_false_iff_ne.mpr (dg (ay hb)),[],.nil,_,#[],0,aw _ rfl,⟨rfl,rfl,rfl⟩,rfl,rfl,List.nodup_nil⟩,rfl,q _ (I.hok.fresh (ao _))⟩
theorem N4{prog:bj}{w:cb}:∀{kvs:wo}{vs:List (eK×af)}{es:List zk},KI kvs vs->Pairs (qV prog w) es vs->mn (es.map (·.key)) (kvs.map bw)
 |[],_,_,r,p=>by cases r;cases p;exact .nil
 |(j,v)::kvs,_,_,r,p=>by
  cases r with
  | @cons p' q _ qs h t=>
   cases p with
   | @cons e kv es' kvs' hk hv tl=>
    have e1:q.1=(.inl j:eK):=h.1.symm;have Du:tJ q.1 e.key=true:=hk;rw[e1]at Du
    rcases lV Du with⟨i,t',x,y⟩|⟨i,t',x,y⟩
    ·cases x;rw[cy,cy,y];exact .cons _ _ (N4 t tl)
    ·cases x
theorem z0x{k:Nat}(rm:Cv k X.A):Cf X (.builtin "sorted") (λxs H Q=>∃(a:ai)(kvs:wo),xs=[.ref a]/\H a=some (dO (.inr kvs))/\kvs.length<64/\∀l,H l=none->Q (.ref l) (aV H l (.lst ((iF (kvs.map bw)).map Hi)))):=by
 intro pins s σ H xs us Q I rv ⟨a,kvs,e,ha,h64,q⟩;subst e;obtain⟨u,rfl,ru⟩:=iW rv;cases ru;obtain⟨z,hd,vs,rel,⟨o,es,ep,h1,h2,h3,h4,h5,h6⟩⟩:=zD I ha;have hI:=N4 rel h5;have Eu:es.toList.length=kvs.length:=by rw[h5.length,rel.len]
 have hl:(es.toList.map (·.key)).length=kvs.length:=by rw[bf];exact Eu
 refine oh zw yu yv (yw _) ?_;unfold my.«sorted»;refine ae (m:=checkCount "sorted" 1 1 _) (aj (ae (z0d (es:=es) (ep:=ep) (show X.A.in1.handled=none from rm.hd) hd ⟨o,h1,h2,h3⟩ (by rw[<-jx,Eu];exact z) λhp tk k1 sz=>?_)));refine ae (nq ?_ (by rw[hl];exact z));have g:(hp.push (seqObj "list" (es.toList.map (·.key)).toArray 0)).get? hp.objs.size=some (seqObj "list" (es.toList.map (·.key)).toArray 0):=aw _ rfl;have k2:nI s.heap (hp.push (seqObj "list" (es.toList.map (·.key)).toArray 0)):=λb o e=>ak _ (k1 b o e);refine ae (ff (fe wm ⟨_,g,rfl⟩ vh (Bd (s:={s with heap:=hp.push (seqObj "list" (es.toList.map (·.key)).toArray 0),toks:=tk}) g hI (by rw[hl];exact h64) λout Ek a1 a2 a3=>⟨_,rfl,aj ⟨_,rfl,?_⟩⟩) (wq _)));obtain⟨ep',he⟩:=ET (out:=out) g;have hu:=xY a2 a3;subst hu;refine⟨.ref hp.objs.size,_,I.laid (t':=tk) (λb o e=>EU (ay (av (au e) sz)) (k2 b o e)) sz (show Ce X.prog X.w _ _ _ (.lst ((iF (kvs.map bw)).map Hi)) from⟨?_,out.toList,ep',pG a1,?_⟩),rfl,q _ (I.hok.fresh sz)⟩
 ·rw[bf,LO,bf];exact z
 ·rw[he]
end
def fP(h:Hs)(i:Nat):Option wo:=match h[i]? with
 |some (.dct (.inr kvs))=>some kvs
 |_=>none
theorem oY{h:Hs}{i:Nat}{kvs:wo}(e:fP h i=some kvs):h[i]?=some (.dct (.inr kvs)):=by
 unfold fP at e
 split at e
 ·rename_i q;rw[q];cases e;rfl
 ·cases e
section
variable{X:Cx}{G:Cfg}{E:XK}{k:Nat}{e a b o i:bp}{mo me mi ma mb:M Dv}{aX:M Bt}{pos p:Pos}
def zE:M Dv:=λ_ h=>.ok (.ref h.length) (h++[.dct (.inr [])])
theorem z0y:aK X G E (.Dict [] [] pos) zE:=λ_ pins s σ H Q I⟨μ,ρ,h,rs,sm,o⟩=>z0w (E:=E) I λp hp=>by obtain⟨x,s'⟩:=sm.allocD hp (.inr []);exact o _ _ _ x s' ⟨by simp,by show Hz p=Hz (if h.length=h.length then p else μ h.length);rw[if_pos rfl]⟩
def oZ(x y:Dv)(h:Hs):Rs Dv:=match x,y with
 |.int k,.ref j=>match fP h j with
  |some kvs=>.ok (.bl (decide (k∈kvs.map bw))) h
  |none=>.bad
 |_,_=>.bad
theorem z0z:fY G N2 oZ:=by
 intro E μ h H x y vx vy Q s rx ry o;unfold oZ at o
 split at o
 ·rename_i k j
  cases q1:fP h j with
  |none=>rw[q1]at o;exact o.elim
  |some kvs=>rw[q1]at o;obtain⟨_,rfl⟩:=ry;exact⟨_,kvs,k,rfl,rx,s.ob j _ (oY q1),o.val s rfl⟩
 ·exact o.elim
theorem z10(ha:aK X G E a ma)(hb:aK X G E b mb)(hm:behindInMarks .In b=false:=by rfl):gE X G E (.Compare a [.In] [b] pos) (mB (m2 oZ ma mb)):=λhK=>lA z0t z0z ha hb hm hK
def lS(x y:Dv)(h:Hs):Rs Dv:=match x,y with
 |.ref j,.int k=>match fP h j with
  |some kvs=>match kvs.lookup k with
   |some v=>.ok (.int v) h
   |none=>.bad
  |none=>.bad
 |_,_=>.bad
theorem z11:fY G N3 lS:=by
 intro E μ h H x y vx vy Q s rx ry o;unfold lS at o
 split at o
 ·rename_i j k
  cases q1:fP h j with
  |none=>rw[q1]at o;exact o.elim
  |some kvs=>
   rw[q1]at o;dsimp only at o
   cases q2:kvs.lookup k with
   |none=>rw[q2]at o;exact o.elim
   |some v=>rw[q2]at o;obtain⟨_,rfl⟩:=rx;exact⟨_,kvs,k,v,rfl,ry,s.ob j _ (oY q1),q2,o.val s rfl⟩
 ·exact o.elim
theorem N5(ha:aK X G E a ma)(hb:aK X G E b mb)(hs:wO b:=by intro _ _;rfl):aK X G E (.Subscript a b pos) (m2 lS ma mb):=λhK=>Hj (BK z0u (ha hK) (hb hK) hs) λ_ _ _ t=>rG z11 t
def sR(o i d:Dv)(h:Hs):Option Hs:=match o,i,d with
 |.ref j,.int k,.int v=>match fP h j with
  |some kvs=>if k∉kvs.map bw/\kvs.length<1000000 then some (h.set j (.dct (.inr (kvs++[(k,v)]))))else none
  |none=>none
 |_,_,_=>none
def zF(mo mi me:M Dv):MS:=λρ h=>(me ρ h).thenS λd h1=>(mo ρ h1).thenS λo h2=>(mi ρ h2).thenS λi h3=>match sR o i d h3 with
 |some h4=>.nx ρ h4
 |none=>.bad
theorem z12{spos:Pos}(ho:aK X G E o mo)(hi:aK X G E i mi)(he:aK X G E e me)(ha:∀v,assign (.Subscript o i spos) X.env v=(do
   let ov <-holding [v] (eval o X.env)
   let iv <-holding [v,ov] (eval i X.env)
   standAt spos
   holding [v,ov,iv] (setItem ov iv v)
   release [v,ov,iv] []):=by intro _;rfl)(hs:swapsWithSole [.Subscript o i spos] e pos.line X.env=pure false:=by rfl)(hw:swappedStores [.Subscript o i spos] e X.env=pure none:=by rfl)(h1:(assignEach [.Subscript o i spos] X.env).map (·.2)=[assign (.Subscript o i spos) X.env]:=by rfl):iE X G E (.Assign [.Subscript o i spos] e pos) (zF mo mi me):=λhK=>
 PS.imp (A8 (he hK) (HJ (ho hK) (hi hK) z0v ha) hs hw h1) λD σ H⟨μ,ρ,h,rs,s,oo⟩=>kK rs s oo λμ1 d h1 v H1 x1 Cr s1 r1 o1=>kK Cr s1 o1 λμ2 ob h2 vo H2 x2 Em s2 r2 o2=>kK Em s2 o2 λμ3 ix h3 vi H3 x3 rs3 s3 r3 o3=>by
  cases q:sR ob ix d h3 with
  |none=>rw[q]at o3;exact o3.elim
  |some h4=>
   rw[q]at o3;unfold sR at q
   split at q
   ·rename_i j k v'
    cases q1:fP h3 j with
    |none=>rw[q1]at q;cases q
    |some kvs=>
     rw[q1]at q;dsimp only at q
     split at q
     ·rename_i hl;cases q;obtain⟨_,rfl⟩:=Hq x3 _ _ r2;obtain⟨x4,s4⟩:=s3.writeD (oY q1) (.inr (kvs++[(k,v')]));exact⟨_,kvs,k,v',rfl,r3,Hq (x2.trans x3) _ _ r1,s3.ob j _ (oY q1),hl.1,by rw[gv];lia,o3 μ3 _ σ x4 s4 (rs3.mono x4)⟩
     ·cases q
   ·cases q
def pA(x:Dv)(h:Hs):Rs Dv:=match x with
 |.ref j=>match fP h j with
  |some kvs=>if kvs.length<64 then .ok (.ref h.length) (h++[.lst ((iF (kvs.map bw)).map Hc)])else .bad
  |none=>.bad
 |_=>.bad
theorem z13:lB G (λx H Q=>∃(a:ai)(kvs:wo),x=.ref a/\H a=some (dO (.inr kvs))/\kvs.length<64/\∀l,H l=none->Q (.ref l) (aV H l (.lst ((iF (kvs.map bw)).map Hi)))) pA:=by
 intro E μ h H x vx Q s r o
 cases x with
 |ref j=>
  dsimp only[pA]at o
  cases q2:fP h j with
  |none=>rw[q2]at o;exact o.elim
  |some kvs=>
   rw[q2]at o;dsimp only at o
   split at o
   ·rename_i h0;obtain⟨_,rfl⟩:=r;exact⟨_,kvs,rfl,s.ob j _ (oY q2),h0,λl hl=>lZ s (oA _) hl o⟩
   ·exact o.elim
 |_=>exact o.elim
theorem z14(g:Good X G E k)(hg:Gl X "sorted")(hm:X.mg "sorted"=none)(ha:eO X G E [e] aX)(he:aq [e] X.env=[(false,eval e X.env)]:=by rfl):aK X G E (.Call (.Name "sorted" p) [e] [] pos) (aH (f1 pA) aX):=
 pO (Cf.imp (z0x g.room) λxs H Q⟨v,h1,a,kvs,h2,h3⟩=>⟨a,kvs,by rw[h1,h2],h3⟩) (pP z13) hg hm xZ ha (by decide) (by decide) he rfl
end
end L2.Mr
namespace L2.Mr.K72
open L2.Mr.Cod
open L2.Mr.Com
open L2.Mr.K74 (qJ vB nM vD nO EW qK vE gO mb_qe jK sQ)
open L2.Mr.K60 (oX uZ)
def tblV:List (Nat×Bool):=[(0,true)]
def tbl0:List (Nat×Bool):=[(0,true)]
def tbl1:List (Nat×Bool):=[(0,false)]
def tbl2:List (Nat×Bool):=[(0,false)]
def tbl3:List (Nat×Bool):=[(0,false)]
def tbl4:List (Nat×Bool):=[(0,false)]
def tbl5:List (Nat×Bool):=[(0,false)]
def tbl6:List (Nat×Bool):=[(0,false)]
def tbl7:List (Nat×Bool):=[(0,false)]
def tbl8:List (Nat×Bool):=[(0,false)]
def tbl9:List (Nat×Bool):=[(0,false)]
def tbl10:List (Nat×Bool):=[(0,false)]
def tbl11:List (Nat×Bool):=[(0,false)]
def tbl12:List (Nat×Bool):=[(0,false)]
def tbl13:List (Nat×Bool):=[(0,false)]
def zG:MS:=(aL (aR (aZ aU) (aI 1)) (aL (dC (aX cJ (aN (aH (f1 cU) (aN (aD 0))))) (aI 2) (aR (m2 cV (aD 1) (m2 rZ (aZ (aN (aD 2))) (m2 aQ (aD 0) (aD 2)))) (aI 1))) (aT (aD 1))))
def sT:Bs:=bM 1 3 (zG)
def EX:MS:=(aL (aR (aH sT (aN (aD 0))) (aI 2)) (aL (aR (aZ aU) (aI 3)) (aL (dC (aX cJ (aN (aH (f1 cU) (aN (aD 2))))) (aI 4) (dC (aX cJ (aN (aH (f1 cU) (aN (aD 2))))) (aI 5) (bF (fV (dW (bN (aD 1)) (dW (mB (m2 fO (aD 4) (aD 5))) (mB (m2 cP (m2 aQ (aD 2) (aD 4)) (m2 aQ (aD 2) (aD 5)))))) (dW (cQ (bN (aD 1))) (mB (m2 fO (m2 aQ (aD 2) (aD 4)) (m2 aQ (aD 2) (aD 5)))))) (dN (gC (aD 3) (aO (aJ (aD 4) (aD 5))))) bP))) (aT (aO (aJ (aH (f1 cU) (aN (aD 2))) (aH (f1 jX) (aN (aD 3)))))))))
def qL:Bs:=bM 2 6 (EX)
def lT:MS:=(aL (aR (aZ (eZ (m1 (bO (eR none tbl0)) (aD 1)) (m1 (bO (eR none tbl1)) (aD 1)) (m1 (bO (eR none tbl2)) (aD 1)))) (aI 3)) (aL (aR (m2 cV (aD 3) (aZ (eZ (m1 (bO (eR none tbl3)) (aD 1)) (m1 (bO (eR none tbl4)) (aD 1)) (m1 (bO (eR none tbl5)) (aD 1))))) (aI 3)) (aL (aR (m2 cV (aD 3) (aZ (eZ (m1 (bO (eR none tbl6)) (aD 1)) (m1 (bO (eR none tbl7)) (aD 1)) (m1 (bO (eR none tbl8)) (aD 1))))) (aI 3)) (aL (aR (m2 cV (aD 3) (aZ (eZ (m1 (bO (eR none tbl9)) (aD 1)) (m1 (bO (eR none tbl10)) (aD 1)) (m1 (bO (eR none tbl11)) (aD 1))))) (aI 3)) (aL (aR (m2 cV (aD 3) (aZ (aJ (m1 (bO (eR none tbl12)) (aD 1)) (m1 (bO (eR none tbl13)) (aD 1))))) (aI 3)) (aL (bF (cQ (bN (m1 (bO (eR none tblV)) (aD 1)))) (aT (mC .non)) bP) (aT (dF (cR (aX cJ (aN (aG 14))) [none,some 3] (aI 0) (bN (m2 aQ (aD 1) (aD 0))) (cG (aD 0)))))))))))
def EY:MS:=(aL (aR (aH oV (aJ (aD 0) (m2 aQ (aD 1) (aG 0)))) (aI 2)) (aL (aR (dF (cR (cC fI (m2 aQ (aD 1) (aG 1))) [none,none,some 2] (gI 2 (dH (aI 0) (dH (aI 1) gJ))) dP (cG (aO (aJ (m2 aQ (aD 2) (aD 0)) (m2 aQ (aD 2) (aD 1))))))) (aI 3)) (aL (bF (dW (mB (m2 bZ (aD 3) (aZ aU))) (mB (m2 cP (aH cZ (aJ (aD 0) (aG 3))) (aG 0)))) (dN (oK (aD 3) (aH cZ (aJ (aD 0) (aH (f1 cU) (aN (aD 3))))))) bP) (aT (aO (aJ (m2 aQ (aD 1) (aG 0)) (aH nJ (aJ (m2 aQ (aD 1) (aG 0)) (aD 3)))))))))
def sU:Bs:=bM 2 4 (EY)
def N6:MS:=(aL (dC (aX cJ (aN (m2 aQ (aD 0) (aG 0)))) (aI 1) (dC (aX cJ (aN (m2 aQ (aD 0) (aG 0)))) (aI 2) (dC (aX cJ (aN (m2 aQ (aD 0) (aG 0)))) (aI 3) (aL (aR (aZ (gW (aO (aJ (aD 1) (aD 2))) (aO (aJ (aD 2) (aD 1))) (aO (aJ (aD 2) (aD 3))) (aO (aJ (aD 3) (aD 2))))) (aI 4)) (aL (aR (m2 cP (dF (cR (cC eM (aD 4)) [none,some 0] (aI 0) (mB (m2 (dX false) (aD 0) (m2 aQ (aD 1) (aG 1)))) (cG (aD 0)))) (aZ aU)) (aI 5)) (bF (dW (mB (m2 (dX false) (aO (aJ (aD 1) (aD 3))) (m2 aQ (aD 0) (aG 1)))) (dW (bN (aD 5)) (mB (m2 (dX true) (aD 2) (aO (aJ (aD 1) (aD 3))))))) (aT (aO (eZ (aD 1) (aD 2) (aD 3)))) bP)))))) (aT (mC .non)))
def qM:Bs:=bM 1 6 (N6)
def EZ:MS:=(aL (bF (cQ (bN (m1 (bO mM) (aD 1)))) (aT (mC (.bl false))) bP) (aL (bF (cQ (bN (mL hV (cR (cC eM (aD 1)) [none] (aI 0) dP (cG (dM (m1 (bO gR) (aD 0)) (m2 bZ (aD 0) (aO aU)))))))) (aT (mC (.bl false))) bP) (aL (aR zE (aI 2)) (aL (dC (aX cJ (aN (aH (f1 cU) (aN (aD 1))))) (aI 3) (aL (bF (cQ (bN (mL hV (cR (cC fI (m2 aQ (aD 1) (aD 3))) [none] (aI 0) dP (cG (aH oX (aN (aD 0)))))))) (aT (mC (.bl false))) bP) (aL (bF (mB (m2 bZ (aH (f1 lK) (aN (m2 aQ (aD 1) (aD 3)))) (aH (f1 nL) (aN (m2 aQ (aD 1) (aD 3)))))) (aT (mC (.bl false))) bP) (dC (cC fI (m2 aQ (aD 1) (aD 3))) (aI 4) (aL (bF (mB (m2 oZ (aD 4) (aD 2))) (aT (mC (.bl false))) bP) (zF (aD 2) (aD 4) (aD 3))))))) (aL (bF (mB (m2 bZ (aH (f1 pA) (aN (aD 2))) (aH (f1 kB) (aN (m2 aQ (aD 0) (aG 0)))))) (aT (mC (.bl false))) bP) (aL (dC (aX cJ (aN (m2 aQ (aD 0) (aG 0)))) (aI 5) (bF (mB (m2 bZ (dF (cR (aX cJ (aN (m2 aQ (aD 0) (aG 0)))) [none,some 5,some 0,some 2] (aI 0) (mB (m2 bZ (m2 (dX false) (aO (aJ (aD 1) (aD 0))) (m2 aQ (aD 2) (aG 1))) (m2 fO (m2 lS (aD 3) (aD 1)) (m2 lS (aD 3) (aD 0))))) (cG (aD 0)))) (aZ aU))) (aT (mC (.bl false))) bP)) (aT (mC (.bl true)))))))))
def vF:Bs:=bM 2 6 (EZ)
def vG:M Dv:=(aH gO (aN (aD 0)))
def zH(scr:y'):MS:=(aL (aR (aH (qG scr) (aJ (aD 0) (aD 1))) (aI 2)) (aL (aR (aH jK (aN (aD 2))) (aI 3)) (aL (bF (mB (m2 xU (aH (f1 nB) (aN (aD 3))) (aG 6))) (aR (aZ (aN (m2 cV (aG 1) (aH cZ (aJ (aD 2) (aG 6)))))) (aI 3)) bP) (aL (dC (cC eM (aZ (aJ (aH sP (aJ (aD 2) (aG 6))) (aH sU (aJ (aD 2) (aH qL (aJ (aD 3) (mC (.bl false))))))))) (aI 4) (aL (aR (aH qM (aN (aD 4))) (aI 5)) (dC (aX cJ (aN (aG 2))) (aI 6) (aL (aR (aH gO (aN (aD 4))) (aI 7)) (aL (bF (fV (cQ (bN (m1 (bO gR) (aD 7)))) (mB (m2 bZ (aH (f1 cU) (aN (aD 7))) (aG 2)))) (aT (mC (.bl false))) bP) (aL (bF (dW (mB (m2 (iP true) (aD 5) (mC .non))) (cQ (bN (aH (eX 6) (aJ (aD 7) (aO (aJ (mC (.str "bar")) (aD 5)))))))) (aT (mC (.bl false))) bP) (aL (bF (dW (mB (m2 (iP false) (aD 5) (mC .non))) (cQ (bN (aH (eX 6) (aJ (m2 aQ (aD 7) (aG 0)) (mC (.str "levels"))))))) (aT (mC (.bl false))) bP) (aL (bF (dW (mB (m2 (iP false) (aD 5) (mC .non))) (cQ (bN (aH vF (aJ (aD 4) (m2 aQ (aD 7) (aG 1))))))) (aT (mC (.bl false))) bP) (bF (mB (m2 (iP false) (aD 5) (mC .non))) (dN (gC (m2 aQ (aD 7) (aG 1)) (aG 0))) bP))))))))) (aL (aR (aH uY (aN (aD 2))) (aI 8)) (bF (mB (m2 bZ (oJ [8] 4 14 lT vG) (aZ (aN (aG 0))))) (aT (mC (.bl false))) bP))))))
def N7(scr:y'):MS:=(dC (aX cJ (aN (aH mZ (aJ (aG 1) (aH rN (aJ (aH (f1 (gX scr)) (aN (aD 0))) (aG 10))))))) (aI 1) (zH scr))
def ml1:MS:=(aT (mC (.bl true)))
def zI(scr:y'):MS:=(aL (N7 scr) (ml1))
def zJ(scr:y'):Bs:=bM 1 9 (zI scr)
end L2.Mr.K72
namespace L2.Mr
section
variable{X:Cx}{G:Cfg}{E:XK}{e:bp}{me:M Dv}{pos pos':Pos}{i:Nat}{x:Str}
theorem cT(hN:X.N.Nodup)(hi:X.N[i]?=some x:=by rfl)(hx:lW X.env.scope x:=by first|exact .inl rfl|exact .inr rfl)(hf:X.fn x=true∨X.env.scope.names.lookup x=some .local:=by first|exact .inl rfl|exact .inr rfl|assumption):jB X G (.Name x pos) (aI i):=WL hN hi hx hf
theorem dG(hN:X.N.Nodup)(he:aK X G E e me)(hi:X.N[i]?=some x:=by rfl)(hx:lW X.env.scope x:=by first|exact .inl rfl|exact .inr rfl)(hs:swapsWith e (some (.Name x pos')) pos.line X.env=pure false:=by rfl)(hf:X.fn x=true∨X.env.scope.names.lookup x=some .local:=by first|exact .inl rfl|exact .inr rfl|assumption):iE X G E (.Assign [.Name x pos'] e pos) (aR me (aI i)):=CI hN hi hx he hs hf
theorem iC{sc os:fy}{oN N:Br}{cap:List (Option Nat)}(hs:X.env.scope.names=os.names:=by rfl)(hN:X.N=oN:=by rfl)(h1:sc.kind=.function:=by rfl)(h2:∀p∈sc.names,p.2=.local->sc.names.lookup p.1=some .local:=by decide+kernel)(h3:cap.length=N.length:=by rfl)(h4:∀p∈sc.names,p.2=.free->os.names.lookup p.1=some .cell∨os.names.lookup p.1=some .free:=by decide+kernel)(h5:∀p∈sc.names,p.2=.free->(p.1,dy)∉sc.names:=by decide+kernel)(h6:∀q∈cap.zip N,∀j∈q.1,oN[j]?=some q.2/\sc.names.lookup q.2=some .free:=by decide+kernel):Df X sc N cap:=Y2 hs hN h1 h2 h3 h4 h5 h6
end
theorem eG{N P:Br}{sc:fy}(h1:sc.kind=.function:=by rfl)(h2:sc.isCoroutine=false:=by rfl)(h3:sc.isGenerator=false:=by rfl)(h4:N.Nodup:=by decide+kernel)(h5:N.take P.length=P:=by rfl)(h6:∀x∈P,sc.names.lookup x=some .local∨sc.names.lookup x=some .cell:=by decide+kernel)(h7:∀y∈sc.names,y.2≠.free:=by decide+kernel):Cb N P sc:=⟨h1,h2,h3,h4,h5,h6,h7⟩
open PySem.W in
theorem eI{F:List (Frag->Bool)}{K:Frag}{l m:List (Option bq)}(hf:l=m)(hc:F.all (λf=>f K)=true)(f:ai)(st:iq)(n:Str)(c:ai)(ps:Br)(i j k:Nat)(hb:∀(kV doc pm:af)(an:Option ai)(cdv ct:af)(us:List af),us.length=ps.length->bindArgs (fnOf n n (nY st) (jV st) (bJ st) .none kV doc pm an cdv ct) ⟨us,[]⟩=pure (ps.zip us))(h1:l[i]?=some (dQ K f):=by rfl)(h2:m[i]?=some (some (fnOf n n (nY st) (jV st) (bJ st) .none .none .none .none none (.ref c) .none)):=by rfl)(h3:F[j]?=some (codeIn · (.ref c) n):=by rfl)(h4:F[k]?=some (keepIn · (.ref f)):=by rfl):
  ∃fd:bq,Fun K n n st f fd/\Binds K fd ps []/\fd.code=.ref c/\∀us:List af,us.length=ps.length->bindArgs fd ⟨us,[]⟩=pure (ps.zip us):=YZ (QJ hf i h1 h2) (qU hc j h3) (qU hc k h4) hb
structure Fd(K:ar)(mg:Str->Option af)(x:Str)(ps:Br)(st:iq)(f:ai)(fd:bq):Prop where
 F:Fun K x x st f fd
 B:Binds K fd ps []
 m:mg x=some (.ref f)
theorem cM{k:Nat}{f:ai}{X:Cx}{G:Cfg}{E:XK}{F:Bs}{ps:Br}{st:iq}{fd:bq}{x:Str}{p pos:Pos}{e:bp}{es:List bp}{ms:M Bt}{j:Nat}(g:Good X G E k)(Fn:Cg X.prog X.w X.K X.mg X.base (cA X.prog X.w X.base) j f fd ps (cW G F))(D:Fd X.K X.mg x ps st f fd)(ha:eO X G E (e::es) ms)(hj:j<=k:=by decide)(hg:Gl X x:=by exact rfl)(Ft:(x==Ib)=false:=by decide)(he:aq (e::es) X.env=(false,eval e X.env)::aq es X.env:=by rfl)(Dp:(backTo pos (aq es X.env)).any (·.1)=false:=by rfl):
  aK X G E (.Call (.Name x p) (e::es) [] pos) (aH F ms):=KC g Fn hj hg D.m D.F.kp D.B ha Ft he Dp
theorem sV{X:Cx}{G:Cfg}{E:XK}{x:Str}{pos:Pos}{i:Nat}(hi:X.N[i]?=some x:=by rfl)(hv:pF X.env.scope x:=by first|exact .inl rfl|exact .inr (.inl rfl)|exact .inr (.inr rfl))(hd1:(x==Ib)=false:=by decide)(hd2:(x==("__classdict__":Str))=false:=by decide):aK X G E (.Name x pos) (aD i):=fQ i hi hv hd1 hd2
end L2.Mr
namespace L2.Mr.K72
open L2.Mr.Cod
open L2.Mr.Com
open L2.Mr.K74 (qJ vB nM vD nO EW qK vE gO mb_qe jK sQ)
open L2.Mr.K60 (oX uZ)
def eJ(i:Nat):iq:=aa.main.body.getD i (.Pass ⟨0,0,0,0⟩)
abbrev E1:iq:=eJ 17
abbrev E2:iq:=eJ 18
abbrev zK:iq:=eJ 19
abbrev E3:iq:=eJ 22
abbrev zM:iq:=eJ 23
abbrev E4:iq:=eJ 24
abbrev zN:iq:=eJ 25
abbrev zO:iq:=eJ 26
abbrev zP:iq:=eJ 27
abbrev E5:iq:=eJ 28
abbrev E6:iq:=eJ 29
abbrev E7:iq:=eJ 30
abbrev zQ:iq:=eJ 31
abbrev E8:iq:=eJ 32
abbrev E9:iq:=eJ 34
abbrev vH:iq:=eJ 35
abbrev zR:iq:=eJ 36
abbrev FA:iq:=eJ 38
abbrev FC:iq:=eJ 39
abbrev FD:iq:=eJ 40
abbrev FE:iq:=eJ 41
abbrev FF:iq:=eJ 42
abbrev FG:iq:=eJ 43
abbrev FH:iq:=eJ 44
abbrev zS:iq:=eJ 45
abbrev FI:iq:=eJ 46
abbrev FJ:iq:=eJ 47
abbrev zT:iq:=eJ 48
abbrev FK:iq:=eJ 49
abbrev qN:iq:=eJ 50
abbrev zU:iq:=eJ 51
abbrev zV:iq:=eJ 52
abbrev sW:iq:=eJ 53
abbrev zW:iq:=eJ 54
set_option genInjectivity false in
structure Ad where
 f_q4:ai
 fd_q4:bq
 f_qq:ai
 fd_qq:bq
 f_qy:ai
 fd_qy:bq
 f_q3:ai
 fd_q3:bq
 f_qp:ai
 fd_qp:bq
 f_q5:ai
 fd_q5:bq
 f_qw:ai
 fd_qw:bq
 f_qx:ai
 fd_qx:bq
 f_qj:ai
 fd_qj:bq
 f_q2:ai
 fd_q2:bq
 f_qr:ai
 fd_qr:bq
 f_qs:ai
 fd_qs:bq
 f_q1:ai
 fd_q1:bq
 f_qv:ai
 fd_qv:bq
 f_q6:ai
 fd_q6:bq
 f_qz:ai
 fd_qz:bq
 f_qe:ai
 fd_qe:bq
 f_qu:ai
 fd_qu:bq
 f_qk:ai
 fd_qk:bq
 f_qi:ai
 fd_qi:bq
 f_qo:ai
 fd_qo:bq
 f_qf:ai
 fd_qf:bq
 f_qn:ai
 fd_qn:bq
 f_qm:ai
 fd_qm:bq
 f_ql:ai
 fd_ql:bq
 f_qc:ai
 fd_qc:bq
 f_qd:ai
 fd_qd:bq
 f_qt:ai
 fd_qt:bq
 f_qb:ai
 fd_qb:bq
 f_qg:ai
 fd_qg:bq
 f_qh:ai
 fd_qh:bq
 f_q0:ai
 fd_q0:bq
 f_qa:ai
 fd_qa:bq
 f_q7:ai
 fd_q7:bq
 c_NoOrder:ai
 c_NoNumber:ai
 c_NoPairs:ai
 c_Round:ai
 c_NoThing:ai
 c_NoRow:ai
 c_TooMany:ai
 c_TooFew:ai
 c_NoText:ai
 c_NoLine:ai
 c_NoDeed:ai
 c_NoSeating:ai
 c_NoRing:ai
 c_NoSizes:ai
 t_MOST_THINGS:Tok
 NE:ai
 cc_law:ai
 P_law:ai
structure Tx(K:ar)(mg:Str->Option af)(G:Cf0)(A:Ad):Prop where
 hK:K=G.K
 d_is_whole:Fd K mg "is_whole" ["thing"] E1 A.f_q4 A.fd_q4
 d_is_between:Fd K mg "is_between" ["thing","low","high"] E2 A.f_qq A.fd_qq
 d_is_rising:Fd K mg "is_rising" ["parts"] zK A.f_qy A.fd_qy
 d_is_thing:Fd K mg "is_thing" ["many","thing"] E3 A.f_q3 A.fd_q3
 d_are_things:Fd K mg "are_things" ["many","thing"] zM A.f_qp A.fd_qp
 d_is_pair:Fd K mg "is_pair" ["many","thing"] E4 A.f_q5 A.fd_q5
 d_are_pairs:Fd K mg "are_pairs" ["many","things"] zN A.f_qw A.fd_qw
 d_has_alike:Fd K mg "has_alike" ["pairs"] zO A.f_qx A.fd_qx
 d_is_complete:Fd K mg "is_complete" ["pairs"] zP A.f_qj A.fd_qj
 d_is_order:Fd K mg "is_order" ["thing"] E5 A.f_q2 A.fd_q2
 d_need_order:Fd K mg "need_order" ["order"] E6 A.f_qr A.fd_qr
 d_need_thing:Fd K mg "need_thing" ["order","thing"] E7 A.f_qs A.fd_qs
 d_ahead_of:Fd K mg "ahead_of" ["order","thing"] zQ A.f_q1 A.fd_q1
 d_are_loose:Fd K mg "are_loose" ["order","one","other"] E8 A.f_qv A.fd_qv
 d_is_bar:Fd K mg "is_bar" ["order","a","b","c"] E9 A.f_q6 A.fd_q6
 d_levels_of:Fd K mg "levels_of" ["order"] vH A.f_qz A.fd_qz
 d_levels_or_bar:Fd K mg "levels_or_bar" ["order"] zR A.f_qe A.fd_qe
 d__law_take:Fd K mg "_law_take" ["_law_state_here","_law_many"] FA A.f_qu A.fd_qu
 d__law_mixed:Fd K mg "_law_mixed" ["_law_state_here","_law_many"] FC A.f_qk A.fd_qk
 d__law_closed:Fd K mg "_law_closed" ["_law_many","_law_pairs"] FD A.f_qi A.fd_qi
 d__law_whole:Fd K mg "_law_whole" ["_law_thing"] FE A.f_qo A.fd_qo
 d__law_cell_at:Fd K mg "_law_cell_at" ["_law_script","_law_k"] FF A.f_qf A.fd_qf
 d__law_state:Fd K mg "_law_state" ["_law_script","_law_k"] FG A.f_qn A.fd_qn
 d__law_sizes:Fd K mg "_law_sizes" ["_law_state_here"] FH A.f_qm A.fd_qm
 d__law_order:Fd K mg "_law_order" ["_law_state_here","_law_most"] zS A.f_ql A.fd_ql
 d__law_numbered:Fd K mg "_law_numbered" ["_law_sizes_here"] FI A.f_qc A.fd_qc
 d__law_of_sizes:Fd K mg "_law_of_sizes" ["_law_sizes_here","_law_chains"] FJ A.f_qd A.fd_qd
 d__law_same:Fd K mg "_law_same" ["_law_found","_law_due"] zT A.f_qt A.fd_qt
 d__law_bad_order:Fd K mg "_law_bad_order" ["_law_state_here"] FK A.f_qb A.fd_qb
 d__law_refused:Fd K mg "_law_refused" ["_law_call"] qN A.f_qg A.fd_qg
 d__law_renamed:Fd K mg "_law_renamed" ["_law_state_here","_law_order_here"] zU A.f_qh A.fd_qh
 d__law_bar:Fd K mg "_law_bar" ["_law_order_here"] zV A.f_q0 A.fd_q0
 d__law_are_levels:Fd K mg "_law_are_levels" ["_law_order_here","_law_thing"] sW A.f_qa A.fd_qa
 d_law:Fd K mg "law" ["_law_script"] zW A.f_q7 A.fd_q7
 z_ValueError:mg "ValueError"=none
 z_all:mg "all"=none
 z_any:mg "any"=none
 z_bool:mg "bool"=none
 z_int:mg "int"=none
 z_isinstance:mg "isinstance"=none
 z_len:mg "len"=none
 z_list:mg "list"=none
 z_max:mg "max"=none
 z_min:mg "min"=none
 z_range:mg "range"=none
 z_set:mg "set"=none
 z_sorted:mg "sorted"=none
 z_sum:mg "sum"=none
 z_tuple:mg "tuple"=none
 z_zip:mg "zip"=none
 c_MOST_THINGS:mg "MOST_THINGS"=some (.int 6 A.t_MOST_THINGS)
 n_NoOrder:mg "NoOrder"=some (.ref A.c_NoOrder)
 n_NoNumber:mg "NoNumber"=some (.ref A.c_NoNumber)
 n_NoPairs:mg "NoPairs"=some (.ref A.c_NoPairs)
 n_Round:mg "Round"=some (.ref A.c_Round)
 n_NoThing:mg "NoThing"=some (.ref A.c_NoThing)
 n_NoRow:mg "NoRow"=some (.ref A.c_NoRow)
 n_TooMany:mg "TooMany"=some (.ref A.c_TooMany)
 n_TooFew:mg "TooFew"=some (.ref A.c_TooFew)
 n_NoText:mg "NoText"=some (.ref A.c_NoText)
 n_NoLine:mg "NoLine"=some (.ref A.c_NoLine)
 n_NoDeed:mg "NoDeed"=some (.ref A.c_NoDeed)
 n_NoSeating:mg "NoSeating"=some (.ref A.c_NoSeating)
 n_NoRing:mg "NoRing"=some (.ref A.c_NoRing)
 n_NoSizes:mg "NoSizes"=some (.ref A.c_NoSizes)
 ns_NoOrder:zj K du "NoOrder"=some (some (.ref A.c_NoOrder))
 x_NoOrder:yk K A.c_NoOrder CT "ValueError.__new__"=true
 ce_NoOrder:A.c_NoOrder=G.cl 0
 ktV:∀c b,tblV.lookup c=some b->de G.K (.ref (G.cl c)) (.type "ValueError")=some b/\Ef G.K (G.cl c)
 kt0:∀c b,tbl0.lookup c=some b->de G.K (.ref (G.cl c)) (.ref A.c_NoOrder)=some b/\Ef G.K (G.cl c)
 kt1:∀c b,tbl1.lookup c=some b->de G.K (.ref (G.cl c)) (.ref A.c_NoNumber)=some b/\Ef G.K (G.cl c)
 kt2:∀c b,tbl2.lookup c=some b->de G.K (.ref (G.cl c)) (.ref A.c_NoPairs)=some b/\Ef G.K (G.cl c)
 kt3:∀c b,tbl3.lookup c=some b->de G.K (.ref (G.cl c)) (.ref A.c_Round)=some b/\Ef G.K (G.cl c)
 kt4:∀c b,tbl4.lookup c=some b->de G.K (.ref (G.cl c)) (.ref A.c_NoThing)=some b/\Ef G.K (G.cl c)
 kt5:∀c b,tbl5.lookup c=some b->de G.K (.ref (G.cl c)) (.ref A.c_NoRow)=some b/\Ef G.K (G.cl c)
 kt6:∀c b,tbl6.lookup c=some b->de G.K (.ref (G.cl c)) (.ref A.c_TooMany)=some b/\Ef G.K (G.cl c)
 kt7:∀c b,tbl7.lookup c=some b->de G.K (.ref (G.cl c)) (.ref A.c_TooFew)=some b/\Ef G.K (G.cl c)
 kt8:∀c b,tbl8.lookup c=some b->de G.K (.ref (G.cl c)) (.ref A.c_NoText)=some b/\Ef G.K (G.cl c)
 kt9:∀c b,tbl9.lookup c=some b->de G.K (.ref (G.cl c)) (.ref A.c_NoLine)=some b/\Ef G.K (G.cl c)
 kt10:∀c b,tbl10.lookup c=some b->de G.K (.ref (G.cl c)) (.ref A.c_NoDeed)=some b/\Ef G.K (G.cl c)
 kt11:∀c b,tbl11.lookup c=some b->de G.K (.ref (G.cl c)) (.ref A.c_NoSeating)=some b/\Ef G.K (G.cl c)
 kt12:∀c b,tbl12.lookup c=some b->de G.K (.ref (G.cl c)) (.ref A.c_NoRing)=some b/\Ef G.K (G.cl c)
 kt13:∀c b,tbl13.lookup c=some b->de G.K (.ref (G.cl c)) (.ref A.c_NoSizes)=some b/\Ef G.K (G.cl c)
 n_NearError:mg "NearError"=some (.ref A.NE)
 e1:ku K (.ref A.NE) (.type "BaseException")=some true
 e2:ku K (.type "type") (.type "tuple")=some false
 e3:xw K (.ref A.NE) (.ref A.NE)=some true
 e4:∀c,c<14->ku K (.ref (G.cl c)) (.ref A.NE)=some true
 code_law:A.fd_q7.code=.ref A.cc_law
structure Tz(base:cq)(mg:Str->Option af)(tabs:ai->Option Str)(A:Ad):Prop where
 P_law:tabs A.P_law=some ((("law":Str)++".<locals>.")++"<lambda>")
 C_law:pb base A.cc_law A.P_law
 B:mI mg base
theorem N8:(["one","other"]:Br).Nodup:=by decide+kernel
theorem nd5:(["part","many"]:Br).Nodup:=by decide+kernel
theorem nd7:(["thing","many"]:Br).Nodup:=by decide+kernel
theorem N9:(["a","b"]:Br).Nodup:=by decide+kernel
theorem zX:(["a","b","middle","c","pairs"]:Br).Nodup:=by decide+kernel
theorem OA:(["thing","many","pairs"]:Br).Nodup:=by decide+kernel
theorem OB:(["a","b","thing"]:Br).Nodup:=by decide+kernel
theorem z15:(["order","one","other","pairs"]:Br).Nodup:=by decide+kernel
theorem z16:(["order","ahead"]:Br).Nodup:=by decide+kernel
theorem z17:(["thing","order"]:Br).Nodup:=by decide+kernel
theorem z18:(["many","order","ahead"]:Br).Nodup:=by decide+kernel
theorem z19:(["thing","many","ahead"]:Br).Nodup:=by decide+kernel
theorem OC:(["order","things","bars"]:Br).Nodup:=by decide+kernel
theorem FL:(["a","b","c","order","things"]:Br).Nodup:=by decide+kernel
theorem FN:(["_law_state_here","_law_many","_law_found","_law_stirred"]:Br).Nodup:=by decide+kernel
theorem OD:(["_law_state_here","_law_many","_law_left","_law_found"]:Br).Nodup:=by decide+kernel
theorem zY:(["_law_many","_law_pairs","_law_found","_law_middle","_law_a","_law_b"]:Br).Nodup:=by decide+kernel
theorem z1a:(["_law_script","_law_k","_law_cell"]:Br).Nodup:=by decide+kernel
theorem sX:(["_law_state_here","_law_found","_law_turn","_law_left","_law_kept","_law_size"]:Br).Nodup:=by decide+kernel
abbrev Bw:List PySem.Str:=["_law_state_here","_law_most","_law_many","_law_row","_law_way","_law_kind","_law_pairs","_law_at","_law_later","_law_linked"]
theorem lU:(Bw:Br).Nodup:=by decide+kernel
theorem z1b:(["_law_thing","_law_state_here"]:Br).Nodup:=by decide+kernel
theorem FO:(["_law_sizes_here","_law_found","_law_at"]:Br).Nodup:=by decide+kernel
theorem zZ:(["_law_sizes_here","_law_chains","_law_kind","_law_pairs","_law_a","_law_b"]:Br).Nodup:=by decide+kernel
theorem OE:(["_law_one","_law_other"]:Br).Nodup:=by decide+kernel
theorem FP:(["_law_state_here","_law_some"]:Br).Nodup:=by decide+kernel
theorem vJ:(["_law_call","_law_error","e","_law_marks"]:Br).Nodup:=by decide+kernel
theorem z1c:(["_law_k","_law_marks"]:Br).Nodup:=by decide+kernel
abbrev Bz:List PySem.Str:=["_law_state_here","_law_order_here","_law_names","_law_pairs"]
theorem OF:(Bz:Br).Nodup:=by decide+kernel
theorem OG:(["_law_a","_law_b","_law_names"]:Br).Nodup:=by decide+kernel
abbrev By:List PySem.Str:=["_law_order_here","_law_a","_law_b","_law_c","_law_some","_law_loose"]
theorem vK:(By:Br).Nodup:=by decide+kernel
theorem z1d:(["_law_pair","_law_order_here"]:Br).Nodup:=by decide+kernel
abbrev Bx:List PySem.Str:=["_law_order_here","_law_thing","_law_kind","_law_at","_law_one","_law_a"]
theorem AA:(Bx:Br).Nodup:=by decide+kernel
theorem z1e:(["_law_level"]:Br).Nodup:=by decide+kernel
theorem z1f:(["_law_one"]:Br).Nodup:=by decide+kernel
theorem z1g:(["_law_b","_law_a","_law_order_here","_law_kind"]:Br).Nodup:=by decide+kernel
abbrev Bv:List PySem.Str:=["_law_script","_law_k","_law_state_here","_law_sizes_here","_law_order_here","_law_bar_here","_law_turn","_law_found","_law_none"]
theorem nQ:(Bv:Br).Nodup:=by decide+kernel
section
variable{P:bj}{w:cb}{K:ar}{mg:Str->Option af}{base:cq}{G:Cfg}{A:Ad}
theorem Tx.at{q:Str}(T:Tx K mg G A):Tx K mg (G.at q).toCf0 A:={T with}
theorem z1h:Cb ["thing"] ["thing"] (bJ E1):=eG
theorem z1i(T:Tx K mg G A):Cg P w K mg base (cA P w base) 1 A.f_q4 A.fd_q4 ["thing"] (cW G sM):=eQ (k:=0) T.d_is_whole.F z1h T.hK λ_ _ _ _ _ _ _ g=>(bG (cH (kH (LI rfl T.z_isinstance rfl T.z_int sV) (mD (CB (xW rfl T.z_isinstance rfl T.z_bool sV))))))
theorem z1j:Cb ["thing","low","high"] ["thing","low","high"] (bJ E2):=eG
theorem OH(T:Tx K mg G A):Cg P w K mg base (cA P w base) 2 A.f_qq A.fd_qq ["thing","low","high"] (cW G oS):=eQ (k:=1) T.d_is_between.F z1j T.hK λ_ _ _ _ _ _ _ g=>(bG (cH (kH (cM g (z1i T) T.d_is_whole (bY sV)) (mD (Y7 sV sV sV)))))
theorem z1k:Cb ["parts"] ["parts"] (bJ zK):=eG
theorem z1l(T:Tx K mg G A):Cg P w K mg base (cA P w base) 1 A.f_qy A.fd_qy ["parts"] (cW G yS):=eQ (k:=0) T.d_is_rising.F z1k T.hK λ_ _ _ _ _ _ _ g=>(bG (cH (pT g.calm rfl T.z_all (jM g.calm (iC (N:=["one","other"]) (os:=(bJ zK)) (oN:=["parts"])) (KS rfl T.z_zip (bW sV (u6 sV (YT bD) YS))) (λ_ _ _=>(oD (fK g).calm (iM (cT N8) (iM (cT N8) oC)))) (λ_ _ _=>jL) (λ_ _ _=>(yQ (fK g) sV sV))))))
theorem z1m:Cb ["many","thing"] ["many","thing"] (bJ E3):=eG
theorem OI(T:Tx K mg G A):Cg P w K mg base (cA P w base) 3 A.f_q3 A.fd_q3 ["many","thing"] (cW G kS):=eQ (k:=2) T.d_is_thing.F z1m T.hK λ_ _ _ _ _ _ _ g=>(bG (cH (cM g (OH T) T.d_is_between (lY sV bD (uM sV bD)))))
theorem z1n:Cb ["many","thing"] ["many","thing"] (bJ zM):=eG
theorem z1o(T:Tx K mg G A):Cg P w K mg base (cA P w base) 4 A.f_qp A.fd_qp ["many","thing"] (cW G oU):=eQ (k:=3) T.d_are_things.F z1n T.hK λ_ _ _ _ _ _ _ g=>(bG (cH (kH (pY rfl T.z_isinstance rfl T.z_tuple sV) (mD (pT g.calm rfl T.z_all (jM g.calm (iC (N:=["part","many"]) (os:=(bJ zM)) (oN:=["many","thing"])) (mF sV) (λ_ _ _=>(cT nd5)) (λ_ _ _=>jL) (λ_ _ _=>(cM (fK g) (OI T) T.d_is_thing (bW sV sV)))))))))
theorem z1p:Cb ["many","thing"] ["many","thing"] (bJ E4):=eG
theorem z1q(T:Tx K mg G A):Cg P w K mg base (cA P w base) 5 A.f_q5 A.fd_q5 ["many","thing"] (cW G lO):=eQ (k:=4) T.d_is_pair.F z1p T.hK λ_ _ _ _ _ _ _ g=>(bG (cH (kH (cM g (z1o T) T.d_are_things (bW sV sV)) (mD (rX g (kA rfl T.z_len (bY sV)) bD)))))
theorem z1r:Cb ["many","things"] ["many","things"] (bJ zN):=eG
theorem z1s(T:Tx K mg G A):Cg P w K mg base (cA P w base) 6 A.f_qw A.fd_qw ["many","things"] (cW G sO):=eQ (k:=5) T.d_are_pairs.F z1r T.hK λ_ _ _ _ _ _ _ g=>(bG (cH (pT g.calm rfl T.z_all (jM g.calm (iC (N:=["thing","many"]) (os:=(bJ zN)) (oN:=["many","things"])) (mF sV) (λ_ _ _=>(cT nd7)) (λ_ _ _=>jL) (λ_ _ _=>(cM (fK g) (z1q T) T.d_is_pair (bW sV sV)))))))
theorem z1t:Cb ["pairs"] ["pairs"] (bJ zO):=eG
theorem z1u(T:Tx K mg G A):Cg P w K mg base (cA P w base) 1 A.f_qx A.fd_qx ["pairs"] (cW G yU):=eQ (k:=0) T.d_has_alike.F z1t T.hK λ_ _ _ _ _ _ _ g=>(bG (cH (XQ g.calm rfl T.z_any (jM g.calm (iC (N:=["a","b"]) (os:=(bJ zO)) (oN:=["pairs"])) (mF sV) (λ_ _ _=>(oD (fK g).calm (iM (cT N9) (iM (cT N9) oC)))) (λ_ _ _=>jL) (λ_ _ _=>(rX (fK g) sV sV))))))
theorem z1v:Cb ["pairs"] ["pairs"] (bJ zP):=eG
theorem z1w(T:Tx K mg G A):Cg P w K mg base (cA P w base) 1 A.f_qj A.fd_qj ["pairs"] (cW G yV):=eQ (k:=0) T.d_is_complete.F z1v T.hK λ_ _ _ _ _ _ _ g=>(bG (cH (pT g.calm rfl T.z_all (WS g.calm (iC (N:=["a","b","middle","c","pairs"]) (os:=(bJ zP)) (oN:=["pairs"])) (mF sV) (λ_ _ _=>(oD (fK g).calm (iM (cT zX) (iM (cT zX) oC)))) (λ_ _ _=>jL) (λ_ _ _=>(mF sV)) (λ_ _ _=>(oD (fK g).calm (iM (cT zX) (iM (cT zX) oC)))) (λ_ _ _=>(pR (oO (fK g) sV sV))) (λ_ _ _=>(DN (fK g) (fH (bW sV sV)) sV))))))
theorem z1x:Cb ["thing","many","pairs"] ["thing"] (bJ E5):=eG
theorem z1y(T:Tx K mg G A):Cg P w K mg base (cA P w base) 7 A.f_q2 A.fd_q2 ["thing"] (cW G jS):=eQ (k:=6) T.d_is_order.F z1x T.hK λ_ _ _ _ _ _ _ g=>(bK (dZ (Hw (pL (iL (gA (pY rfl T.z_isinstance rfl T.z_tuple sV))) (pK (kN g (kA rfl T.z_len (bY sV)) bD)))) (bG (cH gG)) dY) (bK (WO sV (oD g.calm (iM (cT OA) (iM (cT OA) oC)))) (bK (dZ (Hw (pL (iL (gA (cM g (OH T) T.d_is_between (lY sV bD (YV rfl T.c_MOST_THINGS))))) (pK (iL (gA (pY rfl T.z_isinstance rfl T.z_tuple sV)))))) (bG (cH gG)) dY) (bK (dZ (Hw (pL (iL (gA (cM g (z1s T) T.d_are_pairs (bW sV sV)))) (pK (iL (gA (cM g (z1l T) T.d_is_rising (bY sV))))))) (bG (cH gG)) dY) (bG (cH (kH (CB (cM g (z1u T) T.d_has_alike (bY sV))) (mD (cM g (z1w T) T.d_is_complete (bY sV))))))))))
theorem z1z:Cb ["order"] ["order"] (bJ E6):=eG
theorem OJ(T:Tx K mg G A):Cg P w K mg base (cA P w base) 8 A.f_qr A.fd_qr ["order"] (cW G jJ):=eQ (k:=7) T.d_need_order.F z1z T.hK λ_ _ _ _ _ _ _ g=>(bG (dZ (iL (gA (cM g (z1y T) T.d_is_order (bY sV)))) (bG (W4 g rfl T.n_NoOrder T.ns_NoOrder T.x_NoOrder T.ce_NoOrder (bY rE))) dY))
theorem z20:Cb ["order","thing"] ["order","thing"] (bJ E7):=eG
theorem z21(T:Tx K mg G A):Cg P w K mg base (cA P w base) 9 A.f_qs A.fd_qs ["order","thing"] (cW G qJ):=eQ (k:=8) T.d_need_thing.F z20 T.hK λ_ _ _ _ _ _ _ g=>(bK (lD (cM g (OJ T) T.d_need_order (bY sV))) (bG (dZ (iL (gA (cM g (OI T) T.d_is_thing (bW (cI sV bD) sV)))) (bG z04) dY)))
theorem z22:Cb ["order","thing"] ["order","thing"] (bJ zQ):=eG
theorem z23(T:Tx K mg G A):Cg P w K mg base (cA P w base) 10 A.f_q1 A.fd_q1 ["order","thing"] (cW G nM):=eQ (k:=9) T.d_ahead_of.F z22 T.hK λ_ _ _ _ _ _ _ g=>(bK (lD (cM g (z21 T) T.d_need_thing (bW sV sV))) (bG (cH (rQ (jM g.calm (iC (N:=["a","b","thing"]) (os:=(bJ zQ)) (oN:=["order","thing"])) (mF (cI sV bD)) (λ_ _ _=>(oD (fK g).calm (iM (cT OB) (iM (cT OB) oC)))) (λ_ _ _=>(pR (oO (fK g) sV sV))) (λ_ _ _=>sV))))))
theorem z24:Cb ["order","one","other","pairs"] ["order","one","other"] (bJ E8):=eG
theorem OK(T:Tx K mg G A):Cg P w K mg base (cA P w base) 1 A.f_qv A.fd_qv ["order","one","other"] (cW G lQ):=eQ (k:=0) T.d_are_loose.F z24 T.hK λ_ _ _ _ _ _ _ g=>(bK (dG z15 (cI sV bD)) (bG (cH (kH (LH g sV sV) (kH (LU g (fH (bW sV sV)) sV) (mD (LU g (fH (bW sV sV)) sV)))))))
theorem z25:Cb ["order","a","b","c"] ["order","a","b","c"] (bJ E9):=eG
theorem z26(T:Tx K mg G A):Cg P w K mg base (cA P w base) 2 A.f_q6 A.fd_q6 ["order","a","b","c"] (cW G nO):=eQ (k:=1) T.d_is_bar.F z25 T.hK λ_ _ _ _ _ _ _ g=>(bG (cH (kH (DN g (fH (bW sV sV)) (cI sV bD)) (kH (cM g (OK T) T.d_are_loose (lY sV sV sV)) (mD (cM g (OK T) T.d_are_loose (lY sV sV sV)))))))
theorem z27:Cb ["order","ahead"] ["order"] (bJ vH):=eG
theorem z28(T:Tx K mg G A):Cg P w K mg base (cA P w base) 11 A.f_qz A.fd_qz ["order"] (cW G qK):=eQ (k:=10) T.d_levels_of.F z27 T.hK λ_ _ _ _ _ _ _ g=>(bK (dG z16 (rQ (jM g.calm (iC (N:=["thing","order"]) (os:=(bJ vH)) (oN:=["order","ahead"])) (gY rfl T.z_range (bY (cI sV bD))) (λ_ _ _=>(cT z17)) (λ_ _ _=>jL) (λ_ _ _=>(kA rfl T.z_len (bY (cM (fK g) (z23 T) T.d_ahead_of (bW sV sV)))))))) (bG (cH (rQ (jM g.calm (iC (N:=["many","order","ahead"]) (os:=(bJ vH)) (oN:=["order","ahead"])) (oE (z0r g rfl T.z_sorted rfl T.z_set (bY sV))) (λ_ _ _=>(cT z18)) (λ_ _ _=>jL) (λ_ _ _=>(XR rfl T.z_tuple (jM (fK g).calm (iC (N:=["thing","many","ahead"]) (os:={kind:=.function,names:=[(".0",.local),("many",.cell),("tuple",.globalImplicit),("range",.globalImplicit),("ahead",.cell),("order",.cell)],isGenerator:=false,isCoroutine:=false}) (oN:=["many","order","ahead"])) (gY rfl T.z_range (bY (cI sV bD))) (λ_ _ _=>(cT z19)) (λ_ _ _=>(pR (oO (fK (fK g)) (cI sV sV) sV))) (λ_ _ _=>sV)))))))))
theorem z29:Cb ["order","things","bars"] ["order"] (bJ zR):=eG
theorem OL(T:Tx K mg G A):Cg P w K mg base (cA P w base) 12 A.f_qe A.fd_qe ["order"] (cW G gO):=eQ (k:=11) T.d_levels_or_bar.F z29 T.hK λ_ _ _ _ _ _ _ g=>(bK (lD (cM g (OJ T) T.d_need_order (bY sV))) (bK (dG OC (EF g rfl T.z_list rfl T.z_range (bY (cI sV bD)))) (bK (z0i (i:=2) OC rfl g.calm (iC (N:=["a","b","c","order","things"]) (os:=(bJ zR)) (oN:=["order","things","bars"])) (oE sV) (λ_ _ _=>(cT FL)) (λ_ _ _=>jL) (λ_ _ _=>(oE sV)) (λ_ _ _=>(cT FL)) (λ_ _ _=>jL) (λ_ _ _=>(oE sV)) (λ_ _ _=>(cT FL)) (λ_ _ _=>(pR (gA (cM (fK g) (z26 T) T.d_is_bar (tW sV sV sV sV))))) (λ_ _ _=>(fH (lY sV sV sV)))) (bK (dZ (gA sV) (bG (cH (fH (bW rE (cI sV bD))))) dY) (bG (cH (fH (bW rE (cM g (z28 T) T.d_levels_of (bY sV))))))))))
theorem z2a:Cb ["_law_state_here","_law_many","_law_found","_law_stirred"] ["_law_state_here","_law_many"] (bJ FA):=eG
theorem jT(T:Tx K mg G A):Cg P w K mg base (cA P w base) 1 A.f_qu A.fd_qu ["_law_state_here","_law_many"] (cW G cZ):=eQ (k:=0) T.d__law_take.F z2a T.hK λ_ _ _ _ _ _ _ g=>(bK (dZ (gA (cI sV bD)) (bK (dG FN (pW (cI sV bD) sV)) (bK (KQ sV bD (LQ (cI sV bD) sV)) (bG (cH sV)))) dY) (bK (KQ sV bD (pW (jQ (uN (cI sV bD) bD) bD) bD)) (bK (dG FN (pW (jQ (jQ (uN (cI sV bD) (cI sV bD)) (uN bD (cI sV bD))) bD) bD)) (bK (dG FN (pW (jQ (uN sV sV) (uN bD sV)) bD)) (bG (cH (pW (LQ sV bD) sV)))))))
theorem z2b:Cb ["_law_state_here","_law_many","_law_left","_law_found"] ["_law_state_here","_law_many"] (bJ FC):=eG
theorem OM(T:Tx K mg G A):Cg P w K mg base (cA P w base) 2 A.f_qk A.fd_qk ["_law_state_here","_law_many"] (cW G oV):=eQ (k:=1) T.d__law_mixed.F z2b T.hK λ_ _ _ _ _ _ _ g=>(bK (dG OD (EF g rfl T.z_list rfl T.z_range (bY sV))) (bK (dG OD (fR iD)) (bK (YQ 40 g.own (kN g sV (fR iD)) (bG (lD (rS sV (LB sV (cM g (jT T) T.d__law_take (bW sV (kA rfl T.z_len (bY sV))))))))) (bG (cH (CH rfl T.z_tuple (bY sV)))))))
theorem z2c:Cb ["_law_many","_law_pairs","_law_found","_law_middle","_law_a","_law_b"] ["_law_many","_law_pairs"] (bJ FD):=eG
theorem ON(T:Tx K mg G A):Cg P w K mg base (cA P w base) 1 A.f_qi A.fd_qi ["_law_many","_law_pairs"] (cW G nJ):=eQ (k:=0) T.d__law_closed.F z2c T.hK λ_ _ _ _ _ _ _ g=>(bK (dG zY (LJ rfl T.z_list (bY sV))) (bK (gZ g.own g.calm (gY rfl T.z_range (bY sV)) (cT zY) (bG (gZ g.own g.calm (gY rfl T.z_range (bY sV)) (cT zY) (bG (gZ g.own g.calm (gY rfl T.z_range (bY sV)) (cT zY) (bG (dZ (Hw (lC (yA g (fH (bW sV sV)) sV) (lC (yA g (fH (bW sV sV)) sV) (nZ (LV g (fH (bW sV sV)) sV))))) (bG (lD (rS sV (fH (bW sV sV))))) dY))))))) (bG (cH (CH rfl T.z_tuple (bY (v8 g rfl T.z_sorted rfl T.z_set (bY sV))))))))
theorem z2d:Cb ["_law_thing"] ["_law_thing"] (bJ FE):=eG
theorem z2e(T:Tx K mg G A):Cg P w K mg base (cA P w base) 1 A.f_qo A.fd_qo ["_law_thing"] (cW G oX):=eQ (k:=0) T.d__law_whole.F z2d T.hK λ_ _ _ _ _ _ _ g=>(bG (cH (kH (LI rfl T.z_isinstance rfl T.z_int sV) (mD (CB (xW rfl T.z_isinstance rfl T.z_bool sV))))))
theorem z2f:Cb ["_law_script","_law_k"] ["_law_script","_law_k"] (bJ FF):=eG
theorem z2g(T:Tx K mg G A):Cg P w K mg base (cA P w base) 1 A.f_qf A.fd_qf ["_law_script","_law_k"] (cW G (uX G.scr)):=eQ (k:=0) (N:=["_law_script","_law_k"]) (mb:=(yW G.scr)) T.d__law_cell_at.F z2f T.hK λ_ _ _ _ _ _ _ g=>(bK (dZ (EE g sV (JZ rfl T.z_len (bY sV))) (bG (cH (WB sV sV))) dY) (bG (cH bD)))
theorem z2h:Cb ["_law_script","_law_k","_law_cell"] ["_law_script","_law_k"] (bJ FG):=eG
theorem z2i(T:Tx K mg G A):Cg P w K mg base (cA P w base) 2 A.f_qn A.fd_qn ["_law_script","_law_k"] (cW G (qG G.scr)):=eQ (k:=1) (N:=["_law_script","_law_k","_law_cell"]) (mb:=(yX G.scr)) T.d__law_state.F z2h T.hK λ_ _ _ _ _ _ _ g=>(bK (dG z1a (cM g (z2g T) T.d__law_cell_at (bW sV sV))) (bK (dZ (Y6 sV (LG bD bD)) (bG (cH (fR (bW (uM sV (LG bD bD)) gG)))) dY) (bG (cH (fR (bW (pW sV bD) gG))))))
theorem z2j:Cb ["_law_state_here","_law_found","_law_turn","_law_left","_law_kept","_law_size"] ["_law_state_here"] (bJ FH):=eG
theorem z2k(T:Tx K mg G A):Cg P w K mg base (cA P w base) 2 A.f_qm A.fd_qm ["_law_state_here"] (cW G jK):=eQ (k:=1) T.d__law_sizes.F z2j T.hK λ_ _ _ _ _ _ _ g=>(bK (dG sX (fR iD)) (bK (gZ g.own g.calm (gY rfl T.z_range (bY (jQ bD (cM g (jT T) T.d__law_take (bW sV bD))))) (cT sX) (bG (lD (rS sV (jQ bD (cI (fR (tW bD bD (cM g (jT T) T.d__law_take (bW sV bD)) (cM g (jT T) T.d__law_take (bW sV bD)))) (cM g (jT T) T.d__law_take (bW sV bD)))))))) (bK (dG sX bD) (bK (dG sX (fR iD)) (bK (gZ g.own g.calm (oE sV) (cT sX) (bG (dZ (Hw (pL (Y4 sV sV) (pK (oO g sV (fR iD))))) (bK (lD (rS sV sV)) (bG (dG sX (uM sV sV)))) dY))) (bG (cH (cI (fR (tW sV sV sV sV)) (cM g (jT T) T.d__law_take (bW sV bD))))))))))
theorem z2l:Cb Bw ["_law_state_here","_law_most"] (bJ zS):=eG
theorem z2m(T:Tx K mg G A):Cg P w K mg base (cA P w base) 3 A.f_ql A.fd_ql ["_law_state_here","_law_most"] (cW G sP):=eQ (k:=2) T.d__law_order.F z2l T.hK λ_ _ _ _ _ _ _ g=>(bK (dG lU (uM sV (cI (fR (iZ bD (iZ bD (iZ bD (iZ bD (tW bD bD bD (uM sV bD))))))) (cM g (jT T) T.d__law_take (bW sV bD))))) (bK (dG lU (J1 g.calm rfl T.z_max (bW bD sV))) (bK (dG lU (cM g (OM T) T.d__law_mixed (bW sV sV))) (bK (dG lU (cM g (jT T) T.d__law_take (bW sV bD))) (bK (LY (i:=5) lU rfl g.calm (iC (N:=["_law_thing","_law_state_here"]) (os:=(bJ zS)) (oN:=Bw)) (mF sV) (λ_ _ _=>(cT z1b)) (λ_ _ _=>jL) (λ_ _ _=>(cM (fK g) (jT T) T.d__law_take (bW sV bD)))) (bK (dG lU (fR iD)) (bK (gZ g.own g.calm (gY rfl T.z_range (bY sV)) (cT lU) (bG (gZ g.own g.calm (WQ rfl T.z_range (bW (jQ sV bD) sV)) (cT lU) (bK (dG lU (yQ g (cM g (jT T) T.d__law_take (bW sV bD)) (cI (zC 2) (pW sV bD)))) (bK (dZ (oO g sV bD) (bG (dG lU (rX g (cI sV sV) (cI sV sV)))) dY) (bK (dZ (oO g sV bD) (bG (dG lU (yQ g (cI sV sV) (cI sV sV)))) dY) (bG (dZ (gA sV) (bG (lD (rS sV (fH (bW (cI sV sV) (cI sV sV)))))) dY)))))))) (bG (cH (fH (bW sV (cM g (ON T) T.d__law_closed (bW sV sV)))))))))))))
theorem z2n:Cb ["_law_sizes_here","_law_found","_law_at"] ["_law_sizes_here"] (bJ FI):=eG
theorem z2o(T:Tx K mg G A):Cg P w K mg base (cA P w base) 1 A.f_qc A.fd_qc ["_law_sizes_here"] (cW G sT):=eQ (k:=0) T.d__law_numbered.F z2n T.hK λ_ _ _ _ _ _ _ g=>(bK (dG FO (fR iD)) (bK (gZ g.own g.calm (gY rfl T.z_range (bY (kA rfl T.z_len (bY sV)))) (cT FO) (bG (dG FO (jQ sV (ZW (fR (bY sV)) (cI sV sV)))))) (bG (cH sV))))
theorem z2p:Cb ["_law_sizes_here","_law_chains","_law_kind","_law_pairs","_law_a","_law_b"] ["_law_sizes_here","_law_chains"] (bJ FJ):=eG
theorem z2q(T:Tx K mg G A):Cg P w K mg base (cA P w base) 2 A.f_qd A.fd_qd ["_law_sizes_here","_law_chains"] (cW G qL):=eQ (k:=1) T.d__law_of_sizes.F z2p T.hK λ_ _ _ _ _ _ _ g=>(bK (dG zZ (cM g (z2o T) T.d__law_numbered (bY sV))) (bK (dG zZ (fR iD)) (bK (gZ g.own g.calm (gY rfl T.z_range (bY (kA rfl T.z_len (bY sV)))) (cT zZ) (bG (gZ g.own g.calm (gY rfl T.z_range (bY (kA rfl T.z_len (bY sV)))) (cT zZ) (bG (dZ (Hw (pL (Hw (lC (gA sV) (lC (EE g sV sV) (nZ (oO g (cI sV sV) (cI sV sV)))))) (pK (Hw (lC (iL (gA sV)) (nZ (EE g (cI sV sV) (cI sV sV)))))))) (bG (lD (rS sV (fH (bW sV sV))))) dY))))) (bG (cH (fH (bW (kA rfl T.z_len (bY sV)) (CH rfl T.z_tuple (bY sV)))))))))
theorem z2r:Cb ["_law_found","_law_due"] ["_law_found","_law_due"] (bJ zT):=eG
theorem FQ(T:Tx K mg G A):∀n,Cg P w K mg base (cA P w base) n A.f_qt A.fd_qt ["_law_found","_law_due"] (cW G (eX n))
 |0=>ZL
 |n+1=>by have okS:=FQ T n;exact eQ (N:=["_law_found","_law_due"]) (mb:=iB (eX n)) T.d__law_same.F z2r T.hK λ_ _ _ _ _ _ _ g=>(bK (dZ (gA (ZI rfl T.z_isinstance rfl T.z_tuple rfl T.z_list sV)) (bK (dZ (Hw (pL (kN g (pY rfl T.z_isinstance rfl T.z_tuple sV) (pY rfl T.z_isinstance rfl T.z_tuple sV)) (pK (kN g (DJ rfl T.z_isinstance rfl T.z_list sV) (DJ rfl T.z_isinstance rfl T.z_list sV))))) (bG (cH gG)) dY) (bK (dZ (kN g (kA rfl T.z_len (bY sV)) (kA rfl T.z_len (bY sV))) (bG (cH gG)) dY) (bG (cH (pT g.calm rfl T.z_all (jM g.calm (iC (N:=["_law_one","_law_other"]) (os:=(bJ zT)) (oN:=["_law_found","_law_due"])) (KS rfl T.z_zip (bW sV sV)) (λ_ _ _=>(oD (fK g).calm (iM (cT OE) (iM (cT OE) oC)))) (λ_ _ _=>jL) (λ_ _ _=>(KC (fK g) okS (ao _) rfl T.d__law_same.m T.d__law_same.F.kp T.d__law_same.B (bW sV sV))))))))) dY) (bG (cH (kH (rX g sV sV) (mD (rX g (xW rfl T.z_isinstance rfl T.z_bool sV) (xW rfl T.z_isinstance rfl T.z_bool sV)))))))
theorem z2s:Cb ["_law_state_here","_law_some"] ["_law_state_here"] (bJ FK):=eG
theorem z2t(T:Tx K mg G A):Cg P w K mg base (cA P w base) 2 A.f_qb A.fd_qb ["_law_state_here"] (cW G uY):=z00 (k:=1) T.d__law_bad_order.F z2s T.hK λ_ _ _ _ _ _ _ g=>(ES (y9 5 (i:=1) FP rfl (by first|exact .inl rfl|exact .inr rfl)) (ES (NW 5 (i:=1) FP rfl (by first|exact .inl rfl|exact .inr rfl) sV) (ES (NW 5 (i:=1) FP rfl (by first|exact .inl rfl|exact .inr rfl) sV) (y8 (SW.mk (cH (cI sV (cM g (jT T) T.d__law_take (bW sV bD)))))))))
theorem z2u:Cb ["_law_call","_law_error","e","_law_marks"] ["_law_call"] (bJ qN):=eG
theorem z2v{k:Nat}(T:Tx K mg G A)(cdv:af)(Ar:bx)(outer:List Env)(s:ag)(H:Hp)(E₀ E:XK)(g:Good (gU (cA P w base) P w K mg base ["_law_call","_law_error","e","_law_marks"] "_law_refused" (bJ qN) A.f_qg cdv Ar outer s H E₀) G E k):jY (gU (cA P w base) P w K mg base ["_law_call","_law_error","e","_law_marks"] "_law_refused" (bJ qN) A.f_qg cdv Ar outer s H E₀) G E ((jV qN).drop 2) lT:=(bK (dG vJ (fR (lY (jP rfl T.z_isinstance rfl T.n_NoOrder sV (λ_ h=>by cases h) T.kt0) (jP rfl T.z_isinstance rfl T.n_NoNumber sV (λ_ h=>by cases h) T.kt1) (jP rfl T.z_isinstance rfl T.n_NoPairs sV (λ_ h=>by cases h) T.kt2)))) (bK (dG vJ (jQ sV (fR (lY (jP rfl T.z_isinstance rfl T.n_Round sV (λ_ h=>by cases h) T.kt3) (jP rfl T.z_isinstance rfl T.n_NoThing sV (λ_ h=>by cases h) T.kt4) (jP rfl T.z_isinstance rfl T.n_NoRow sV (λ_ h=>by cases h) T.kt5))))) (bK (dG vJ (jQ sV (fR (lY (jP rfl T.z_isinstance rfl T.n_TooMany sV (λ_ h=>by cases h) T.kt6) (jP rfl T.z_isinstance rfl T.n_TooFew sV (λ_ h=>by cases h) T.kt7) (jP rfl T.z_isinstance rfl T.n_NoText sV (λ_ h=>by cases h) T.kt8))))) (bK (dG vJ (jQ sV (fR (lY (jP rfl T.z_isinstance rfl T.n_NoLine sV (λ_ h=>by cases h) T.kt9) (jP rfl T.z_isinstance rfl T.n_NoDeed sV (λ_ h=>by cases h) T.kt10) (jP rfl T.z_isinstance rfl T.n_NoSeating sV (λ_ h=>by cases h) T.kt11))))) (bK (dG vJ (jQ sV (fR (bW (jP rfl T.z_isinstance rfl T.n_NoRing sV (λ_ h=>by cases h) T.kt12) (jP rfl T.z_isinstance rfl T.n_NoSizes sV (λ_ h=>by cases h) T.kt13))))) (bK (dZ (iL (gA (ZJ rfl T.z_isinstance rfl T.z_ValueError sV (λ_ h=>by cases h) T.ktV))) (bG (cH pI)) dY) (bG (cH (rQ (jM g.calm (iC (N:=["_law_k","_law_marks"]) (os:=(bJ qN)) (oN:=["_law_call","_law_error","e","_law_marks"])) (gY rfl T.z_range (bY bD)) (λ_ _ _=>(cT z1c)) (λ_ _ _=>(pR (gA (cI sV sV)))) (λ_ _ _=>sV)))))))))))
theorem z2w{k:Nat}{Nl:Br}{params:ju}{body:bp}{scope:fy}{me:M Dv}(T:Tx K mg G A)(LS:Di Nl scope)(hb:∀(cl:List (Str×ai))(pm cdv ct:af),bindArgs (qw "<lambda>" G.lq params body scope cl pm cdv ct) ⟨[],[]⟩=pure [])(Cz:∀(f:ai)(cdv:af)(cl:List (Str×ai))(A:bx)(outer:List Env)(s:ag)(H:Hp)(E₀ E:XK),Good (jZ P w K mg base Nl G.lq scope f cdv cl A outer s H E₀) G E k->aK (jZ P w K mg base Nl G.lq scope f cdv cl A outer s H E₀) G E body me):
  Cg P w K mg base (cA P w base) (k+2) A.f_qg A.fd_qg ["_law_call"] (DC G base Nl params body scope me 4 14 lT):=
 YD T.d__law_refused.F z2u T.hK rfl rfl rfl rfl rfl rfl rfl (by decide) (by decide) (by decide) (by decide) (by decide) (λ_ _=>rfl) (λ_ _=>rfl) (λ_ _=>rfl) rfl T.n_NearError T.e1 T.e2 T.e3 T.e4 LS hb Cz (z2v T)
theorem z2x:Cb Bz ["_law_state_here","_law_order_here"] (bJ zU):=eG
theorem z2y(T:Tx K mg G A):Cg P w K mg base (cA P w base) 3 A.f_qh A.fd_qh ["_law_state_here","_law_order_here"] (cW G sU):=eQ (k:=2) T.d__law_renamed.F z2x T.hK λ_ _ _ _ _ _ _ g=>(bK (dG OF (cM g (OM T) T.d__law_mixed (bW sV (cI sV bD)))) (bK (LY (i:=3) OF rfl g.calm (iC (N:=["_law_a","_law_b","_law_names"]) (os:=(bJ zU)) (oN:=Bz)) (mF (cI sV bD)) (λ_ _ _=>(oD (fK g).calm (iM (cT OG) (iM (cT OG) oC)))) (λ_ _ _=>jL) (λ_ _ _=>(fH (bW (cI sV sV) (cI sV sV))))) (bK (dZ (Hw (lC (kN g sV (fR iD)) (nZ (oO g (cM g (jT T) T.d__law_take (bW sV bD)) bD)))) (bG (lD (LB sV (cM g (jT T) T.d__law_take (bW sV (kA rfl T.z_len (bY sV))))))) dY) (bG (cH (fH (bW (cI sV bD) (cM g (ON T) T.d__law_closed (bW (cI sV bD) sV)))))))))
theorem z2z:Cb By ["_law_order_here"] (bJ zV):=eG
theorem z30(T:Tx K mg G A):Cg P w K mg base (cA P w base) 1 A.f_q0 A.fd_q0 ["_law_order_here"] (cW G qM):=eQ (k:=0) T.d__law_bar.F z2z T.hK λ_ _ _ _ _ _ _ g=>(bK (gZ g.own g.calm (gY rfl T.z_range (bY (cI sV bD))) (cT vK) (bG (gZ g.own g.calm (gY rfl T.z_range (bY (cI sV bD))) (cT vK) (bG (gZ g.own g.calm (gY rfl T.z_range (bY (cI sV bD))) (cT vK) (bK (dG vK (fR (tW (fH (bW sV sV)) (fH (bW sV sV)) (fH (bW sV sV)) (fH (bW sV sV))))) (bK (dG vK (rX g (rQ (jM g.calm (iC (N:=["_law_pair","_law_order_here"]) (os:=(bJ zV)) (oN:=By)) (oE sV) (λ_ _ _=>(cT z1d)) (λ_ _ _=>(pR (yA (fK g) sV (cI sV bD)))) (λ_ _ _=>sV))) (fR iD))) (bG (dZ (Hw (lC (yA g (fH (bW sV sV)) (cI sV bD)) (lC (gA sV) (nZ (LV g sV (fH (bW sV sV))))))) (bG (cH (fH (lY sV sV sV)))) dY))))))))) (bG (cH pI)))
theorem z31:Cb Bx ["_law_order_here","_law_thing"] (bJ sW):=eG
theorem z32(T:Tx K mg G A):Cg P w K mg base (cA P w base) 2 A.f_qa A.fd_qa ["_law_order_here","_law_thing"] (cW G vF):=eQ (k:=1) T.d__law_are_levels.F z31 T.hK λ_ _ _ _ _ _ _ g=>(bK (dZ (iL (gA (DJ rfl T.z_isinstance rfl T.z_list sV))) (bG (cH gG)) dY) (bK (dZ (iL (gA (pT g.calm rfl T.z_all (jM g.calm (iC (N:=["_law_level"]) (os:=(bJ sW)) (oN:=Bx)) (oE sV) (λ_ _ _=>(cT z1e)) (λ_ _ _=>jL) (λ_ _ _=>(kH (pY rfl T.z_isinstance rfl T.z_tuple sV) (mD (LH (fK g) sV (fH iD))))))))) (bG (cH gG)) dY) (bK (dG AA z0y) (bK (gZ g.own g.calm (gY rfl T.z_range (bY (kA rfl T.z_len (bY sV)))) (cT AA) (bK (dZ (iL (gA (pT g.calm rfl T.z_all (jM g.calm (iC (N:=["_law_one"]) (os:=(bJ sW)) (oN:=Bx)) (mF (cI sV sV)) (λ_ _ _=>(cT z1f)) (λ_ _ _=>jL) (λ_ _ _=>(cM (fK g) (z2e T) T.d__law_whole (bY sV))))))) (bG (cH gG)) dY) (bK (dZ (kN g (LJ rfl T.z_list (bY (cI sV sV))) (z03 rfl T.z_sorted (bY (cI sV sV)))) (bG (cH gG)) dY) (bG (gZ g.own g.calm (mF (cI sV sV)) (cT AA) (bK (dZ (z10 sV sV) (bG (cH gG)) dY) (bG (z12 sV sV sV)))))))) (bK (dZ (kN g (z14 g rfl T.z_sorted (bY sV)) (EF g rfl T.z_list rfl T.z_range (bY (cI sV bD)))) (bG (cH gG)) dY) (bK (gZ g.own g.calm (gY rfl T.z_range (bY (cI sV bD))) (cT AA) (bG (dZ (kN g (rQ (jM g.calm (iC (N:=["_law_b","_law_a","_law_order_here","_law_kind"]) (os:=(bJ sW)) (oN:=Bx)) (gY rfl T.z_range (bY (cI sV bD))) (λ_ _ _=>(cT z1g)) (λ_ _ _=>(pR (kN (fK g) (DN (fK g) (fH (bW sV sV)) (cI sV bD)) (yQ (fK g) (N5 sV sV) (N5 sV sV))))) (λ_ _ _=>sV))) (fR iD)) (bG (cH gG)) dY))) (bG (cH gG))))))))
theorem z33:Cb Bv ["_law_script"] (bJ zW):=eG
theorem z34(T:Tx K mg G A)(hT:∀μ n H k t a,True->G.clo μ n H k t a)(hq:((("law":Str)++".<locals>.")++"<lambda>")=G.lq)(Z:Tz base mg G.tabs A):Cg P w K mg base (cA P w base) 16 A.f_q7 A.fd_q7 ["_law_script"] (cW G (zJ G.scr)):=ZK (k:=15) (N:=Bv) (mb:=zI G.scr) T.d_law.F z33 T.hK λcdv Ar outer s H E₀ E hcd g=>(bK (gZ g.own g.calm (gY rfl T.z_range (bY (J1 g.calm rfl T.z_max (bW bD (WK g.calm rfl T.z_min (bW (JZ rfl T.z_len (bY (fQ 0))) bD)))))) (cT (i:=1) nQ) (bK (dG (i:=2) nQ (cM g (z2i T) T.d__law_state (bW (fQ 0) (fQ 1)))) (bK (dG (i:=3) nQ (cM g (z2k T) T.d__law_sizes (bY (fQ 2)))) (bK (dZ (Y5 (ZU g.calm rfl T.z_sum (bY (fQ 3))) bD) (bG (dG (i:=3) nQ (fR (bY (jQ bD (cM g (jT T) T.d__law_take (bW (fQ 2) bD))))))) dY) (bK (gZ g.own g.calm (oE (fR (bW (cM g (z2m T) T.d__law_order (bW (fQ 2) bD)) (cM g (z2y T) T.d__law_renamed (bW (fQ 2) (cM g (z2q T) T.d__law_of_sizes (bW (fQ 3) gG))))))) (cT (i:=4) nQ) (bK (dG (i:=5) nQ (cM g (z30 T) T.d__law_bar (bY (fQ 4)))) (bG (gZ g.own g.calm (gY rfl T.z_range (bY bD)) (cT (i:=6) nQ) (bK (dG (i:=7) nQ (cM g (OL T) T.d_levels_or_bar (bY (fQ 4)))) (bK (dZ (Hw (pL (iL (gA (pY rfl T.z_isinstance rfl T.z_tuple (fQ 7)))) (pK (kN g (kA rfl T.z_len (bY (fQ 7))) bD)))) (bG (cH gG)) dY) (bK (dZ (Hw (lC (Z0 (fQ 5) pI) (nZ (iL (gA (cM g (FQ T 6) T.d__law_same (bW (fQ 7) (fH (bW rE (fQ 5)))))))))) (bG (cH gG)) dY) (bK (dZ (Hw (lC (DO (fQ 5) pI) (nZ (iL (gA (cM g (FQ T 6) T.d__law_same (bW (cI (fQ 7) bD) rE))))))) (bG (cH gG)) dY) (bK (dZ (Hw (lC (DO (fQ 5) pI) (nZ (iL (gA (cM g (z32 T) T.d__law_are_levels (bW (fQ 4) (cI (fQ 7) bD)))))))) (bG (cH gG)) dY) (bG (dZ (DO (fQ 5) pI) (bG (lD (z05 (cI (fQ 7) bD) bD))) dY))))))))))) (bK (dG (i:=8) nQ (cM g (z2t T) T.d__law_bad_order (bY (fQ 2)))) (bG (dZ (kN g (z09 (Nl:=["_law_none"]) (caps:=[8]) (me:=vG) (os:=bJ zW) (oN:=Bv) g (j:=12+2) (by decide) (λ_=>rfl) (λbase kb=>z2w (k:=12) T ⟨rfl,rfl,rfl,by decide+kernel,by decide+kernel,by decide+kernel⟩ (λ_ _ _ _=>rfl) (λ_ _ _ _ _ _ _ _ _ g=>(cM g (OL T) T.d_levels_or_bar (bY (fQ 0))))) rfl T.d__law_refused.m T.d__law_refused.F.kp T.d__law_refused.B rfl hq (Z.P_law.trans (congrArg some hq)) (hcd.symm.trans T.code_law) Z.C_law Z.B ⟨rfl,rfl,rfl,by decide+kernel,by decide+kernel,by decide+kernel⟩ rfl rfl (by decide+kernel) rfl (by decide+kernel)) (zC 2)) (bG (cH gG)) dY)))))))) (bG (cH gG)))
theorem z35(T:Tx K mg G A)(hT:∀μ n H k t a,True->G.clo μ n H k t a)(Z:Tz base mg G.tabs A):Cg P w K mg base (cA P w base) 16 A.f_q7 A.fd_q7 ["_law_script"] (cW G (zJ G.scr)):=Cg.imp (z34 (G:=G.at ((("law":Str)++".<locals>.")++"<lambda>")) T.at hT rfl Z) λ_ _ _ _ h=>Y0 h
end
end L2.Mr.K72
namespace L2.Mr
theorem vL{α:Type}{src:Src}{sg:eB}{t:M Bool}{m:MC}(xs:List α)(out:α->Bt)(S:Ev->Hs->Prop)(fin:∀ρ h,S ρ h->src.fin h=true)(step:∀k(hk:k<xs.length)ρ h,S ρ h->∃d ρ1,src.get k h=some d/\sg d ρ=some ρ1/\
   ((∃h2,t ρ1 h=.ok false h2/\out xs[k]=[]/\S ρ1 h2)∨∃h2,t ρ1 h=.ok true h2/\∀acc:Bt,acc.length+(out xs[k]).length<=900000->∃ρ3 h3,m ρ1 h2 acc=.ok (ρ3,acc++out xs[k]) h3/\S ρ3 h3)):
  ∀(f k:Nat)(ρ:Ev)(h:Hs)(acc:Bt),f+k=xs.length->S ρ h->acc.length+((xs.drop k).flatMap out).length<=900000->∃ρ' h',hJ src sg t m f k ρ h acc=.ok (ρ',acc++(xs.drop k).flatMap out) h'/\S ρ' h'
 |0,k,ρ,h,acc,e,s,hl=>by have:xs.drop k=[]:=Ah (by lia);exact⟨ρ,h,by simp[hJ,fin ρ h s,this],s⟩
 |f+1,k,ρ,h,acc,e,s,hl=>by
  have hk:k<xs.length:=by lia
  obtain⟨d,ρ1,e1,e2,e3⟩:=step k hk ρ h s;rw[sf hk,jc]at hl⊢;rw[cz]at hl
  rcases e3 with⟨h2,e3,e4,s2⟩|⟨h2,e3,e4⟩
  ·obtain⟨ρ',h',e5,s5⟩:=vL xs out S fin step f (k+1) ρ1 h2 acc (by lia) s2 (by lia);exact⟨ρ',h',by simp[hJ,e1,e2,e3,e4,e5],s5⟩
  ·obtain⟨ρ3,h3,e6,s3⟩:=e4 acc (by lia);obtain⟨ρ',h',e5,s5⟩:=vL xs out S fin step f (k+1) ρ3 h3 (acc++out xs[k]) (by lia) s3 (by rw[cz];lia);exact⟨ρ',h',by simp[hJ,e1,e2,e3,e6,e5],s5⟩
theorem AB{α:Type}{mi:M Src}{cap:List (Option Nat)}{src:Src}{sg:eB}{t:M Bool}{m:MC}{ρ:Ev}{H H1:Hs}(xs:List α)(out:α->Bt)(S:Ev->Hs->Prop)(hi:mi ρ H=.ok src H1)(hn:src.n=xs.length)(s0:S (mG cap ρ) H1)(fin:∀ρ h,S ρ h->src.fin h=true)(step:∀k(hk:k<xs.length)ρ h,S ρ h->∃d ρ1,src.get k h=some d/\sg d ρ=some ρ1/\
   ((∃h2,t ρ1 h=.ok false h2/\out xs[k]=[]/\S ρ1 h2)∨∃h2,t ρ1 h=.ok true h2/\∀acc:Bt,acc.length+(out xs[k]).length<=900000->∃ρ3 h3,m ρ1 h2 acc=.ok (ρ3,acc++out xs[k]) h3/\S ρ3 h3))(hl:(xs.flatMap out).length<=900000):∃ρ' H',cR mi cap sg t m ρ H=.ok (xs.flatMap out) H'/\S ρ' H':=by
 obtain⟨ρ',h',e,s⟩:=vL xs out S fin step xs.length 0 (mG cap ρ) H1 [] (by lia) s0 (by simpa using hl);refine⟨ρ',h',?_,s⟩;unfold cR;rw[hi,Rs.bind_ok,hn,e];simp
theorem AD{e:M Dv}{ρ:Ev}{h h1:Hs}{d:Dv}{acc:Bt}(he:e ρ h=.ok d h1)(hl:acc.length+[d].length<=900000):cG e ρ h acc=.ok (ρ,acc++[d]) h1:=by
 have:acc.length<1000000:=by simp at hl;lia
 simp[cG,he,this]
theorem iT{α:Type}{mi:M Src}{cap:List (Option Nat)}{src:Src}{sg:eB}{t:M Bool}{e:M Dv}{ρ:Ev}{H H1:Hs}(xs:List α)(g:α->Bu)(S:Ev->Prop)(hi:mi ρ H=.ok src H1)(hn:src.n=xs.length)(s0:S (mG cap ρ))(fin:src.fin H1=true)(step:∀k(hk:k<xs.length)ρ,S ρ->∃d ρ1,src.get k H1=some d/\sg d ρ=some ρ1/\S ρ1/\match g xs[k]with
   |none=>t ρ1 H1=.ok false H1
   |some v=>t ρ1 H1=.ok true H1/\e ρ1 H1=.ok v H1)(hl:xs.length<=900000):cR mi cap sg t (cG e) ρ H=.ok (xs.filterMap g) H1:=by
 have fm:∀l:List α,l.flatMap (λx=>(g x).toList)=l.filterMap g:=λl=>by
  induction l with
  |nil=>rfl
  |cons x l ih=>rw[jc,ih,cu];cases g x<;>rfl
 have len:(xs.filterMap g).length<=xs.length:=td g xs;obtain⟨ρ',H',h,_,rfl⟩:=AB (mi:=mi) (cap:=cap) (src:=src) (sg:=sg) (t:=t) (m:=cG e) (ρ:=ρ) (H:=H) (H1:=H1) xs (λx=>(g x).toList) (λρ h=>S ρ/\h=H1) hi hn ⟨s0,rfl⟩ (λρ h s=>by rw[s.2];exact fin)
  (λk hk ρ h⟨s,e1⟩=>by
   subst e1;obtain⟨d,ρ1,e1,e2,s1,e3⟩:=step k hk ρ s;refine⟨d,ρ1,e1,e2,?_⟩
   cases q:g xs[k]with
   |none=>rw[q]at e3;exact .inl ⟨h,e3,rfl,s1,rfl⟩
   |some v=>rw[q]at e3;exact .inr ⟨h,e3.1,λacc hl=>⟨ρ1,h,AD e3.2 hl,s1,rfl⟩⟩) (by rw[fm];lia)
 rw[h,fm]
theorem z36{α β:Type}{mi mj:M Src}{cap:List (Option Nat)}{src:Src}{sg sg2:eB}{t2:M Bool}{e:M Dv}{ρ:Ev}{H H1:Hs}(xs:List α)(ys:α->List β)(g:α->β->Bu)(S:Ev->Prop)(hi:mi ρ H=.ok src H1)(hn:src.n=xs.length)(s0:S (mG cap ρ))(fin:src.fin H1=true)(step:∀k(hk:k<xs.length)ρ,S ρ->∃(d:Dv)(ρ1:Ev)(src2:Src)(S2:Ev->Prop),src.get k H1=some d/\sg d ρ=some ρ1/\S2 ρ1/\(∀ρ,S2 ρ->S ρ)/\mj ρ1 H1=.ok src2 H1/\src2.n=(ys xs[k]).length/\src2.fin H1=true/\
   ∀j(hj:j<(ys xs[k]).length)ρ,S2 ρ->∃d ρ2,src2.get j H1=some d/\sg2 d ρ=some ρ2/\S2 ρ2/\match g xs[k] (ys xs[k])[j]with
    |none=>t2 ρ2 H1=.ok false H1
    |some v=>t2 ρ2 H1=.ok true H1/\e ρ2 H1=.ok v H1)(hl:(xs.flatMap λx=>(ys x).filterMap (g x)).length<=900000):cR mi cap sg dP (gQ mj sg2 t2 (cG e)) ρ H=.ok (xs.flatMap λx=>(ys x).filterMap (g x)) H1:=by
 have fm:∀(x:α)(l:List β),l.flatMap (λy=>(g x y).toList)=l.filterMap (g x):=λx l=>by
  induction l with
  |nil=>rfl
  |cons y l ih=>rw[jc,ih,cu];cases g x y<;>rfl
 obtain⟨ρ',H',h,_,rfl⟩:=AB (mi:=mi) (cap:=cap) (src:=src) (sg:=sg) (t:=dP) (m:=gQ mj sg2 t2 (cG e)) (ρ:=ρ) (H:=H) (H1:=H1) xs (λx=>(ys x).filterMap (g x)) (λρ h=>S ρ/\h=H1) hi hn ⟨s0,rfl⟩ (λρ h s=>by rw[s.2];exact fin)
  (λk hk ρ h⟨s,e1⟩=>by
   subst e1;obtain⟨d,ρ1,src2,S2,e1,e2,s1,sS,e3,e4,e5,e6⟩:=step k hk ρ s;refine⟨d,ρ1,e1,e2,.inr ⟨h,rfl,λacc hl=>?_⟩⟩;obtain⟨ρ3,h3,r,s3,rfl⟩:=vL (src:=src2) (sg:=sg2) (t:=t2) (m:=cG e) (ys xs[k]) (λy=>(g xs[k] y).toList) (λρ hh=>S2 ρ/\hh=h) (λρ hh s=>by rw[s.2];exact e5)
    (λj hj ρ hh⟨s,e1⟩=>by
     subst e1;obtain⟨d,ρ2,z1,z2,z3,z4⟩:=e6 j hj ρ s;refine⟨d,ρ2,z1,z2,?_⟩
     cases q:g xs[k] (ys xs[k])[j]with
     |none=>rw[q]at z4;exact .inl ⟨hh,z4,rfl,z3,rfl⟩
     |some v=>rw[q]at z4;exact .inr ⟨hh,z4.1,λacc hl=>⟨ρ2,hh,AD z4.2 hl,z3,rfl⟩⟩) (ys xs[k]).length 0 ρ1 h acc (by lia) ⟨s1,rfl⟩ (by rw[List.drop_zero,fm];exact hl)
   refine⟨ρ3,h3,?_,sS ρ3 s3,rfl⟩;unfold gQ;rw[e3];dsimp only;rw[e4,r,List.drop_zero,fm]) hl
 exact h
theorem z37{c:M Bool}{b:MS}{f:Nat}{ρ:Ev}{h h1:Hs}(e:c ρ h=.ok false h1):lG c b (f+1) ρ h=.nx ρ h1:=by show(c ρ h).thenS _=_;rw[e];rfl
theorem z38{c:M Bool}{b:MS}{f:Nat}{ρ ρ2:Ev}{h h1 h2:Hs}(e:c ρ h=.ok true h1)(q:b ρ h1=.nx ρ2 h2):lG c b (f+1) ρ h=lG c b f ρ2 h2:=by show(c ρ h).thenS _=_;rw[e];simp[Rs.thenS,q]
theorem AE:∀bs:List Bool,cD lF (bs.map Hu)=some bs
 |[]=>rfl
 |b::bs=>by rw[cy,cD,AE bs];rfl
end L2.Mr
namespace L2.Mr.Com
def bA(n:Nat)(ps:wo):Dv:=.tup [.int n,.tup (ps.map aM)]
theorem z39{n:Nat}{ps:wo}(H:Hs):aQ (bA n ps) (.int 1) H=.ok (.tup (ps.map aM)) H:=rfl
theorem sY{α:Type}{ml:M Bt}{ρ:Ev}{H H1:Hs}{xs:List α}{f:α->Bool}(h:ml ρ H=.ok (xs.filterMap λx=>some (.bl (f x))) H1):mL hV ml ρ H=.ok (.bl (xs.all f)) H1:=by
 have e:(xs.filterMap λx=>some (Hu (f x)))=(xs.map f).map Hu:=by simp
 unfold mL;rw[h,Rs.bind_ok,e];unfold hV;rw[AE];simp[List.all_map]
theorem z3a{α:Type}{ml:M Bt}{ρ:Ev}{H H1:Hs}{xs:List α}{f:α->Bool}(h:ml ρ H=.ok (xs.filterMap λx=>some (.bl (f x))) H1):mL uD ml ρ H=.ok (.bl (xs.any f)) H1:=by
 have e:(xs.filterMap λx=>some (Hu (f x)))=(xs.map f).map Hu:=by simp
 unfold mL;rw[h,Rs.bind_ok,e];unfold uD;rw[AE];simp[wx]
section
variable{H:Hs}{n x:Int}{ps:wo}
theorem OO:sM [.int x] H=.ok (.bl true) H:=by simp[sM,EG,bM,cN,aT,dM,m1,aD,bO,hO,pX,lJ,pM,bV]
theorem FR{lo hi:Int}:oS [.int x,.int lo,.int hi] H=.ok (.bl (decide (lo<=x)&&decide (x<=hi))) H:=by
 by_cases h:lo<=x
 ·simp[oS,yR,bM,cN,aT,dM,aH,aY,aD,aU,OO,rH,kM,jA,h,bV]
 ·simp[oS,yR,bM,cN,aT,dM,aH,aY,aD,aU,OO,rH,kM,jA,h,bV]
def isT(n x:Int):Bool:=decide (0<=x)&&decide (x<=n-1)
theorem OP:kS [.int n,.int x] H=.ok (.bl (isT n x)) H:=by simp[kS,EH,bM,cN,aT,aH,aY,aD,aU,mC,m2,jH,jA,FR,bV,isT]
theorem z3b{xs:y'}(hl:xs.length<=1000):oU [.int n,.tup (xs.map Hc)] H=.ok (.bl (xs.all (isT n))) H:=by have h:cR (cC fI (aD 1)) [none,some 0] (aI 0) dP (cG (aH kS (aJ (aD 1) (aD 0)))) [some (.int n),some (.tup (xs.map Hc))] H=.ok (xs.filterMap λx=>some (.bl (isT n x))) H:=iT xs (λx=>some (.bl (isT n x))) (λρ=>∃a,ρ=[a,some (.int n)]) rfl (by simp[cY]) ⟨_,rfl⟩ rfl (λk hk ρ⟨a,e⟩=>by subst e;exact⟨.int xs[k],_,by simp[cY,hk],rfl,⟨_,rfl⟩,rfl,by simp[aH,aY,aD,aU,OP]⟩) (by lia);simp[oU,yT,bM,cN,aT,dM,m1,bO,aD,hO,gR,sY h,bV]
def mR(n:Int)(p:Int×Int):Bool:=isT n p.1&&isT n p.2
theorem z3c(p:Int×Int):lO [.int n,aM p] H=.ok (.bl (mR n p)) H:=by
 have h:oU [.int n,aM p] H=.ok (.bl (mR n p)) H:=by have:=z3b (H:=H) (n:=n) (xs:=[p.1,p.2]) (by simp);simpa[aM,mR]using this
 have hlen:f1 cU [aM p] H=.ok (.int 2) H:=rfl
 cases q:mR n p with
 |false=>simp[lO,sN,bM,cN,aT,dM,aH,aY,aD,aU,h,q,bV]
 |true=>simp[lO,sN,bM,cN,aT,dM,aH,aY,aD,aU,h,q,bV,m2,hlen,mC,cP,cK,bS,bU]
theorem z3d(hl:ps.length<=1000):sO [.int n,.tup (ps.map aM)] H=.ok (.bl (ps.all (mR n))) H:=by have h:cR (cC fI (aD 1)) [none,some 0] (aI 0) dP (cG (aH lO (aJ (aD 1) (aD 0)))) [some (.int n),some (.tup (ps.map aM))] H=.ok (ps.filterMap λp=>some (.bl (mR n p))) H:=iT ps (λp=>some (.bl (mR n p))) (λρ=>∃a,ρ=[a,some (.int n)]) rfl (by simp[cY]) ⟨_,rfl⟩ rfl (λk hk ρ⟨a,e⟩=>by subst e;exact⟨aM ps[k],_,by simp[cY,hk],rfl,⟨_,rfl⟩,rfl,by simp[aH,aY,aD,aU,z3c]⟩) (by lia);simp[sO,EI,bM,cN,aT,sY h,bV]
theorem z3e(hl:ps.length<=1000):yU [.tup (ps.map aM)] H=.ok (.bl (ps.any λp=>decide (p.1=p.2))) H:=by have h:cR (cC fI (aD 0)) [none,none] (gI 2 (dH (aI 0) (dH (aI 1) gJ))) dP (cG (m2 cP (aD 0) (aD 1))) [some (.tup (ps.map aM))] H=.ok (ps.filterMap λp=>some (.bl (decide (p.1=p.2)))) H:=iT ps (λp=>some (.bl (decide (p.1=p.2)))) (λρ=>∃a b,ρ=[a,b]) rfl (by simp[cY]) ⟨_,_,rfl⟩ rfl (λk hk ρ⟨a,b,e⟩=>by subst e;refine⟨aM ps[k],[some (.int ps[k].1),some (.int ps[k].2)],by simp[cY,hk],rfl,⟨_,_,rfl⟩,rfl,?_⟩;simp[m2,aD,cP,cK,bS,bU];rw[fv];simp) (by lia);simp[yU,NT,bM,cN,aT,z3a h,bV]
theorem z3f(p q:Int×Int):fO (aM p) (aM q) H=.ok (.bl (gM p q)) H:=by simp only[fO,aM,cD,hW,NP];rw[<-uU];rfl
def mS(ps:wo):Bool:=(ps.zip (ps.drop 1)).all λq=>gM q.1 q.2
theorem Fc:∀{ps:wo},mS ps=true↔jI gM ps
 |[]=>by simp[mS,jI]
 |[p]=>by simp[mS,jI]
 |p::q::r=>by
  have ih:=Fc (ps:=q::r);have e:mS (p::q::r)=(gM p q&&mS (q::r)):=by simp[mS]
  rw[e,fg,ih];constructor
  ·rintro ⟨h1,h2⟩
   refine dz.mpr ⟨λz hz=>?_,h2⟩
   rcases bc.mp hz with rfl|hz
   ·exact h1
   ·exact stoP.tr _ _ _ h1 ((dz.mp h2).1 z hz)
  ·intro h;have:=dz.mp h;exact⟨this.1 q (by simp),this.2⟩
theorem z3g(ds:Bt):oM ds (some 1) none=ds.drop 1:=by
 unfold oM;rw[show HT.sIx ds.length 0 (some 1)=min 1 ds.length from HT.sIx_nat ds.length 0 1,HT.sIx_none]
 cases ds with
 |nil=>rfl
 |cons a r=>simp
theorem z3h(hl:ps.length<=1000):yS [.tup (ps.map aM)] H=.ok (.bl (mS ps)) H:=by
 have hi:aX oH (aJ (aD 0) (uW (aD 0) (uK (aG 1)) uJ)) [some (.tup (ps.map aM))] H=.ok (oG (ps.map aM) ((ps.drop 1).map aM)) H:=by simp[aX,aY,aD,uW,uK,mC,LD,uJ,yP,aU,oH,z3g,qi]
 have hz:((ps.map aM).zip ((ps.drop 1).map aM)).map (λq=>Ia [q.1,q.2])=(ps.zip (ps.drop 1)).map λq=>Ia [aM q.1,aM q.2]:=by rw[List.zip_map,kg];rfl
 have h:cR (aX oH (aJ (aD 0) (uW (aD 0) (uK (aG 1)) uJ))) [none,none] (gI 2 (dH (aI 0) (dH (aI 1) gJ))) dP (cG (m2 fO (aD 0) (aD 1))) [some (.tup (ps.map aM))] H=.ok ((ps.zip (ps.drop 1)).filterMap λq=>some (.bl (gM q.1 q.2))) H:=
  iT (ps.zip (ps.drop 1)) (λq=>some (.bl (gM q.1 q.2))) (λρ=>∃a b,ρ=[a,b]) hi (by simp[oG,cY]) ⟨_,_,rfl⟩ rfl (λk hk ρ⟨a,b,e⟩=>by
   subst e;refine⟨.tup [aM (ps.zip (ps.drop 1))[k].1,aM (ps.zip (ps.drop 1))[k].2],[some (aM (ps.zip (ps.drop 1))[k].1),some (aM (ps.zip (ps.drop 1))[k].2)],?_,rfl,⟨_,_,rfl⟩,rfl,?_⟩
   ·show(((ps.map aM).zip ((ps.drop 1).map aM)).map (λq=>Ia [q.1,q.2]))[k]?=_;rw[hz,dm,bo hk];rfl
   ·simp only[m2,aD];exact z3f _ _) (by rw[List.length_zip];lia)
 simp[yS,NS,bM,cN,aT,sY h,bV,mS]
def vM(ps:wo):Bool:=ps.all λp=>ps.all λq=>!decide (p.2=q.1)||decide ((p.1,q.2)∈ps)
theorem z3i(hl:ps.length<=900):yV [.tup (ps.map aM)] H=.ok (.bl (vM ps)) H:=by
 let g:Int×Int->Int×Int->Bu:=λp q=>if p.2=q.1 then some (.bl (decide ((p.1,q.2)∈ps)))else none
 have h:cR (cC fI (aD 0)) [none,none,none,none,some 0] (gI 2 (dH (aI 0) (dH (aI 1) gJ))) dP (gQ (cC fI (aD 4)) (gI 2 (dH (aI 2) (dH (aI 3) gJ))) (mB (m2 cP (aD 1) (aD 2))) (cG (m2 (dX false) (aO (aJ (aD 0) (aD 3))) (aD 4)))) [some (.tup (ps.map aM))] H=.ok (ps.flatMap λp=>ps.filterMap (g p)) H:=
  z36 ps (λ_=>ps) g (λρ=>∃a b c d,ρ=[a,b,c,d,some (.tup (ps.map aM))]) rfl (by simp[cY]) ⟨_,_,_,_,rfl⟩ rfl (λk hk ρ⟨a,b,c,d,e⟩=>by
   subst e;refine⟨aM ps[k],[some (.int ps[k].1),some (.int ps[k].2),c,d,some (.tup (ps.map aM))],cY (ps.map aM),λρ=>∃c d,ρ=[some (.int ps[k].1),some (.int ps[k].2),c,d,some (.tup (ps.map aM))],by simp[cY,hk],rfl,⟨_,_,rfl⟩,λρ⟨c,d,e⟩=>⟨_,_,_,_,e⟩,rfl,by simp[cY],rfl,λj hj ρ⟨c,d,e⟩=>?_⟩;subst e;refine⟨aM ps[j],[some (.int ps[k].1),some (.int ps[k].2),some (.int ps[j].1),some (.int ps[j].2),some (.tup (ps.map aM))],by simp[cY,hj],rfl,⟨_,_,rfl⟩,?_⟩;have te:mB (m2 cP (aD 1) (aD 2)) [some (.int ps[k].1),some (.int ps[k].2),some (.int ps[j].1),some (.int ps[j].2),some (.tup (ps.map aM))] H=.ok (decide (ps[k].2=ps[j].1)) H:=by simp[mB,m2,aD,cP,cK,bS,bU,fU];rw[fv];simp
   by_cases c1:ps[k].2=ps[j].1
   ·rw[decide_eq_true c1]at te;have hg:g ps[k] ps[j]=some (.bl (decide ((ps[k].1,ps[j].2)∈ps))):=if_pos c1;rw[hg];refine⟨te,?_⟩;have hx:aO (aJ (aD 0) (aD 3)) [some (.int ps[k].1),some (.int ps[k].2),some (.int ps[j].1),some (.int ps[j].2),some (.tup (ps.map aM))] H=.ok (aM (ps[k].1,ps[j].2)) H:=rfl;unfold m2;rw[hx,Rs.bind_ok];show(Ht (Ia (ps.map aM)) H).bind _=_;rw[Rs.bind_ok,qC];rfl
   ·rw[decide_eq_false c1]at te;have hg:g ps[k] ps[j]=none:=if_neg c1;rw[hg];exact te) (by
   have:∀l:wo,(l.flatMap λp=>ps.filterMap (g p)).length<=l.length*ps.length:=λl=>by
    induction l with
    |nil=>simp
    |cons p l ih=>
     rw[jc,cz,cm,As];have:=td (g p) ps
     lia
   have h2:=this ps;have h3:ps.length*ps.length<=900*900:=zq hl hl
   lia)
 have hb:(ps.flatMap λp=>ps.filterMap (g p))=(ps.flatMap λp=>ps.filterMap λq=>if p.2=q.1 then some (decide ((p.1,q.2)∈ps))else none).map Hu:=by
  rw[List.map_flatMap]
  congr 1
  funext p
  rw[List.map_filterMap]
  congr 1
  funext q
  show(if p.2=q.1 then some (Hu (decide ((p.1,q.2)∈ps)))else none)=_
  split<;>rfl
 have hall:mL hV (cR (cC fI (aD 0)) [none,none,none,none,some 0] (gI 2 (dH (aI 0) (dH (aI 1) gJ))) dP (gQ (cC fI (aD 4)) (gI 2 (dH (aI 2) (dH (aI 3) gJ))) (mB (m2 cP (aD 1) (aD 2))) (cG (m2 (dX false) (aO (aJ (aD 0) (aD 3))) (aD 4))))) [some (.tup (ps.map aM))] H=.ok (.bl (vM ps)) H:=by
  unfold mL;rw[h,Rs.bind_ok,hb];unfold hV;rw[AE];dsimp only
  congr 2
  rw[fv];unfold vM;simp only[iw,uc,mf,id];constructor
  ·intro h p hp q hq
   by_cases c:p.2=q.1
   ·have:=h (decide ((p.1,q.2)∈ps)) ⟨p,hp,q,hq,if_pos c⟩;simp[c,this]
   ·simp[c]
  ·rintro h b ⟨p,hp,q,hq,e⟩
   have:=h p hp q hq
   by_cases c:p.2=q.1
   ·rw[if_pos c]at e;cases e;simpa[c]using this
   ·rw[if_neg c]at e;cases e
 simp[yV,NU,bM,cN,aT,hall,bV]
def sZ(n:Int)(ps:wo):Bool:=decide (1<=n)&&decide (n<=6)&&ps.all (mR n)&&mS ps&&!(ps.any λp=>decide (p.1=p.2))&&vM ps
theorem OQ{n:Int}(hl:ps.length<=900):jS [.tup [.int n,.tup (ps.map aM)]] H=.ok (.bl (sZ n ps)) H:=by
 have b:=FR (H:=H) (x:=n) (lo:=1) (hi:=6);have p1:=z3d (H:=H) (n:=n) (ps:=ps) (by lia);have p2:=z3h (H:=H) (ps:=ps) (by lia);have p3:=z3e (H:=H) (ps:=ps) (by lia);have p4:=z3i (H:=H) (ps:=ps) hl;have hlen:f1 cU [.tup [.int n,.tup (ps.map aM)]] H=.ok (.int 2) H:=rfl;unfold sZ;generalize (decide (1<=n)&&decide (n<=6))=c0 at b⊢;generalize ps.all (mR n)=c1 at p1⊢;generalize mS ps=c2 at p2⊢;generalize (ps.any λp=>decide (p.1=p.2))=c3 at p3⊢;generalize vM ps=c4 at p4⊢
 cases c0<;>cases c1<;>cases c2<;>cases c3<;>cases c4<;>
  simp[jS,qF,bM,cN,aL,bF,fV,cQ,bN,m1,bO,aD,hO,gR,fZ,mB,m2,aH,aY,aU,hlen,mC,bZ,cK,bS,bU,fU,bP,aR,gI,dH,aI,gJ,b,p1,p2,p3,p4,aT,dM,pM,bV]
end
structure Ck(n:Nat)(ps:wo):Prop where
 n1:1<=n
 n6:n<=6
 rng:∀p∈ps,0<=p.1/\p.1<n/\0<=p.2/\p.2<n
 rise:jI gM ps
 irr:∀p∈ps,p.1≠p.2
 tr:∀p∈ps,∀q∈ps,p.2=q.1->(p.1,q.2)∈ps
section
variable{n:Nat}{ps:wo}{H:Hs}
def vN(n:Nat):wo:=(az n).flatMap λa:Nat=>(az n).map λb:Nat=>((a:Int),(b:Int))
theorem OR(n:Nat):(vN n).length=n*n:=by
 unfold vN;have:∀l:A',(l.flatMap λa:Nat=>(az n).map λb:Nat=>((a:Int),(b:Int))).length=l.length*n:=λl=>by
  induction l with
  |nil=>simp
  |cons a l ih=>rw[jc,cz,ih,cm,As];simp;lia
 rw[this];simp
theorem z3j{p:Int×Int}(h:0<=p.1/\p.1<n/\0<=p.2/\p.2<n):p∈vN n:=by obtain⟨a,b⟩:=p;simp only at h;refine uc.mpr ⟨a.toNat,br.mpr (by lia),bz.mpr ⟨b.toNat,br.mpr (by lia),?_⟩⟩;simp;lia
theorem z3k(hr:jI gM ps)(hp:∀p∈ps,0<=p.1/\p.1<n/\0<=p.2/\p.2<n):ps.length<=n*n:=by rw[<-OR n];exact(oP stoP hr).length_le_of_subset λp h=>z3j (hp p h)
theorem Ck.len(o:Ck n ps):ps.length<=36:=by
 have h1:=z3k o.rise o.rng;have h2:n*n<=6*6:=zq o.n6 o.n6
 lia
theorem Ck.b(o:Ck n ps):sZ n ps=true:=by
 have h1:=o.n1;have h6:=o.n6;unfold sZ;simp only[fg,decide_eq_true_eq,Bool.not_eq_true'];refine⟨⟨⟨⟨⟨by lia,by lia⟩,?_⟩,Fc.mpr o.rise⟩,?_⟩,?_⟩
 ·refine iw.mpr λp hp=>?_;have:=o.rng p hp;simp[mR,isT];lia
 ·refine List.any_eq_false.mpr λp hp=>?_;simpa using o.irr p hp
 ·refine iw.mpr λp hp=>iw.mpr λq hq=>?_
  by_cases c:p.2=q.1
  ·simp[c,o.tr p hp q hq c]
  ·simp[c]
theorem z3l(o:Ck n ps):jS [bA n ps] H=.ok (.bl true) H:=by have:=OQ (H:=H) (n:=(n:Int)) (ps:=ps) (by have:=o.len;lia);rw[o.b]at this;exact this
end
theorem z3m(H:Hs)(n:Nat)(a:Int)(b:Bool)(m:Int)(h0:0<m)(h1:m<18446744073709551616)(e:getL H n=some [.int a,.bl b]):
  ∃r a',0<=r/\r<m/\cZ [.ref n,.int m] H=.ok (.int r) (H.set n (.lst [.int a',.bl b])):=by
 cases b with
 |true=>refine⟨a%m,a/m,Int.emod_nonneg _ (by lia),Int.emod_lt_of_pos _ h0,?_⟩;simp[cZ,EJ,bM,cN,aL,bF,bN,m2,aD,mC,aQ,eF,eV,e,gB,dU,dS,fZ,aR,iR,mE,rL,h0,aI,uE,uP,uO,h1,xM,aT,bV]
 |false=>
  have q1:∀ys,getL (H.set n (.lst ys)) n=some ys:=λys=>lL e;generalize hs:(a*48271+29)%2147483647=s;have s0:0<=s:=by lia
  have s1:s<2147483647:=by lia
  generalize ht:(s*s+39373*s+7)%2147483629=t;have t0:0<=t:=by lia
  have t1:t<2147483629:=by lia
  generalize hu:(t*t+16807*t)%2147483587=u;refine⟨u/8%m,s,Int.emod_nonneg _ (by lia),Int.emod_lt_of_pos _ h0,?_⟩;have w1:jW s=true:=by simp[jW];lia
  have w2:jW t=true:=by simp[jW];lia
  have w3:jW 48271=true:=by decide
  have w4:jW 39373=true:=by decide
  have w5:jW 16807=true:=by decide
  simp[cZ,EJ,bM,cN,aL,bF,bN,m2,aD,mC,aQ,eF,eV,e,gB,dU,dS,fZ,aR,iR,mE,rL,h0,aI,uE,uP,uO,h1,xM,aT,bV,bP,cV,mY,pV,xC,w1,w2,w3,w4,w5,q1,hs,ht,hu]
def St(n:Nat)(H:Hs):Prop:=∃a b,getL H n=some [.int a,.bl b]
theorem St.fr{n:Nat}{S:A'}{H H':Hs}(s:St n H)(f:Fr S H H')(h:n∉S):St n H':=let ⟨a,b,e⟩:=s;⟨a,b,f.getL e h⟩
theorem pC{H:Hs}{n:Nat}(m:Int)(s:St n H)(h0:0<m:=by decide)(h1:m<18446744073709551616:=by decide):
  ∃r H',0<=r/\r<m/\cZ [.ref n,.int m] H=.ok (.int r) H'/\Fr [n] H H'/\St n H':=by
 obtain⟨a,b,e⟩:=s;obtain⟨r,a',r0,r1,ht⟩:=z3m H n a b m h0 h1 e;exact⟨r,_,r0,r1,ht,Ho,a',b,lL e⟩
theorem qO{ρ:Ev}{i n:Nat}{H:Hs}(m:Int)(s:St n H)(hρ:ρ[i]?=some (some (.ref n)))(h0:0<m:=by decide)(h1:m<18446744073709551616:=by decide):
  ∃r H',0<=r/\r<m/\aH cZ (aJ (aD i) (aG m)) ρ H=.ok (.int r) H'/\Fr [n] H H'/\St n H':=by
 obtain⟨r,H',r0,r1,ht,f,s'⟩:=pC m s h0 h1;refine⟨r,H',r0,r1,?_,f,s'⟩;simp[aH,aY,aD,hρ,mC,aU,ht]
theorem z3n(scr:y')(k:Nat)(h:Hs):∃H',qG scr [.scr,.int k] h=.ok (.ref h.length) H'/\Fr [] h H'/\St h.length H':=by
 have cell:∃c,uX scr [.scr,.int k] h=.ok (.int c) h:=by
  by_cases hk:k<scr.length
  ·refine⟨scr[k],?_⟩;have Du:(k:Int)<scr.length:=by lia
   simp[uX,yW,bM,cN,aL,bF,mB,m2,aD,mC,fO,aH,f1,gX,gH,aY,aU,fU,Du,hk,eV,gB,dU,dS,aT,bV]
  ·refine⟨0,?_⟩;have Du:¬(k:Int)<scr.length:=by lia
   simp[uX,yW,bM,cN,aL,bF,mB,m2,aD,mC,fO,aH,f1,gX,gH,aY,aU,fU,Du,hk,eV,gB,dU,dS,aT,bV,bP]
 obtain⟨c,hc⟩:=cell;have fin:∀a b,Fr [] h (h++[Hd [.int a,.bl b]])/\St h.length (h++[Hd [.int a,.bl b]]):=λa b=>⟨He,a,b,by rw[ZQ];rfl⟩
 by_cases hg:c>=1000000000000000000
 ·refine⟨_,?_,fin (c-1000000000000000000) true⟩;simp[qG,yX,bM,cN,aL,aR,aH,aY,aD,aU,hc,aI,bF,mB,m2,xV,jA,uL,mE,tY,mC,fU,hg,aT,aZ,jH,lim,bV]
 ·refine⟨_,?_,fin (c%2147483647) false⟩;simp[qG,yX,bM,cN,aL,aR,aH,aY,aD,aU,hc,aI,bF,mB,m2,xV,jA,uL,mE,tY,mC,fU,hg,aT,aZ,jH,lim,bV,bP,iR,rL]
theorem St.lt{st:Nat}{H:Hs}(s:St st H):st<H.length:=let ⟨_,_,e⟩:=s;qB e
theorem z3o{H:Hs}{q:Nat}{ks:y'}(e:getL H q=some (ks.map Hc)):bZ (.ref q) (.ref H.length) (H++[.lst []])=.ok (.bl (!ks.isEmpty)) (H++[.lst []]):=by
 have p1:bS cK (H++[.lst []]) (.ref q)=some (.lst (ks.map Hv)):=by show bS (28+1+1) (H++[.lst []]) (.ref q)=_;rw[bS];simp only[fL (l:=[.lst []]) e,sD]
 have p2:bS cK (H++[.lst []]) (.ref H.length)=some (.lst []):=by
  show bS (28+1+1) (H++[.lst []]) (.ref H.length)=_;rw[bS];have:getL (H++[.lst []]) H.length=some []:=by simp[getL]
  simp only[this];rfl
 unfold bZ;rw[p1,p2]
 cases ks<;>simp[bU,fX]
def AF:M Bool:=mB (m2 bZ (aD 2) (aZ aU))
def AG:MS:=dN (gC (aD 3) (oK (aD 2) (aH cZ (aJ (aD 0) (aH (f1 cU) (aN (aD 2)))))))
section
variable{st a b:Nat}{d:Dv}
theorem OS(Ez:a≠b)(has:a≠st)(hbs:b≠st):∀(f:Nat)(ls fs:y')(H:Hs),ls.length<f->ls.length+fs.length<=100->getL H a=some (ls.map Hc)->getL H b=some (fs.map Hc)->St st H->
  ∃(H':Hs)(ys:y'),lG AF AG f [some (.ref st),some d,some (.ref a),some (.ref b)] H=.nx [some (.ref st),some d,some (.ref a),some (.ref b)] H'/\getL H' b=some (ys.map Hc)/\ys.Perm (fs++ls)/\St st H'/\Fr [st,a,b] H H'
 |0,ls,fs,H,h,_,_,_,_=>by lia
 |f+1,ls,fs,H,h,hl,ea,eb,s=>by
  have tc:AF [some (.ref st),some d,some (.ref a),some (.ref b)] H=.ok (!ls.isEmpty) (H++[.lst []]):=by simp[AF,mB,m2,aD,aZ,aU,lim,z3o ea,fU]
  have ea1:=fL (l:=[Hd []]) ea;have eb1:=fL (l:=[Hd []]) eb;have g1:Fr [st,a,b] H (H++[Hd []]):=He;have s1:=s.fr (He (S:=[]) (l:=[Hd []])) (by simp);generalize H++[Hd []]=H1 at tc ea1 eb1 g1 s1
  cases hls:ls with
  |nil=>subst hls;refine⟨H1,fs,?_,eb1,by simp,s1,g1⟩;exact z37 tc
  |cons x r=>
   have hne:ls.isEmpty=false:=by rw[hls];rfl
   have hpos:(0:Int)<ls.length:=by rw[hls];simp
   obtain⟨k,H2,k0,k1,ht,f2,s2⟩:=pC (ls.length:Int) s1 hpos (by lia);have ea2:=f2.getL ea1 (by simpa using has);have eb2:=f2.getL eb1 (by simpa using hbs);have hk:k.toNat<ls.length:=by lia
   have ixk:dS (ls.map Hc).length k=some k.toNat:=by unfold dS;rw[if_pos k0,bf,if_pos k1]
   have getk:(ls.map Hc)[k.toNat]?=some (.int ls[k.toNat]):=by simp[hk]
   have hlen:f1 cU [.ref a] H1=.ok (.int ls.length) H1:=by show(if eF (.ref a)=true then gX [] (.ref a) H1 else .bad)=_;simp[eF,gX,gH,ea1]
   have hz:(ls.map Hc).length<=1000000:=by rw[bf];lia
   have pop:rW (.ref a) (.int k) H2=.ok (.int ls[k.toNat]) (H2.set a (.lst ((ls.eraseIdx k.toNat).map Hc))):=by
    simp only[rW,ea2,ixk,getk,hz,if_true];have em:(ls.map Hc).eraseIdx k.toNat=(ls.eraseIdx k.toNat).map Hc:=by rw[pj,pj,je,sy,qi]
    rw[em]
   have eb3:getL (H2.set a (.lst ((ls.eraseIdx k.toNat).map Hc))) b=some (fs.map Hc):=by rw[LW Ez];exact eb2
   have ea3:getL (H2.set a (.lst ((ls.eraseIdx k.toNat).map Hc))) a=some ((ls.eraseIdx k.toNat).map Hc):=lL ea2;have f3:Fr [st,a,b] H2 (H2.set a (.lst ((ls.eraseIdx k.toNat).map Hc))):=Ho.mono (by simp);have s3:St st (H2.set a (.lst ((ls.eraseIdx k.toNat).map Hc))):=s2.fr Ho (by simpa using dg has);generalize hH3:H2.set a (.lst ((ls.eraseIdx k.toNat).map Hc))=H3 at pop eb3 ea3 f3 s3;have hfl:(fs.map Hc).length<1000000:=by rw[bf];lia
   have body:AG [some (.ref st),some d,some (.ref a),some (.ref b)] H1=.nx [some (.ref st),some d,some (.ref a),some (.ref b)] (H3.set b (.lst ((fs++[ls[k.toNat]]).map Hc))):=by
    have isA:jD (.ref a) H1=true:=by simp[jD,ea1]
    have isB:jD (.ref b) H1=true:=by simp[jD,eb1]
    have hpop:oK (aD 2) (aH cZ (aJ (aD 0) (aH (f1 cU) (aN (aD 2))))) [some (.ref st),some d,some (.ref a),some (.ref b)] H1=.ok (.int ls[k.toNat]) H3:=by simp[oK,aD,isA,aH,aY,aU,hlen,ht,pop]
    have happ:kL (.ref b) (.int ls[k.toNat]) H3=.ok .non (H3.set b (.lst ((fs++[ls[k.toNat]]).map Hc))):=by simp only[kL,eb3,hfl,if_true,je];rfl
    simp[AG,dN,gC,aD,isB,hpop,happ]
   have De:(ls.eraseIdx k.toNat).length=ls.length-1:=zc hk;obtain⟨H',ys,w,e',pm,s',f'⟩:=OS Ez has hbs f (ls.eraseIdx k.toNat) (fs++[ls[k.toNat]]) (H3.set b (.lst ((fs++[ls[k.toNat]]).map Hc))) (by lia) (by rw[cz];simp;lia) (by rw[LW (dg Ez)];exact ea3) (lL eb3) (s3.fr Ho (by simpa using dg hbs));refine⟨H',ys,?_,e',?_,s',?_⟩
   ·rw[hne]at tc;rw[z38 tc body];exact w
   ·rw[<-hls];refine pm.trans ?_;rw[nc];refine zd fs ?_;have:=SR.erase_perm ls k.toNat hk;simpa using this
   ·exact(((g1.trans f2 (by simp)).trans f3 (by simp)).trans (T:=[b]) Ho (by simp)).trans f' (by simp)
end
def InP(n:Nat)(ps:wo):Prop:=∀p∈ps,0<=p.1/\p.1<n/\0<=p.2/\p.2<n
theorem OT:∀ps:wo,cD sH (ps.map aM)=some (ps.map kP)
 |[]=>rfl
 |p::ps=>by rw[cy,cD,OT ps];rfl
theorem z3p(ps:wo):yO (ps.map kP)=true:=by simp[yO,kP]
theorem z3q(ps:wo):(ps.map kP).map yN=ps.map aM:=by rw[kg];rfl
section
variable{H:Hs}{ps:wo}{d:Dv}
theorem z3r(h:sJ d H=some (ps.map kP))(hl:(dE gM ps).length<64):sL d H=.ok (.ref H.length) (H++[.lst ((dE gM ps).map aM)]):=by unfold sL;rw[h];dsimp only;rw[MI uU,bf,if_pos (by rw[z3p];simpa using hl),z3q]
theorem z3s{i j:Nat}{ps qs:wo}(ei:getL H i=some (ps.map aM))(ej:getL H j=some (qs.map aM)):cP (.ref i) (.ref j) H=.ok (.bl (decide (ps=qs))) H:=by
 have p:∀(i:Nat)(ps:wo),getL H i=some (ps.map aM)->bS cK H (.ref i)=some (.lst (ps.map iS)):=λi ps e=>by show bS (27+2+1) H (.ref i)=_;rw[bS];simp only[e,yC]
 have dq:∀ps qs:wo,fX (ps.map iS) (qs.map iS)=decide (ps=qs):=λps=>by
  induction ps with
  |nil=>intro qs;cases qs<;>simp[fX]
  |cons p ps ih=>
   intro qs
   cases qs with
   |nil=>simp[fX]
   |cons q qs=>simp only[cy,fX,DQ,ih];rw[fv];simp
 unfold cP;rw[p i ps ei,p j qs ej];simp only[bU,dq]
end
section
variable{H:Hs}{ps:wo}
theorem z3t{i:Nat}(e:getL H i=some (ps.map aM)):sJ (.ref i) H=some (ps.map kP):=by simp only[sJ,e,OT]
end
theorem FT{H:Hs}{i k:Nat}{xs:y'}(e:getL H i=some (xs.map Hc))(hk:k<xs.length):aQ (.ref i) (.int (k:Int)) H=.ok (.int xs[k]) H:=by
 have h1:dS (xs.map Hc).length (k:Int)=some k:=by unfold dS;rw[bf,if_pos (by lia),if_pos (by lia)];simp
 have h2:dU (xs.map Hc) (k:Int)=some (.int xs[k]):=by unfold dU;rw[h1];simp[hk]
 simp only[aQ,eF,eV,e,gB,h2,if_true]
theorem eq_int(x y:Int)(H:Hs):cP (.int x) (.int y) H=.ok (.bl (x==y)) H:=by simp[cP,cK,bS,bU]
theorem FU:∀{ys:y'},ys.Nodup->∀i(h:i<ys.length),uQ ys[i] ys=some i
 |[],_,i,h=>by simp at h
 |y::ys,nd,0,h=>by simp[uQ]
 |y::ys,nd,i+1,h=>by
  have h1:=jw.mp nd;have hi:i<ys.length:=by simpa using h
  have ne:y≠ys[i]:=λz=>h1.1 (by rw[z];exact di hi);simp[uQ,ne,FU h1.2 i hi]
def Et(n:Nat)(ps:wo):Prop:=InP n ps/\∃f:Int->Int,∀p∈ps,f p.1<f p.2
theorem FV{m:Int}(h0:0<=m)(h:m<=100):iN m=true:=by
 have h1:(-4611686018427387904:Int)<=m:=by lia
 have h2:m<4611686018427387904:=by lia
 unfold iN;rw[decide_eq_true h1,decide_eq_true h2];rfl
theorem OU{H:Hs}{j:Int}(h0:0<=j)(h1:j<=100):cJ [.int j] H=.ok (bX 0 j) H:=by simp only[cJ,FV h0 h1,if_true]
theorem z3u{H:Hs}{i j:Int}(h0:0<=i)(h1:i<=100)(h2:0<=j)(h3:j<=100):pQ [.int i,.int j] H=.ok (bX i j) H:=by simp only[pQ,FV h0 h1,FV h2 h3,and_self,if_true]
def tD(ys:y')(n:Nat)(ps:wo):Prop:=∀p∈ps,∃i j,i<j/\j<n/\p=(ys.getD i 0,ys.getD j 0)
section
variable{st ir ip im n:Nat}{ys ms:y'}{w:Int}{d1:Dv}
theorem z3v(pm:ys.Perm (bH n)){ps:wo}(h:tD ys n ps):Et n ps:=by
 have hl:ys.length=n:=by rw[pm.length_eq];simp[bH]
 have nd:ys.Nodup:=by refine pm.nodup_iff.mpr ?_;unfold bH;simp only[dh];refine List.Pairwise.map _ ?_ (og (n:=n));intro a b h e;exact h (by lia)
 have mem:∀i,i<n->0<=ys.getD i 0/\ys.getD i 0<n:=λi hi=>by
  have hm:ys.getD i 0∈bH n:=pm.mem_iff.mp (by simp[show i<ys.length by lia]);simp only[bH,bz,br,dh]at hm;obtain⟨k,hk,e⟩:=hm
  lia
 refine⟨λp hp=>?_,λa=>((uQ a ys).getD 0:Nat),λp hp=>?_⟩
 ·obtain⟨i,j,Ea,hj,rfl⟩:=h p hp;exact⟨(mem i (by lia)).1,(mem i (by lia)).2,(mem j hj).1,(mem j hj).2⟩
 ·obtain⟨i,j,Ea,hj,rfl⟩:=h p hp;have hi':i<ys.length:=by lia
  have hj':j<ys.length:=by lia
  have e1:ys.getD i 0=ys[i]:=by simp[hi']
  have e2:ys.getD j 0=ys[j]:=by simp[hj']
  simp only[e1,e2,FU nd i hi',FU nd j hj',Option.getD_some]
  lia
end
end L2.Mr.Com
namespace L2.Mr.Cod
open L2.Mr.Com
section
variable{st n:Nat}
theorem FW{H:Hs}(hn:n<=6):kB (.int n) H=.ok (.ref H.length) (H++[.lst ((bH n).map Hc)]):=by
 have c:(decide (0<=(n:Int))&&decide ((n:Int)<=1000))=true:=by simp;lia
 simp only[kB,c,if_true]
theorem z3w:EK=aL (aR (aH (f1 kB) (aN (aD 1))) (aI 2)) (aL (aR (aZ aU) (aI 3)) (aL (lG AF AG 40) (aT (aH (f1 jX) (aN (aD 3)))))):=rfl
theorem OV{H:Hs}(s:Com.St st H)(hn:n<=6):∃(ys:y')(H':Hs),oV [.ref st,.int n] H=.ok (.tup (ys.map Hc)) H'/\ys.Perm (bH n)/\Com.St st H'/\Fr [st] H H':=by
 have lt:=s.lt;have hL:=FW (H:=H) hn;have hlen:(bH n).length<=6:=by simp[bH];lia
 generalize bH n=xs at hL hlen;have w0:aR (aH (f1 kB) (aN (aD 1))) (aI 2) [some (.ref st),some (.int n),none,none] H=.nx [some (.ref st),some (.int n),some (.ref H.length),none] (H++[.lst (xs.map Hc)]):=by generalize (n:Int)=z at hL;simp[aR,aH,L2.Mr.f1,aY,aD,aU,hL,aI]
 have w1:aR (aZ aU) (aI 3) [some (.ref st),some (.int n),some (.ref H.length),none] (H++[.lst (xs.map Hc)])=.nx [some (.ref st),some (.int n),some (.ref H.length),some (.ref (H.length+1))] (H++[.lst (xs.map Hc)]++[.lst []]):=by simp[aR,aZ,aU,lim,aI]
 have ea:getL (H++[.lst (xs.map Hc)]++[.lst []]) H.length=some (xs.map Hc):=fL (by simp[getL]);have eb:getL (H++[.lst (xs.map Hc)]++[.lst []]) (H.length+1)=some (([]:y').map Hc):=by simp[getL]
 have f0:Fr [st] H (H++[.lst (xs.map Hc)]++[.lst []]):=Hy (T:=[]) He He (by simp);have s0:Com.St st (H++[.lst (xs.map Hc)]++[.lst []]):=(s.fr (He (S:=[]) (l:=[.lst (xs.map Hc)])) (by simp)).fr (He (S:=[])) (by simp);obtain⟨H',ys,w2,e2,pm,s2,f2⟩:=OS (st:=st) (a:=H.length) (b:=H.length+1) (d:=.int n) (by lia) (by lia) (by lia) 40 xs [] _ (by lia) (by simp;lia) ea eb s0;refine⟨ys,H',?_,by simpa using pm,s2,f0.trans f2 (by simp)⟩;show bV (EK [some (.ref st),some (.int n),none,none] H)=_;rw[z3w,bT w0,bT w1,bT w2];simp[aT,aH,L2.Mr.f1,jX,aY,aD,aU,e2,bV]
def wS(m:Int)(S:wo)(a b:Int):wo:=if(a,m)∈S/\(m,b)∈S/\(a,b)∉S then S++[(a,b)]else S
def wB(m a:Int)(bs:y')(S:wo):wo:=bs.foldl (λS b=>wS m S a b) S
def wA(m:Int)(as bs:y')(S:wo):wo:=as.foldl (λS a=>wB m a bs S) S
def wM(ms xs:y')(S:wo):wo:=ms.foldl (λS m=>wA m xs xs S) S
theorem vO{m a b:Int}{S:wo}{p:Int×Int}(h:p∈S):p∈wS m S a b:=by unfold wS;split<;>simp[h]
theorem FX{m a b:Int}{S:wo}{p:Int×Int}(h:p∈wS m S a b):p∈S∨(p=(a,b)/\(a,m)∈S/\(m,b)∈S):=by
 unfold wS at h
 split at h
 ·rename_i c
  rcases fq.mp h with h|h
  ·exact .inl h
  ·exact .inr ⟨cg.mp h,c.1,c.2.1⟩
 ·exact .inl h
theorem wS_in{m a b x:Int}{S:wo}:(x,m)∈wS m S a b↔(x,m)∈S:=by
 refine⟨λh=>?_,vO⟩
 rcases FX h with h|⟨e,h1,_⟩
 ·exact h
 ·cases e;exact h1
theorem wS_out{m a b x:Int}{S:wo}:(m,x)∈wS m S a b↔(m,x)∈S:=by
 refine⟨λh=>?_,vO⟩
 rcases FX h with h|⟨e,_,h1⟩
 ·exact h
 ·cases e;exact h1
theorem vP{m a:Int}{p:Int×Int}:∀{bs:y'}{S:wo},p∈S->p∈wB m a bs S
 |[],_,h=>h
 |b::bs,S,h=>vP (bs:=bs) (vO (b:=b) h)
theorem wB_in{m a x:Int}:∀{bs:y'}{S:wo},(x,m)∈wB m a bs S↔(x,m)∈S
 |[],_=>yy
 |b::bs,S=>(wB_in (bs:=bs) (S:=wS m S a b)).trans wS_in
theorem Gq{m a x:Int}:∀{bs:y'}{S:wo},(m,x)∈wB m a bs S↔(m,x)∈S
 |[],_=>yy
 |b::bs,S=>(Gq (bs:=bs) (S:=wS m S a b)).trans wS_out
theorem OW{m a:Int}{p:Int×Int}:∀{bs:y'}{S:wo},p∈wB m a bs S->p∈S∨(p.1,m)∈S/\(m,p.2)∈S
 |[],_,h=>.inl h
 |b::bs,S,h=>by
  rcases OW (bs:=bs) (S:=wS m S a b) h with h|⟨h1,h2⟩
  ·rcases FX h with h|⟨e,h1,h2⟩
   ·exact .inl h
   ·subst e;exact .inr ⟨h1,h2⟩
  ·exact .inr ⟨wS_in.mp h1,wS_out.mp h2⟩
theorem OX{m a b:Int}:∀{bs:y'}{S:wo},b∈bs->(a,m)∈S->(m,b)∈S->(a,b)∈wB m a bs S
 |c::bs,S,hb,h1,h2=>by
  rcases bc.mp hb with rfl|hb
  ·refine vP (bs:=bs) ?_;show(a,b)∈wS m S a b;unfold wS
   by_cases q:(a,b)∈S
   ·rw[if_neg (λz=>z.2.2 q)];exact q
   ·rw[if_pos ⟨h1,h2,q⟩];simp
  ·exact OX (bs:=bs) hb (vO h1) (vO h2)
theorem AH{m:Int}{bs:y'}{p:Int×Int}:∀{as:y'}{S:wo},p∈S->p∈wA m as bs S
 |[],_,h=>h
 |a::as,S,h=>AH (as:=as) (vP h)
theorem wA_in{m x:Int}{bs:y'}:∀{as:y'}{S:wo},(x,m)∈wA m as bs S↔(x,m)∈S
 |[],_=>yy
 |a::as,S=>(wA_in (as:=as) (S:=wB m a bs S)).trans wB_in
theorem Gr{m x:Int}{bs:y'}:∀{as:y'}{S:wo},(m,x)∈wA m as bs S↔(m,x)∈S
 |[],_=>yy
 |a::as,S=>(Gr (as:=as) (S:=wB m a bs S)).trans Gq
theorem vQ{m:Int}{bs:y'}{p:Int×Int}:∀{as:y'}{S:wo},p∈wA m as bs S->p∈S∨(p.1,m)∈S/\(m,p.2)∈S
 |[],_,h=>.inl h
 |a::as,S,h=>by
  rcases vQ (as:=as) (S:=wB m a bs S) h with h|⟨h1,h2⟩
  ·exact OW h
  ·exact .inr ⟨wB_in.mp h1,Gq.mp h2⟩
theorem vR{m a b:Int}{bs:y'}(hb:b∈bs):∀{as:y'}{S:wo},a∈as->(a,m)∈S->(m,b)∈S->(a,b)∈wA m as bs S
 |c::as,S,ha,h1,h2=>by
  rcases bc.mp ha with rfl|ha
  ·exact AH (as:=as) (OX hb h1 h2)
  ·exact vR hb (as:=as) ha (vP h1) (vP h2)
def tE(xs:y')(S:wo):Prop:=∀p∈S,p.1∈xs/\p.2∈xs
theorem z3x{m:Int}{xs as bs:y'}{S:wo}(h:tE xs S):tE xs (wA m as bs S):=λp hp=>by
 rcases vQ hp with hp|⟨h1,h2⟩
 ·exact h p hp
 ·exact⟨(h _ h1).1,(h _ h2).2⟩
theorem z3y{m k:Int}{xs:y'}{S:wo}(hX:tE xs S)(hk:∀a b,(a,k)∈S->(k,b)∈S->(a,b)∈S):∀a b,(a,k)∈wA m xs xs S->(k,b)∈wA m xs xs S->(a,b)∈wA m xs xs S:=λa b h1 h2=>by
 rcases vQ h1 with h1|⟨h1,h1'⟩<;>rcases vQ h2 with h2|⟨h2,h2'⟩
 ·exact AH (hk a b h1 h2)
 ·exact vR (hX _ h2').2 (hX _ h1).1 (hk _ _ h1 h2) h2'
 ·exact vR (hX _ h2).2 (hX _ h1).1 h1 (hk _ _ h1' h2)
 ·exact vR (hX _ h2').2 (hX _ h1).1 h1 h2'
theorem OY{xs:y'}:∀{ms:y'}{S:wo}(D:Int->Prop),tE xs S->(∀k,D k->∀a b,(a,k)∈S->(k,b)∈S->(a,b)∈S)->
  tE xs (wM ms xs S)/\(∀p∈S,p∈wM ms xs S)/\∀k,D k∨k∈ms->∀a b,(a,k)∈wM ms xs S->(k,b)∈wM ms xs S->(a,b)∈wM ms xs S
 |[],S,D,hX,h=>⟨hX,λ_ hp=>hp,λk hk=>h k (hk.resolve_right (by simp))⟩
 |m::ms,S,D,hX,h=>by
  obtain⟨h1,h2,h3⟩:=OY (ms:=ms) (S:=wA m xs xs S) (λk=>D k∨k=m) (z3x hX) (λk hk=>by
   rcases hk with hk|rfl
   ·exact z3y hX (h k hk)
   ·exact λa b q1 q2=>vR (hX _ (Gr.mp q2)).2 (hX _ (wA_in.mp q1)).1 (wA_in.mp q1) (Gr.mp q2))
  refine⟨h1,λp hp=>h2 p (AH hp),λk hk=>h3 k ?_⟩
  rcases hk with hk|hk
  ·exact .inl (.inl hk)
  ·rcases bc.mp hk with hk|hk
   ·exact .inl (.inr hk)
   ·exact .inr hk
theorem OZ{xs:y'}{f:Int->Int}:∀{ms:y'}{S:wo},(∀p∈S,f p.1<f p.2)->∀p∈wM ms xs S,f p.1<f p.2
 |[],_,h=>h
 |m::ms,S,h=>OZ (ms:=ms) (S:=wA m xs xs S) λp hp=>by
  rcases vQ hp with hp|⟨h1,h2⟩
  ·exact h p hp
  ·have:=h _ h1;have:=h _ h2;simp only at *;lia
end
section
variable{n i:Nat}{H:Hs}{S:wo}{m a b:Int}{x0 x1 x3 x4 x5:Bu}
theorem FY(neg:Bool)(p:Int×Int)(e:getL H i=some (S.map aM)):dX neg (aM p) (.ref i) H=.ok (.bl (if neg then !decide (p∈S)else decide (p∈S))) H:=by
 have e':(S.map iS).any (λt=>bU t (iS p))=decide (p∈S):=by
  rw[fv];simp only[wx,nv,yd,DQ,decide_eq_true_eq];constructor
  ·rintro ⟨q,hq,rfl⟩;exact hq
  ·intro h;exact⟨p,h,rfl⟩
 have h1:cD (bS cK H) (S.map aM)=some (S.map iS):=yC 28 H S;have h2:bS cK H (aM p)=some (iS p):=yB 28 H p;show mK [] neg (aM p) (.ref i) H=_;simp only[mK,gH,e,h1,h2,e']
def qP:MS:=bF (dW (mB (m2 (dX false) (aO (aJ (aD 4) (aD 3))) (aD 2))) (dW (mB (m2 (dX false) (aO (aJ (aD 3) (aD 5))) (aD 2))) (mB (m2 (dX true) (aO (aJ (aD 4) (aD 5))) (aD 2))))) (dN (gC (aD 2) (aO (aJ (aD 4) (aD 5))))) bP
def FZ:MS:=dC (aX cJ (aN (aD 0))) (aI 5) qP
def F0:MS:=dC (aX cJ (aN (aD 0))) (aI 4) FZ
theorem z3z:EM=aL (aR (aH (f1 lK) (aN (aD 1))) (aI 2)) (aL (dC (aX cJ (aN (aD 0))) (aI 3) F0) (aT (aH (f1 jX) (aN (aH (f1 sL) (aN (aD 2))))))):=rfl
theorem z40(e:getL H i=some (S.map aM))(hl:S.length<=500):
  ∃H',qP [x0,x1,some (.ref i),some (.int m),some (.int a),some (.int b)] H=.nx [x0,x1,some (.ref i),some (.int m),some (.int a),some (.int b)] H'/\getL H' i=some ((wS m S a b).map aM)/\Fr [i] H H':=by
 have t1:=FY false (a,m) e;have t2:=FY false (m,b) e;have t3:=FY true (a,b) e;simp only[aM,cf,if_false,if_true]at t1 t2 t3;have hz:S.length<1000000:=by lia
 by_cases c1:(a,m)∈S
 ·by_cases c2:(m,b)∈S
  ·by_cases c3:(a,b)∈S
   ·refine⟨H,?_,by unfold wS;rw[if_neg (λz=>z.2.2 c3)];exact e,Hh⟩;simp[qP,bF,dW,mB,m2,aO,aY,aD,aU,lim,t1,t2,t3,c1,c2,c3,fU,bP]
   ·refine⟨H.set i (.lst (S.map aM++[aM (a,b)])),?_,?_,Ho⟩
    ·simp[qP,bF,dW,mB,m2,aO,aY,aD,aU,lim,t1,t2,t3,c1,c2,c3,fU,dN,gC,jD,e,kL,hz,aM]
    ·unfold wS;rw[if_pos ⟨c1,c2,c3⟩,je];exact lL e
  ·refine⟨H,?_,by unfold wS;rw[if_neg (λz=>c2 z.2.1)];exact e,Hh⟩;simp[qP,bF,dW,mB,m2,aO,aY,aD,aU,lim,t1,t2,c1,c2,fU,bP]
 ·refine⟨H,?_,by unfold wS;rw[if_neg (λz=>c1 z.1)];exact e,Hh⟩;simp[qP,bF,dW,mB,m2,aO,aY,aD,aU,lim,t1,c1,fU,bP]
theorem F1{bd:MS}{k:Nat}{ρ:Ev}(h0:∀H,aX cJ (aN (aD 0)) ρ H=.ok (bX 0 n) H)(P:Nat->wo->Ev->Hs->Prop)(g:wo->Int->wo)(step:∀(j:Nat)S ρ H,j<n->P j S ρ H->∃ρ1 ρ2 H',aI k (.int j) ρ=some ρ1/\bd ρ1 H=.nx ρ2 H'/\P (j+1) (g S j) ρ2 H')(hP:P 0 S ρ H):
  ∃ρ' H',dC (aX cJ (aN (aD 0))) (aI k) bd ρ H=.nx ρ' H'/\P n ((bH n).foldl g S) ρ' H':=by
 obtain⟨ρ',H',w,h⟩:=mO (sg:=aI k) (b:=bd) (h0 H) (λj ρ H=>P j (((bH n).take j).foldl g S) ρ H)
  (λj ρ H hj h=>by
   have hj':j<n:=by simpa[bX]using hj
   obtain⟨ρ1,ρ2,H',e1,e2,e3⟩:=step j _ ρ H hj' h;refine⟨.int j,ρ1,ρ2,H',by simp[bX],e1,e2,?_⟩;have hq:(bH n).take (j+1)=(bH n).take j++[(j:Int)]:=by
    have hl:j<(bH n).length:=by simp[bH];lia
    rw[List.take_add_one];have:(bH n)[j]?=some (j:Int):=by rw[bo hl];simp[bH]
    rw[this];rfl
   rw[hq,List.foldl_append];exact e3) (λ_ _ _=>rfl) (by simpa using hP)
 refine⟨ρ',H',w,?_⟩;have:(bX 0 (n:Int)).n=n:=by simp[bX]
 rw[this,Ag (by simp[bH])]at h;exact h
theorem F2(hn:n<=6){ρ:Ev}:∀H,aX cJ (aN (aD 0)) (some (.int n)::ρ) H=.ok (bX 0 n) H:=λH=>by have q:aN (aD 0) (some (.int (n:Int))::ρ) H=.ok [.int n] H:=rfl;unfold aX;rw[q,Rs.bind_ok];exact OU (by lia) (by lia)
theorem z41:(wS m S a b).length<=S.length+1:=by unfold wS;split<;>simp
theorem z42(hn:n<=6)(e:getL H i=some (S.map aM))(hl:S.length<=400):
  ∃y5 H',FZ [some (.int n),x1,some (.ref i),some (.int m),some (.int a),x5] H=.nx [some (.int n),x1,some (.ref i),some (.int m),some (.int a),y5] H'/\getL H' i=some ((wB m a (bH n) S).map aM)/\(wB m a (bH n) S).length<=S.length+n/\Fr [i] H H':=by
 obtain⟨ρ',H',w,y5,e1,e2,e3,e4⟩:=F1 (S:=S) (H:=H) (bd:=qP) (k:=5) (ρ:=[some (.int n),x1,some (.ref i),some (.int m),some (.int a),x5]) (F2 hn) (λj S' ρ H'=>∃y5,ρ=[some (.int n),x1,some (.ref i),some (.int m),some (.int a),y5]/\getL H' i=some (S'.map aM)/\S'.length<=S.length+j/\Fr [i] H H') (λS b=>wS m S a b)
  (λj S' ρ H' hj⟨y5,e1,e2,e3,e4⟩=>by subst e1;obtain⟨H2,w2,e5,f5⟩:=z40 (x0:=some (.int n)) (x1:=x1) (m:=m) (a:=a) (b:=(j:Int)) e2 (by lia);have:=z41 (m:=m) (a:=a) (b:=(j:Int)) (S:=S');exact⟨_,_,H2,rfl,w2,_,rfl,e5,by lia,e4.trans f5 (by simp)⟩) ⟨x5,rfl,e,by lia,Hh⟩
 subst e1;exact⟨y5,H',w,e2,e3,e4⟩
theorem z43(hn:n<=6)(e:getL H i=some (S.map aM))(hl:S.length<=300):
  ∃y4 y5 H',F0 [some (.int n),x1,some (.ref i),some (.int m),x4,x5] H=.nx [some (.int n),x1,some (.ref i),some (.int m),y4,y5] H'/\getL H' i=some ((wA m (bH n) (bH n) S).map aM)/\(wA m (bH n) (bH n) S).length<=S.length+6*n/\Fr [i] H H':=by
 obtain⟨ρ',H',w,y4,y5,e1,e2,e3,e4⟩:=F1 (S:=S) (H:=H) (bd:=FZ) (k:=4) (ρ:=[some (.int n),x1,some (.ref i),some (.int m),x4,x5]) (F2 hn) (λj S' ρ H'=>∃y4 y5,ρ=[some (.int n),x1,some (.ref i),some (.int m),y4,y5]/\getL H' i=some (S'.map aM)/\S'.length<=S.length+6*j/\Fr [i] H H') (λS a=>wB m a (bH n) S)
  (λj S' ρ H' hj⟨y4,y5,e1,e2,e3,e4⟩=>by subst e1;obtain⟨z5,H2,w2,e5,l5,f5⟩:=z42 (x1:=x1) (x5:=y5) (m:=m) (a:=(j:Int)) hn e2 (by lia);exact⟨_,_,H2,rfl,w2,_,_,rfl,e5,by lia,e4.trans f5 (by simp)⟩) ⟨x4,x5,rfl,e,by lia,Hh⟩
 subst e1;exact⟨y4,y5,H',w,e2,e3,e4⟩
theorem O2{j:Nat}{ps:wo}(n1:1<=n)(hn:n<=6)(e:getL H j=some (ps.map aM))(hl:ps.length<=40)(g:Et n ps):
  ∃(cs:wo)(H':Hs),nJ [.int n,.ref j] H=.ok (.tup (cs.map aM)) H'/\Ck n cs/\Fr [] H H':=by
 have w0:aR (aH (f1 lK) (aN (aD 1))) (aI 2) [some (.int n),some (.ref j),none,none,none,none] H=.nx [some (.int n),some (.ref j),some (.ref H.length),none,none,none] (H++[.lst (ps.map aM)]):=by simp[aR,aH,f1,lK,eF,tZ,gH,aY,aD,aU,e,aI]
 have g0:getL (H++[Hd (ps.map aM)]) H.length=some (ps.map aM):=by simp[getL]
 have f0:Fr [] H (H++[Hd (ps.map aM)]):=He;obtain⟨q,hq⟩:∃q,q=H.length:=⟨_,rfl⟩
 rw[<-hq]at w0 g0;obtain⟨H0,hH0⟩:∃H0,H0=H++[Hd (ps.map aM)]:=⟨_,rfl⟩
 rw[<-hH0]at w0 g0 f0;obtain⟨ρ',H1,w1,y3,y4,y5,e1,e2,e3,e4⟩:=F1 (S:=ps) (H:=H0) (bd:=F0) (k:=3) (ρ:=[some (.int n),some (.ref j),some (.ref q),none,none,none]) (F2 hn) (λk S' ρ H'=>∃y3 y4 y5,ρ=[some (.int n),some (.ref j),some (.ref q),y3,y4,y5]/\getL H' q=some (S'.map aM)/\S'.length<=ps.length+36*k/\Fr [q] H0 H') (λS m=>wA m (bH n) (bH n) S)
  (λk S' ρ H' hj⟨y3,y4,y5,e1,e2,e3,e4⟩=>by subst e1;obtain⟨z4,z5,H2,w2,e5,l5,f5⟩:=z43 (x1:=some (.ref j)) (x4:=y4) (x5:=y5) (m:=(k:Int)) hn e2 (by lia);exact⟨_,_,H2,rfl,w2,_,_,_,rfl,e5,by lia,e4.trans f5 (by simp)⟩) ⟨none,none,none,rfl,g0,by lia,Hh⟩
 subst e1;have hX:tE (bH n) ps:=λp hp=>by have:=g.1 p hp;simp only[bH,bz,br,dh];exact⟨⟨p.1.toNat,by lia,by lia⟩,p.2.toNat,by lia,by lia⟩
 obtain⟨k1,k2,k3⟩:=OY (xs:=bH n) (ms:=bH n) (S:=ps) (λ_=>False) hX (λ_ h=>h.elim);obtain⟨f,hf⟩:=g.2;have k4:=OZ (xs:=bH n) (ms:=bH n) (f:=f) hf;change getL H1 q=some ((wM (bH n) (bH n) ps).map aM)at e2;generalize wM (bH n) (bH n) ps=W at e2 k1 k2 k3 k4;have hr:=qD stoP W;have hm:∀p,p∈dE gM W↔p∈W:=λp=>mP stoP p W;have o:Ck n (dE gM W):=by
  refine⟨n1,hn,λp hp=>?_,hr,λp hp e=>?_,λp hp r hr' e=>?_⟩
  ·have:=k1 p ((hm p).mp hp);simp only[bH,bz,br,dh]at this;obtain⟨⟨k,hk,e⟩,k',Du,e'⟩:=this
   lia
  ·have:=k4 p ((hm p).mp hp);rw[e]at this;lia
  ·refine(hm _).mpr (k3 p.2 (.inr (k1 p ((hm p).mp hp)).2) p.1 r.2 ((hm p).mp hp) ?_);rw[e];exact(hm r).mp hr'
 have hs:=z3r (z3t e2) (by have:=o.len;lia);have f1':Fr [] H1 (H1++[Hd ((dE gM W).map aM)]):=He;have g2:getL (H1++[Hd ((dE gM W).map aM)]) H1.length=some ((dE gM W).map aM):=by simp[getL]
 refine⟨dE gM W,H1++[Hd ((dE gM W).map aM)],?_,o,(f0.trans e4 (λx hx=>.inr (by rw[cg.mp hx,hq];exact ao _))).trans f1' (by simp)⟩;show bV (EM [some (.int n),some (.ref j),none,none,none,none] H)=_;rw[z3z,bT w0,bT w1];generalize H1++[Hd ((dE gM W).map aM)]=H2 at hs g2;simp[aT,aH,f1,jX,aY,aD,aU,hs,g2,bV]
end
open L2.Mr.Com
theorem AI{H:Hs}{ys:y'}{k:Nat}(hk:k<ys.length):aQ (.tup (ys.map Hc)) (.int k) H=.ok (.int (ys.getD k 0)) H:=by
 have h1:dS (ys.map Hc).length (k:Int)=some k:=by
  unfold dS;have hl:(ys.map Hc).length=ys.length:=by simp
  rw[hl,if_pos (by lia),if_pos (by lia)];simp
 have h2:dU (ys.map Hc) (k:Int)=some (.int (ys.getD k 0)):=by unfold dU;rw[h1];simp[hk]
 simp only[aQ,eF,eV,gB,h2,if_true]
section
variable{st ip im n:Nat}{ys ms:y'}{w:Int}{d1:Dv}
abbrev ev(st ip im n:Nat)(w:Int)(d1:Dv)(ys:y')(x7 x8 x9:Bu):Ev:=[some (.ref st),some d1,some (.int n),some (.tup (ys.map Hc)),some (.int w),some (.ref im),some (.ref ip),x7,x8,x9]
def q1:MS:=aR (m2 fO (aH cZ (aJ (aD 0) (aG 4))) (m2 aQ (aZ (eZ (aG 1) (aG 2) (aG 3))) (m2 iR (aD 4) (aG 3)))) (aI 9)
def q2:MS:=bF (mB (m2 cP (aD 4) (aG 3))) (aR (m2 cP (m2 aQ (aD 5) (aD 7)) (m2 aQ (aD 5) (aD 8))) (aI 9)) bP
def q3:MS:=bF (mB (m2 cP (aD 4) (aG 4))) (aR (m2 fO (m2 aQ (aD 5) (aD 7)) (m2 aQ (aD 5) (aD 8))) (aI 9)) bP
def q4:MS:=bF (bN (aD 9)) (dN (gC (aD 6) (aO (aJ (m2 aQ (aD 3) (aD 7)) (m2 aQ (aD 3) (aD 8)))))) bP
def oB:MS:=aL q1 (aL q2 (aL q3 q4))
structure Sd(st im:Nat)(ms:y')(H:Hs):Prop where
 s:Com.St st H
 m:getL H im=some (ms.map Hc)
theorem Sd.fr{H H':Hs}{S:A'}(h:Sd st im ms H)(f:Fr S H H')(s':Com.St st H')(h2:im∉S):Sd st im ms H':=⟨s',f.getL h.m h2⟩
theorem z44{H:Hs}{x9:Bu}{ps:wo}{i j:Nat}(D:Sd st im ms H)(ep:getL H ip=some (ps.map aM))(hw:0<=w/\w<5)(hi:i<n)(hj:j<n)(hy:ys.length=n)(hm:ms.length=n)(hl:ps.length<=1000)(h2:im≠st)(h3:ip≠st)(h5:im≠ip):
  ∃(Fi:Bu)(H':Hs)(ps':wo),oB (ev st ip im n w d1 ys (some (.int i)) (some (.int j)) x9) H=.nx (ev st ip im n w d1 ys (some (.int i)) (some (.int j)) Fi) H'/\getL H' ip=some (ps'.map aM)/\(ps'=ps∨ps'=ps++[(ys.getD i 0,ys.getD j 0)])/\Sd st im ms H'/\Fr [st,ip] H H':=by
 obtain⟨r0,H0,_,_,t0,f0,s0⟩:=pC 4 D.s;have D0:=D.fr f0 s0 (by simpa using h2);have ep0:=f0.getL ep (by simpa using h3);have fA:Fr [] H0 (H0++[Hd [.int 1,.int 2,.int 3]]):=He;have eA:getL (H0++[Hd [.int 1,.int 2,.int 3]]) H0.length=some [.int 1,.int 2,.int 3]:=by simp[getL]
 have near:∃c,aQ (.ref H0.length) (.int (w%3)) (H0++[Hd [.int 1,.int 2,.int 3]])=.ok (.int c) (H0++[Hd [.int 1,.int 2,.int 3]]):=by
  have hw':w=0∨w=1∨w=2∨w=3∨w=4:=by lia
  rcases hw' with rfl|rfl|rfl|rfl|rfl
  ·exact⟨1,by simp only[aQ,eF,eV,eA];rfl⟩
  ·exact⟨2,by simp only[aQ,eF,eV,eA];rfl⟩
  ·exact⟨3,by simp only[aQ,eF,eV,eA];rfl⟩
  ·exact⟨1,by simp only[aQ,eF,eV,eA];rfl⟩
  ·exact⟨2,by simp only[aQ,eF,eV,eA];rfl⟩
 obtain⟨c,hc⟩:=near;have hmod:iR (.int w) (.int 3) (H0++[Hd [.int 1,.int 2,.int 3]])=.ok (.int (w%3)) (H0++[Hd [.int 1,.int 2,.int 3]]):=by
  have hw':w=0∨w=1∨w=2∨w=3∨w=4:=by lia
  rcases hw' with rfl|rfl|rfl|rfl|rfl<;>rfl
 have hlst:aZ (eZ (aG 1) (aG 2) (aG 3)) (ev st ip im n w d1 ys (some (.int i)) (some (.int j)) x9) H0=.ok (.ref H0.length) (H0++[Hd [.int 1,.int 2,.int 3]]):=rfl;have DA:=D0.fr fA (s0.fr fA (by simp)) (by simp);have epA:=fA.getL ep0 (by simp);have fHA:Fr [st] H (H0++[Hd [.int 1,.int 2,.int 3]]):=f0.trans fA (by simp);generalize H0++[Hd [.int 1,.int 2,.int 3]]=HA at hc hmod hlst DA epA fHA;have w1:q1 (ev st ip im n w d1 ys (some (.int i)) (some (.int j)) x9) H=.nx (ev st ip im n w d1 ys (some (.int i)) (some (.int j)) (some (.bl (decide (r0<c))))) HA:=by
  have a1:aH cZ (aJ (aD 0) (aG 4)) (ev st ip im n w d1 ys (some (.int i)) (some (.int j)) x9) H=.ok (.int r0) H0:=by simp[aH,aY,aD,mC,aU,t0]
  have a2:m2 iR (aD 4) (aG 3) (ev st ip im n w d1 ys (some (.int i)) (some (.int j)) x9) HA=.ok (.int (w%3)) HA:=by simp[m2,aD,mC,hmod]
  have a3:m2 aQ (aZ (eZ (aG 1) (aG 2) (aG 3))) (m2 iR (aD 4) (aG 3)) (ev st ip im n w d1 ys (some (.int i)) (some (.int j)) x9) H0=.ok (.int c) HA:=by show(aZ _ _ H0).bind _=_;rw[hlst,Rs.bind_ok,a2,Rs.bind_ok,hc]
  unfold q1 aR;have a4:m2 fO (aH cZ (aJ (aD 0) (aG 4))) (m2 aQ (aZ (eZ (aG 1) (aG 2) (aG 3))) (m2 iR (aD 4) (aG 3))) (ev st ip im n w d1 ys (some (.int i)) (some (.int j)) x9) H=.ok (.bl (decide (r0<c))) HA:=by show(aH _ _ _ H).bind _=_;rw[a1,Rs.bind_ok,a3,Rs.bind_ok];rfl
  rw[a4];rfl
 have hmi:=FT DA.m (k:=i) (by lia);have hmj:=FT DA.m (k:=j) (by lia);generalize ms[i]=va at hmi;generalize ms[j]=vb at hmj;have w2:∀b,∃b',q2 (ev st ip im n w d1 ys (some (.int i)) (some (.int j)) (some (.bl b))) HA=.nx (ev st ip im n w d1 ys (some (.int i)) (some (.int j)) (some (.bl b'))) HA:=λb=>by
  by_cases q:w=3
  ·subst q;refine⟨va==vb,?_⟩;simp[q2,bF,mB,m2,aD,mC,Com.eq_int,fU,aR,hmi,hmj,aI]
  ·refine⟨b,?_⟩;have q':(w==3)=false:=by simpa using q
   simp[q2,bF,mB,m2,aD,mC,Com.eq_int,q',fU,bP]
 have w3:∀b,∃b',q3 (ev st ip im n w d1 ys (some (.int i)) (some (.int j)) (some (.bl b))) HA=.nx (ev st ip im n w d1 ys (some (.int i)) (some (.int j)) (some (.bl b'))) HA:=λb=>by
  by_cases q:w=4
  ·subst q;refine⟨decide (va<vb),?_⟩;simp[q3,bF,mB,m2,aD,mC,Com.eq_int,fU,aR,hmi,hmj,fO,aI]
  ·refine⟨b,?_⟩;have q':(w==4)=false:=by simpa using q
   simp[q3,bF,mB,m2,aD,mC,Com.eq_int,q',fU,bP]
 obtain⟨b2,w2⟩:=w2 (decide (r0<c));obtain⟨b,w3⟩:=w3 b2;have t:bN (aD 9) (ev st ip im n w d1 ys (some (.int i)) (some (.int j)) (some (.bl b))) HA=.ok b HA:=rfl;unfold oB;rw[bT w1,bT w2,bT w3];unfold q4
 cases b with
 |false=>refine⟨some (.bl false),HA,ps,?_,epA,.inl rfl,DA,fHA.mono (by simp)⟩;rw[fW t];rfl
 |true=>
  have hyi:=AI (H:=HA) (ys:=ys) (k:=i) (by lia);have hyj:=AI (H:=HA) (ys:=ys) (k:=j) (by lia);generalize ys.getD i 0=va at hyi⊢;generalize ys.getD j 0=vb at hyj⊢;have hz:(ps.map aM).length<1000000:=by rw[bf];lia
  have fC:Fr [ip] HA (HA.set ip (.lst ((ps++[(va,vb)]).map aM))):=Ho;refine⟨some (.bl true),HA.set ip (.lst ((ps++[(va,vb)]).map aM)),ps++[(va,vb)],?_,lL epA,.inr rfl,DA.fr fC (DA.s.fr fC (by simpa using dg h3)) (by simpa using h5),(fHA.mono (T:=[st,ip]) (by simp)).trans fC (by simp)⟩;rw[nE t];have isP':jD (.ref ip) HA=true:=by simp[jD,epA]
  have happ:kL (.ref ip) (.tup [.int (va),.int (vb)]) HA=.ok .non (HA.set ip (.lst ((ps++[(va,vb)]).map aM))):=by simp only[kL,epA,hz,if_true,je];rfl
  simp[dN,gC,aD,isP',aO,aY,m2,hyi,hyj,aU,lim,happ]
def AJ:MS:=dC (aX pQ (aJ (m2 cV (aD 7) (aG 1)) (aD 2))) (aI 8) oB
theorem z45{H:Hs}{x8 x9:Bu}{ps:wo}{i:Nat}(D:Sd st im ms H)(ep:getL H ip=some (ps.map aM))(hw:0<=w/\w<5)(hi:i<n)(hn:n<=6)(hy:ys.length=n)(hm:ms.length=n)(hl:ps.length<=500)(hb:tD ys n ps)(h2:im≠st)(h3:ip≠st)(h5:im≠ip):
  ∃(Gp Fi:Bu)(H':Hs)(ps':wo),AJ (ev st ip im n w d1 ys (some (.int i)) x8 x9) H=.nx (ev st ip im n w d1 ys (some (.int i)) Gp Fi) H'/\getL H' ip=some (ps'.map aM)/\tD ys n ps'/\ps'.length<=ps.length+6/\Sd st im ms H'/\Fr [st,ip] H H':=by
 have hi0:aX pQ (aJ (m2 cV (aD 7) (aG 1)) (aD 2)) (ev st ip im n w d1 ys (some (.int i)) x8 x9) H=.ok (bX ((i:Int)+1) n) H:=by have q:aJ (m2 cV (aD 7) (aG 1)) (aD 2) (ev st ip im n w d1 ys (some (.int i)) x8 x9) H=.ok [.int ((i:Int)+1),.int n] H:=rfl;unfold aX;rw[q,Rs.bind_ok];exact z3u (by lia) (by lia) (by lia) (by lia)
 have hN:(bX ((i:Int)+1) (n:Int)).n=n-(i+1):=by
  show((n:Int)-((i:Int)+1)).toNat=_
  lia
 obtain⟨ρ',H',r1,Gp,Fi,ps',e1,e2,e3,e4,e5,e6⟩:=mO (b:=oB) (sg:=aI 8) hi0 (λk ρ H'=>∃(Gp Fi:Bu)(ps':wo),ρ=ev st ip im n w d1 ys (some (.int i)) Gp Fi/\getL H' ip=some (ps'.map aM)/\tD ys n ps'/\ps'.length<=ps.length+k/\Sd st im ms H'/\Fr [st,ip] H H')
  (λk ρ H' hk⟨Gp,Fi,ps',e1,e2,e3,e4,e5,e6⟩=>by
   subst e1;rw[hN]at hk;have hj:i+1+k<n:=by lia
   obtain⟨x9n,H2,ps2,b1,b2,b3,b4,b5⟩:=z44 (x9:=Fi) (w:=w) (d1:=d1) (ip:=ip) (n:=n) (i:=i) (j:=i+1+k) (ys:=ys) e5 e2 hw hi hj hy hm (by lia) h2 h3 h5;have ej:(((i+1+k:Nat)):Int)=(i:Int)+1+(k:Int):=by lia
   rw[ej]at b1;refine⟨.int ((i:Int)+1+(k:Int)),ev st ip im n w d1 ys (some (.int i)) (some (.int ((i:Int)+1+(k:Int)))) Fi,_,H2,rfl,rfl,b1,_,_,ps2,rfl,b2,?_,?_,b4,e6.trans b5 λj hj=>.inl hj⟩
   ·rcases b3 with rfl|rfl
    ·exact e3
    ·intro p hp
     rcases fq.mp hp with hp|hp
     ·exact e3 p hp
     ·rw[cg.mp hp];exact⟨i,i+1+k,by lia,hj,rfl⟩
   ·rcases b3 with rfl|rfl
    ·lia
    ·rw[cz];simp;lia) (λ_ _ _=>rfl) ⟨x8,x9,ps,rfl,ep,hb,by lia,D,Hh⟩
 rw[hN]at e4;exact⟨Gp,Fi,H',ps',by unfold AJ;rw[r1,e1],e2,e3,by lia,e5,e6⟩
def F3:MS:=dC (aX cJ (aN (aD 2))) (aI 7) AJ
theorem z46{H:Hs}{x7 x8 x9:Bu}(D:Sd st im ms H)(ep:getL H ip=some (([]:wo).map aM))(hw:0<=w/\w<5)(hn:n<=6)(hy:ys.length=n)(hm:ms.length=n)(h2:im≠st)(h3:ip≠st)(h5:im≠ip):
  ∃(x7' Gp Fi:Bu)(H':Hs)(ps':wo),F3 (ev st ip im n w d1 ys x7 x8 x9) H=.nx (ev st ip im n w d1 ys x7' Gp Fi) H'/\getL H' ip=some (ps'.map aM)/\tD ys n ps'/\ps'.length<=36/\Sd st im ms H'/\Fr [st,ip] H H':=by
 have hi0:aX cJ (aN (aD 2)) (ev st ip im n w d1 ys x7 x8 x9) H=.ok (bX 0 n) H:=by have q:aN (aD 2) (ev st ip im n w d1 ys x7 x8 x9) H=.ok [.int n] H:=rfl;unfold aX;rw[q,Rs.bind_ok];exact OU (by lia) (by lia)
 have hN:(bX 0 (n:Int)).n=n:=by simp[bX]
 obtain⟨ρ',H',r1,x7',Gp,Fi,ps',e1,e2,e3,e4,e5,e6⟩:=mO (b:=AJ) (sg:=aI 7) hi0 (λk ρ H'=>∃(x7' Gp Fi:Bu)(ps':wo),ρ=ev st ip im n w d1 ys x7' Gp Fi/\getL H' ip=some (ps'.map aM)/\tD ys n ps'/\ps'.length<=6*k/\Sd st im ms H'/\Fr [st,ip] H H')
  (λk ρ H' hk⟨x7',Gp,Fi,ps',e1,e2,e3,e4,e5,e6⟩=>by
   subst e1;rw[hN]at hk;obtain⟨x8n,x9n,H2,ps2,b1,b2,b3,b4,b5,b6⟩:=z45 (x8:=Gp) (x9:=Fi) (w:=w) (d1:=d1) (ip:=ip) (n:=n) (i:=k) (ys:=ys) e5 e2 hw hk hn hy hm (by lia) e3 h2 h3 h5;have ek:(0:Int)+(k:Int)=(k:Int):=by lia
   refine⟨.int (0+(k:Int)),ev st ip im n w d1 ys (some (.int k)) Gp Fi,_,H2,rfl,by rw[ek];rfl,b1,_,_,_,ps2,rfl,b2,b3,by lia,b5,e6.trans b6 λj hj=>.inl hj⟩) (λ_ _ _=>rfl) ⟨x7,x8,x9,[],rfl,ep,λp hp=>by simp at hp,by simp,D,Hh⟩
 rw[hN]at e4;exact⟨x7',Gp,Fi,H',ps',by unfold F3;rw[r1,e1],e2,e3,by lia,e5,e6⟩
end
def O3:M Bt:=(aY (aG 0) (aY (aG 0) (aY (aG 1) (aY (aG 0) (gW (aG 2) (aG 1) (aG 3) (m2 jH (aD 1) (aG 1)))))))
def z1:MS:=aR (m2 jH (aD 1) (m2 aQ (aZ O3) (aH cZ (aJ (aD 0) (aG 8))))) (aI 2)
def z2:MS:=aR (aH mZ (aJ (aG 1) (aD 2))) (aI 2)
def z3:MS:=aR (aH oV (aJ (aD 0) (aD 2))) (aI 3)
def z4:MS:=aR (aH cZ (aJ (aD 0) (aG 5))) (aI 4)
def F5:M Bt:=cR (cC fI (aD 3)) [none,some 0] (aI 0) dP (cG (aH cZ (aJ (aD 1) (aG 3))))
def z5:MS:=aR (dF F5) (aI 5)
def z6:MS:=aR (aZ aU) (aI 6)
def z9:MS:=aT (aO (aJ (aD 2) (aH nJ (aJ (aD 2) (aD 6)))))
theorem z47:EN=aL z1 (aL z2 (aL z3 (aL z4 (aL z5 (aL z6 (aL F3 z9)))))):=rfl
section
variable{st:Nat}
theorem z48{H:Hs}{x2 x3 x4 x5 x6 x7 x8 x9:Bu}(s:Com.St st H):∃(v:Int)(H':Hs),0<=v/\v<=5/\z1 [some (.ref st),some (.int 6),x2,x3,x4,x5,x6,x7,x8,x9] H=.nx [some (.ref st),some (.int 6),some (.int (6-v)),x3,x4,x5,x6,x7,x8,x9] H'/\Com.St st H'/\Fr [st] H H':=by
 have fA:Fr [] H (H++[Hd [.int 0,.int 0,.int 1,.int 0,.int 2,.int 1,.int 3,.int 5]]):=He;have eA:getL (H++[Hd [.int 0,.int 0,.int 1,.int 0,.int 2,.int 1,.int 3,.int 5]]) H.length=some (([0,0,1,0,2,1,3,5]:y').map Hc):=by simp[getL]
 have sA:=s.fr fA (by simp);have lt:=s.lt;have hd:aZ O3 [some (.ref st),some (.int 6),x2,x3,x4,x5,x6,x7,x8,x9] H=.ok (.ref H.length) (H++[Hd [.int 0,.int 0,.int 1,.int 0,.int 2,.int 1,.int 3,.int 5]]):=rfl;generalize H++[Hd [.int 0,.int 0,.int 1,.int 0,.int 2,.int 1,.int 3,.int 5]]=HA at fA eA sA hd;obtain⟨r,H1,r0,r1,t1,f1,s1⟩:=pC 8 sA;have e1:=f1.getL eA (by simp;lia);obtain⟨k,rfl⟩:∃k:Nat,r=k:=⟨r.toNat,by lia⟩
 have hk:k<8:=by lia
 have hx:=FT e1 (k:=k) (by simpa using hk);have hv:0<=([0,0,1,0,2,1,3,5]:y')[k]/\([0,0,1,0,2,1,3,5]:y')[k]<=5:=by
  match k,hk with
  |0,_=>simp
  |1,_=>simp
  |2,_=>simp
  |3,_=>simp
  |4,_=>simp
  |5,_=>simp
  |6,_=>simp
  |7,_=>simp
 generalize ([0,0,1,0,2,1,3,5]:y')[k]=v at hx hv;refine⟨v,H1,hv.1,hv.2,?_,s1,fA.mono (T:=[st]) (by simp)|>.trans f1 (by simp)⟩;have ht:aH cZ (aJ (aD 0) (aG 8)) [some (.ref st),some (.int 6),x2,x3,x4,x5,x6,x7,x8,x9] HA=.ok (.int k) H1:=by simp[aH,aY,aD,mC,aU,t1]
 unfold z1 aR m2;show((Ht (Hc 6) H).bind _).thenS _=_;rw[Rs.bind_ok,hd,Rs.bind_ok,ht,Rs.bind_ok,hx,Rs.bind_ok];rfl
theorem z49{H:Hs}{ys:y'}{x1 x2 x4 x5 x6 x7 x8 x9:Bu}(s:Com.St st H)(hl:ys.length<=100):∃(ms:y')(H':Hs),ms.length=ys.length/\z5 [some (.ref st),x1,x2,some (.tup (ys.map Hc)),x4,x5,x6,x7,x8,x9] H=.nx [some (.ref st),x1,x2,some (.tup (ys.map Hc)),x4,some (.ref H'.length),x6,x7,x8,x9] (H'++[.lst (ms.map Hc)])/\Com.St st H'/\Fr [st] H H':=by
 have hi:cC fI (aD 3) [some (.ref st),x1,x2,some (.tup (ys.map Hc)),x4,x5,x6,x7,x8,x9] H=.ok (cY (ys.map Hc)) H:=rfl;obtain⟨ρ',H',Gz,h1,a,ms,h2,h3,h4,h5,h6⟩:=DP (src:=cY (ys.map Hc)) (sg:=aI 0) (t:=dP) (m:=cG (aH cZ (aJ (aD 1) (aG 3))))
  (λk ρ H' acc=>∃(a:Bu)(ms:y'),ρ=[a,some (.ref st)]/\acc=ms.map Hc/\ms.length=k/\Com.St st H'/\Fr [st] H H')
  (λk ρ H' acc hk⟨a,ms,e1,e2,e3,e4,e5⟩=>by
   subst e1;subst e2;have Du:k<ys.length:=by simpa[cY]using hk
   obtain⟨r,H1,r0,r1,t1,f1,s1⟩:=pC 3 e4;refine⟨.int ys[k],[some (.int ys[k]),some (.ref st)],by simp[cY,Du],rfl,.inr ⟨H',[some (.int ys[k]),some (.ref st)],(ms++[r]).map Hc,H1,rfl,?_,_,ms++[r],rfl,rfl,by simp[e3],s1,e5.trans f1 (by simp)⟩⟩;have hz:ms.length<1000000:=by lia
   simp[cG,aH,aY,aD,mC,aU,t1,hz]) (λρ H' acc _=>rfl) ys.length 0 [none,some (.ref st)] H [] (by simp[cY]) ⟨none,[],rfl,rfl,rfl,s,Hh⟩
 refine⟨ms,H',by simpa[cY]using h4,?_,h5,h6⟩;have hc:F5 [some (.ref st),x1,x2,some (.tup (ys.map Hc)),x4,x5,x6,x7,x8,x9] H=.ok (ms.map Hc) H':=by unfold F5 cR;rw[hi,Rs.bind_ok];have Gg:mG [none,some 0] [some (.ref st),x1,x2,some (.tup (ys.map Hc)),x4,x5,x6,x7,x8,x9]=[none,some (.ref st)]:=rfl;rw[Gg,show(cY (ys.map Hc)).n=ys.length by simp[cY],h1];dsimp only;rw[h3]
 unfold z5 aR dF;rw[hc];rfl
theorem z4a{H:Hs}(s:Com.St st H):∃(n:Nat)(cs:wo)(H':Hs),sP [.ref st,.int 6] H=.ok (bA n cs) H'/\Ck n cs/\Com.St st H'/\Fr [st] H H':=by
 have lt:=s.lt;obtain⟨v,H1,v0,v1,w1,s1,f1'⟩:=z48 (x2:=none) (x3:=none) (x4:=none) (x5:=none) (x6:=none) (x7:=none) (x8:=none) (x9:=none) s;obtain⟨n,hn⟩:∃n:Nat,(6:Int)-v=n:=⟨(6-v).toNat,by lia⟩
 have n1:1<=n:=by lia
 have n6:n<=6:=by lia
 rw[hn]at w1;have w2:z2 [some (.ref st),some (.int 6),some (.int n),none,none,none,none,none,none,none] H1=.nx [some (.ref st),some (.int 6),some (.int n),none,none,none,none,none,none,none] H1:=by
  have hm:mZ [.int 1,.int (n:Int)] H1=.ok (.int n) H1:=by
   show Ht (Hc (if(n:Int)>1 then(n:Int)else 1)) H1=_
   split
   ·rfl
   ·rw[show(1:Int)=n by lia]
  simp[z2,aR,aH,aY,mC,aD,aU,hm,aI]
 obtain⟨ys,H2,t2,pm,s2,f2⟩:=OV s1 n6;have hy:ys.length=n:=by rw[pm.length_eq];simp[bH]
 have w3:z3 [some (.ref st),some (.int 6),some (.int n),none,none,none,none,none,none,none] H1=.nx [some (.ref st),some (.int 6),some (.int n),some (.tup (ys.map Hc)),none,none,none,none,none,none] H2:=by generalize ys.map Hc=Y at t2;simp[z3,aR,aH,aY,aD,aU,t2,aI]
 obtain⟨w,H3,w0,w5,t3,f3,s3⟩:=pC 5 s2;have w4:z4 [some (.ref st),some (.int 6),some (.int n),some (.tup (ys.map Hc)),none,none,none,none,none,none] H2=.nx [some (.ref st),some (.int 6),some (.int n),some (.tup (ys.map Hc)),some (.int w),none,none,none,none,none] H3:=by simp[z4,aR,aH,aY,aD,mC,aU,t3,aI]
 obtain⟨ms,H4,hm,w6,s4,f4⟩:=z49 (ys:=ys) (x1:=some (.int 6)) (x2:=some (.int n)) (x4:=some (.int w)) (x5:=none) (x6:=none) (x7:=none) (x8:=none) (x9:=none) s3 (by lia);have fN:Fr [] H4 (H4++[Hd (ms.map Hc)]):=He;have gN:getL (H4++[Hd (ms.map Hc)]) H4.length=some (ms.map Hc):=by simp[getL]
 have l4:=s4.lt;obtain⟨im,him⟩:∃im,im=H4.length:=⟨_,rfl⟩
 rw[<-him]at w6 gN;have s5:=s4.fr fN (by simp);have hle5:(H4++[Hd (ms.map Hc)]).length=im+1:=by simp[him]
 generalize H4++[Hd (ms.map Hc)]=H5 at w6 gN s5 fN hle5;have w7:z6 [some (.ref st),some (.int 6),some (.int n),some (.tup (ys.map Hc)),some (.int w),some (.ref im),none,none,none,none] H5=.nx [some (.ref st),some (.int 6),some (.int n),some (.tup (ys.map Hc)),some (.int w),some (.ref im),some (.ref H5.length),none,none,none] (H5++[.lst []]):=rfl;have fM:Fr [] H5 (H5++[Hd []]):=He;have eP:getL (H5++[Hd []]) H5.length=some (([]:wo).map aM):=by simp[getL]
 have D:Sd st im ms (H5++[Hd []]):=⟨s5.fr fM (by simp),fM.getL gN (by simp)⟩
 obtain⟨x7,x8,x9,H6,ps,w8,eP6,hb,hlp,D6,f6⟩:=z46 (d1:=.int 6) (w:=w) (ip:=H5.length) (n:=n) (ys:=ys) (x7:=none) (x8:=none) (x9:=none) D eP ⟨w0,w5⟩ n6 hy (by lia) (by lia) (by lia) (by lia);obtain⟨cs,H7,t7,o,f7⟩:=O2 n1 n6 eP6 (by lia) (z3v pm hb);have hfall:Fr [st] H H7:=by
  have g1:Fr [st] H H3:=(f1'.trans f2 (by simp)).trans f3 (by simp);have g2:Fr [st] H (H5++[Hd []]):=((g1.trans f4 (by simp)).trans fN (by simp)).trans fM (by simp);refine(g2.trans f6 λj hj=>?_).trans f7 (by simp)
  rcases bc.mp hj with rfl|hj
  ·exact .inl (by simp)
  ·rw[cg.mp hj];have:=g1.le;have:=f4.le;right;lia
 refine⟨n,cs,H7,?_,o,D6.s.fr f7 (by simp),hfall⟩;show bV (EN [some (.ref st),some (.int 6),none,none,none,none,none,none,none,none] H)=_;rw[z47,bT w1,bT w2,bT w3,bT w4,bT w6,bT w7,bT w8];have w9:z9 (ev st H5.length im n w (.int 6) ys x7 x8 x9) H6=.rt (bA n cs) H7:=by
  have h1:aH nJ (aJ (aD 2) (aD 6)) (ev st H5.length im n w (.int 6) ys x7 x8 x9) H6=.ok (.tup (cs.map aM)) H7:=by show(aJ (aD 2) (aD 6) (ev st H5.length im n w (.int 6) ys x7 x8 x9) H6).bind _=_;have:aJ (aD 2) (aD 6) (ev st H5.length im n w (.int 6) ys x7 x8 x9) H6=.ok [.int n,.ref H5.length] H6:=rfl;rw[this,Rs.bind_ok,t7]
  unfold z9 aT aO;show((((Ht (Hc n) H6).bind _).bind _).thenS _)=_;rw[Rs.bind_ok];show(((((aH nJ (aJ (aD 2) (aD 6)) (ev st H5.length im n w (.int 6) ys x7 x8 x9) H6).bind _).bind _).bind _).thenS _)=_;rw[h1];rfl
 rw[w9];rfl
end
end L2.Mr.Cod
namespace L2.Mr
theorem z4b{α β:Type}(f:α->β)(xs:List α)(i:Int):dU (xs.map f) i=(dU xs i).map f:=by
 unfold dU;rw[bf]
 cases dS xs.length i with
 |none=>rfl
 |some k=>simp
section
variable{d:Dv}{r:Int}{i j:Nat}{fs:y'}
theorem z4c{H:Hs}{a f:Int}(e:getL H i=some (fs.map Hc))(h:dU fs a=some f):aQ (.ref i) (.int a) H=.ok (.int f) H:=by
 have:dU (fs.map Hc) a=some (.int f):=by rw[z4b,h];rfl
 simp only[aQ,eF,eV,e,gB,this,if_true]
end
theorem O4:∀xs ys:y',fX (xs.map Hv) (ys.map Hv)=decide (xs=ys)
 |[],[]=>by simp[fX]
 |[],y::ys=>by simp[fX]
 |x::xs,[]=>by simp[fX]
 |x::xs,y::ys=>by simp only[cy,fX,O4 xs ys,bU];rw[fv];simp
end L2.Mr
namespace L2.Mr.K01
open L2.Mr.Com
end L2.Mr.K01
namespace L2.Mr.Com
def T0(H:Hs):Dv->Prop
 |.ref i=>∃xs,getL H i=some xs
 |.exc _=>False
 |.scr=>False
 |_=>True
def TK:Nat->Hs->Dv->Prop
 |0,H,d=>T0 H d
 |k+1,H,d=>T0 H d/\∀ds,d=.tup ds->ds.length<=500/\∀x∈ds,TK k H x
theorem TK.t0:∀{k:Nat}{H:Hs}{d:Dv},TK k H d->T0 H d
 |0,_,_,h=>h
 |_+1,_,_,h=>h.1
theorem TK.tup{k:Nat}{H:Hs}{ds:Bt}(hl:ds.length<=500)(h:∀x∈ds,TK k H x):TK (k+1) H (.tup ds):=⟨trivial,λ_ e=>by cases e;exact⟨hl,h⟩⟩
theorem TK.of{k:Nat}{H:Hs}{d:Dv}(h0:T0 H d)(h:∀ds,d≠.tup ds):TK k H d:=by
 cases k with
 |zero=>exact h0
 |succ k=>exact⟨h0,λds e=>absurd e (h ds)⟩
theorem T0.fr{st:Nat}{H H':Hs}{d:Dv}(h:T0 H d)(f:Fr [st] H H')(s:St st H'):T0 H' d:=by
 cases d with
 |ref i=>
  obtain⟨xs,e⟩:=h
  by_cases c:i=st
  ·subst c;obtain⟨a,b,e⟩:=s;exact⟨_,e⟩
  ·exact⟨xs,f.getL e (by simpa using c)⟩
 |_=>exact h
theorem TK.fr{st:Nat}{H H':Hs}(f:Fr [st] H H')(s:St st H'):∀{k:Nat}{d:Dv},TK k H d->TK k H' d
 |0,_,h=>T0.fr h f s
 |k+1,_,h=>⟨h.1.fr f s,λds e=>⟨(h.2 ds e).1,λx hx=>TK.fr f s ((h.2 ds e).2 x hx)⟩⟩
def qQ:Dv->Bool
 |.tup _=>true
 |_=>false
def isInt:Dv->Bool
 |.int _=>true
 |_=>false
section
variable{H:Hs}{d:Dv}{n:Int}
theorem F6(h:T0 H d):bO gR d H=.ok (.bl (qQ d)) H:=by
 cases d with
 |ref i=>obtain⟨xs,e⟩:=h;simp[bO,hO,e,gR,qQ]
 |exc c=>exact h.elim
 |scr=>exact h.elim
 |_=>rfl
theorem z4d(h:T0 H d):bO pX d H=.ok (.bl (match d with|.int _=>true|.bl _=>true|_=>false)) H:=by
 cases d with
 |ref i=>obtain⟨xs,e⟩:=h;simp[bO,hO,e,pX]
 |exc c=>exact h.elim
 |scr=>exact h.elim
 |_=>rfl
theorem z4e(h:T0 H d):bO lJ d H=.ok (.bl (match d with|.bl _=>true|_=>false)) H:=by
 cases d with
 |ref i=>obtain⟨xs,e⟩:=h;simp[bO,hO,e,lJ]
 |exc c=>exact h.elim
 |scr=>exact h.elim
 |_=>rfl
theorem z4f(h:T0 H d):sM [d] H=.ok (.bl (isInt d)) H:=by
 have e1:=z4d h;have e2:=z4e h
 cases d<;>simp[sM,EG,bM,cN,aT,dM,m1,aD,e1,e2,pM,bV,isInt]
def vS(lo hi:Int):Dv->Bool
 |.int x=>decide (lo<=x)&&decide (x<=hi)
 |_=>false
theorem O5{lo hi:Int}(h:T0 H d):oS [d,.int lo,.int hi] H=.ok (.bl (vS lo hi d)) H:=by
 have w:=z4f h
 cases d with
 |int x=>exact FR
 |_=>simp[oS,yR,bM,cN,aT,dM,aH,aY,aD,aU,w,isInt,bV,vS]
def tB(n:Int)(d:Dv):Bool:=vS 0 (n-1) d
theorem z4g(h:T0 H d):kS [.int n,d] H=.ok (.bl (tB n d)) H:=by simp[kS,EH,bM,cN,aT,aH,aY,aD,aU,mC,m2,jH,jA,O5 h,bV,tB]
def tG(n:Int):Dv->Bool
 |.tup ys=>ys.all (tB n)
 |_=>false
theorem z4h(h:TK 1 H d):oU [.int n,d] H=.ok (.bl (tG n d)) H:=by
 have e:=F6 h.1
 cases d with
 |tup xs=>obtain⟨hl,hx⟩:=h.2 xs rfl;have h:cR (cC fI (aD 1)) [none,some 0] (aI 0) dP (cG (aH kS (aJ (aD 1) (aD 0)))) [some (.int n),some (.tup xs)] H=.ok (xs.filterMap λx=>some (.bl (tB n x))) H:=iT xs (λx=>some (.bl (tB n x))) (λρ=>∃a,ρ=[a,some (.int n)]) rfl (by simp[cY]) ⟨_,rfl⟩ rfl (λk hk ρ⟨a,e⟩=>by subst e;exact⟨xs[k],_,by simp[cY,hk],rfl,⟨_,rfl⟩,rfl,by simp[aH,aY,aD,aU,z4g (hx xs[k] (di hk))]⟩) (by lia);simp[oU,yT,bM,cN,aT,dM,m1,bO,aD,hO,gR,sY h,bV,tG]
 |_=>simp[oU,yT,bM,cN,aT,dM,m1,aD,e,qQ,bV,tG]
def pB(n:Int):Dv->Bool
 |.tup ys=>ys.all (tB n)&&decide (ys.length=2)
 |_=>false
theorem z4i(ys:Bt):f1 cU [.tup ys] H=.ok (.int ys.length) H:=rfl
theorem z4j(h:TK 1 H d):lO [.int n,d] H=.ok (.bl (pB n d)) H:=by
 have h1:=z4h (n:=n) h
 cases d with
 |tup ys=>
  cases q:ys.all (tB n)with
  |false=>simp[lO,sN,bM,cN,aT,dM,aH,aY,aD,aU,h1,tG,pB,q,bV]
  |true=>
   have e:((ys.length:Int)==2)=decide (ys.length=2):=by rw[fv];simp;lia
   simp[lO,sN,bM,cN,aT,dM,aH,aY,aD,aU,h1,tG,pB,q,bV,m2,z4i,mC,eq_int,e]
 |_=>simp[lO,sN,bM,cN,aT,dM,aH,aY,aD,aU,h1,tG,pB,bV]
theorem z4k{xs:Bt}(h:TK 2 H (.tup xs)):sO [.int n,.tup xs] H=.ok (.bl (xs.all (pB n))) H:=by obtain⟨hl,hx⟩:=h.2 xs rfl;have h:cR (cC fI (aD 1)) [none,some 0] (aI 0) dP (cG (aH lO (aJ (aD 1) (aD 0)))) [some (.int n),some (.tup xs)] H=.ok (xs.filterMap λp=>some (.bl (pB n p))) H:=iT xs (λp=>some (.bl (pB n p))) (λρ=>∃a,ρ=[a,some (.int n)]) rfl (by simp[cY]) ⟨_,rfl⟩ rfl (λk hk ρ⟨a,e⟩=>by subst e;exact⟨xs[k],_,by simp[cY,hk],rfl,⟨_,rfl⟩,rfl,by simp[aH,aY,aD,aU,z4j (hx xs[k] (di hk))]⟩) (by lia);simp[sO,EI,bM,cN,aT,sY h,bV]
def qR:Dv->Option (Int×Int)
 |.tup [.int a,.int b]=>some (a,b)
 |_=>none
theorem z4l{x:Dv}(h:pB n x=true):∃p,x=aM p/\qR x=some p:=by
 match x,h with
 |.tup [.int a,.int b],_=>exact⟨(a,b),rfl,rfl⟩
 |.tup [a,b],h=>
  simp[pB]at h;obtain⟨h1,h2⟩:=h
  cases a<;>first|(cases h1;done)|skip
  cases b<;>first|(cases h2;done)|skip
  exact⟨_,rfl,rfl⟩
 |.tup [],h=>simp[pB]at h
 |.tup [_],h=>simp[pB]at h
 |.tup (_::_::_::_),h=>simp[pB]at h
theorem O6:∀{xs:Bt},(∀x∈xs,∃p,x=aM p/\qR x=some p)->xs=(xs.filterMap qR).map aM
 |[],_=>rfl
 |x::xs,h=>by obtain⟨p,e,q⟩:=h x (by simp);rw[List.filterMap_cons_some q,cy,<-O6 λy hy=>h y (by simp[hy]),<-e]
def iU:Dv->Bool
 |.tup [.int n,.tup xs]=>xs.all (pB n)&&sZ n (xs.filterMap qR)
 |_=>false
theorem iO{ds:Bt}(h:ds.length≠2):∃L:Int,f1 cU [.tup ds] H=.ok (.int L) H/\bZ (.int L) (.int 2) H=.ok (.bl true) H:=by
 refine⟨ds.length,rfl,?_⟩;have:((ds.length:Int)==2)=false:=by simp;lia
 simp[bZ,cK,bS,bU,this]
theorem F7{ds:Bt}(h:ds.length≠2):jS [.tup ds] H=.ok (.bl false) H:=by obtain⟨L,hlen,hne⟩:=iO (H:=H) h;have e:bO gR (.tup ds) H=.ok (.bl true) H:=rfl;simp[jS,qF,bM,cN,aL,bF,fV,cQ,bN,m1,aD,mB,m2,aH,aY,aU,mC,aT,e,fZ,hlen,hne,fU,bV]
theorem F8{ds:Bt}(h:ds.length≠2):iU (.tup ds)=false:=by
 unfold iU
 split
 ·rename_i e;cases e;simp at h
 ·rfl
theorem z4m(h:TK 3 H d):jS [d] H=.ok (.bl (iU d)) H:=by
 have e:=F6 h.1
 cases d with
 |tup ds=>
  obtain⟨hl,hx⟩:=h.2 ds rfl
  match ds,hl,hx,e,h with
  |[a,b],hl,hx,e,h=>
   have ha:=hx a (by simp);have hb:=hx b (by simp);have b1:=O5 (lo:=1) (hi:=6) ha.t0;have b2:=F6 hb.t0;have hlen:f1 cU [.tup [a,b]] H=.ok (.int 2) H:=rfl
   cases q1:vS 1 6 a with
   |false=>
    rw[q1]at b1;have:iU (.tup [a,b])=false:=by
     cases a with
     |int n=>
      cases b with
      |tup xs=>
       have:¬(1<=n/\n<=6):=by simpa[vS]using q1
       simp only[iU,Bool.and_eq_false_iff];right;unfold sZ
       by_cases c:1<=n
       ·have:¬n<=6:=λc'=>this ⟨c,c'⟩;simp[this]
       ·simp[c]
      |_=>rfl
     |_=>rfl
    rw[this];simp[jS,qF,bM,cN,aL,bF,fV,cQ,bN,m1,aD,e,qQ,fZ,mB,m2,aH,aY,aU,hlen,mC,bZ,cK,bS,bU,fU,bP,aR,gI,dH,aI,gJ,b1,aT,bV]
   |true=>
    rw[q1]at b1
    cases a with
    |int n=>
     cases b with
     |tup xs=>
      have p1:=z4k (n:=n) hb
      cases q2:xs.all (pB n)with
      |false=>rw[q2]at p1;simp[iU,q2,jS,qF,bM,cN,aL,bF,fV,cQ,bN,m1,aD,e,b2,qQ,fZ,mB,m2,aH,aY,aU,hlen,mC,bZ,cK,bS,bU,fU,bP,aR,gI,dH,aI,gJ,b1,p1,aT,bV]
      |true=>
       have ex:=O6 λx hx=>z4l (iw.mp q2 x hx);have hle:(xs.filterMap qR).length<=900:=by have:=td qR xs;have:=(hb.2 xs rfl).1;lia
       have:=OQ (H:=H) (n:=n) (ps:=xs.filterMap qR) hle;rw[<-ex]at this;rw[this];simp[iU,q2]
     |_=>simp[iU,jS,qF,bM,cN,aL,bF,fV,cQ,bN,m1,aD,e,b2,qQ,fZ,mB,m2,aH,aY,aU,hlen,mC,bZ,cK,bS,bU,fU,bP,aR,gI,dH,aI,gJ,b1,aT,bV]
    |_=>cases q1
  |[],hl,hx,e,h=>exact(F7 (by simp)).trans (by rw[F8 (by simp)])
  |[a],hl,hx,e,h=>exact(F7 (by simp)).trans (by rw[F8 (by simp)])
  |a::b::c::r,hl,hx,e,h=>exact(F7 (by simp)).trans (by rw[F8 (by simp)])
 |_=>simp[jS,qF,bM,cN,aL,bF,fV,cQ,bN,m1,aD,e,qQ,fZ,mC,aT,bV,iU]
end
theorem T0.fr0{H H':Hs}{d:Dv}(h:T0 H d)(f:Fr [] H H'):T0 H' d:=by
 cases d with
 |ref i=>obtain⟨xs,e⟩:=h;exact⟨xs,f.getL e (by simp)⟩
 |_=>exact h
theorem TK.fr0{H H':Hs}(f:Fr [] H H'):∀{k:Nat}{d:Dv},TK k H d->TK k H' d
 |0,_,h=>T0.fr0 h f
 |k+1,_,h=>⟨h.1.fr0 f,λds e=>⟨(h.2 ds e).1,λx hx=>TK.fr0 f ((h.2 ds e).2 x hx)⟩⟩
def O7(P:Ev->Hs->Prop):Prop:=∀ρ H H',P ρ H->Fr [] H H'->P ρ H'
def Wr(P:Ev->Hs->Prop)(k:Nat)(m:M Dv):Prop:=∀ρ H,P ρ H->∃d H',m ρ H=.ok d H'/\Fr [] H H'/\TK k H' d
def mT(P:Ev->Hs->Prop)(k n:Nat)(ms:M Bt ):Prop:=∀ρ H,P ρ H->∃ds H',ms ρ H=.ok ds H'/\Fr [] H H'/\ds.length=n/\∀x∈ds,TK k H' x
section
variable{P:Ev->Hs->Prop}{k n m':Nat}{m:M Dv}{ms:M Bt}
theorem F9:mT P k 0 aU:=λρ H _=>⟨[],H,rfl,Hh,rfl,λx hx=>by cases hx⟩
theorem GA(hP:O7 P)(h:Wr P k m)(hs:mT P k n ms):mT P k (n+1) (aY m ms):=λρ H p=>by
 obtain⟨d,H1,e1,f1,t1⟩:=h ρ H p;obtain⟨ds,H2,e2,f2,l2,t2⟩:=hs ρ H1 (hP ρ H H1 p f1);refine⟨d::ds,H2,?_,f1.trans f2 (by simp),by simp[l2],λx hx=>?_⟩
 ·unfold aY;rw[e1,Rs.bind_ok,e2,Rs.bind_ok]
 ·rcases bc.mp hx with rfl|hx
  ·exact t1.fr0 f2
  ·exact t2 x hx
theorem vT(h:∀ρ H,P ρ H->∃d,m ρ H=.ok d H/\TK k H d):Wr P k m:=λρ H p=>let ⟨d,e,t⟩:=h ρ H p;⟨d,H,e,Hh,t⟩
theorem GB{i:Int}:Wr P k (aG i):=vT λρ H _=>⟨_,rfl,TK.of trivial λ_ e=>by cases e⟩
theorem GC{i:Bool}:Wr P k (mC (.bl i)):=vT λρ H _=>⟨_,rfl,TK.of trivial λ_ e=>by cases e⟩
theorem GD:Wr P k (mC .non):=vT λρ H _=>⟨_,rfl,TK.of trivial λ_ e=>by cases e⟩
theorem GF{s}:Wr P k (mC (.str s)):=vT λρ H _=>⟨_,rfl,TK.of trivial λ_ e=>by cases e⟩
theorem GG:Wr P k (mC .edc):=vT λρ H _=>⟨_,rfl,TK.of trivial λ_ e=>by cases e⟩
theorem AK(h:mT P k n ms)(hn:n<=500):Wr P (k+1) (aO ms):=λρ H p=>by obtain⟨ds,H1,e1,f1,l1,t1⟩:=h ρ H p;refine⟨.tup ds,H1,?_,f1,TK.tup (by lia) t1⟩;unfold aO lim;rw[e1,Rs.bind_ok,if_pos (by lia)]
theorem GH(h:mT P 0 n ms)(hn:n<=500):Wr P 0 (aO ms):=λρ H p=>let ⟨d,H',e,f,t⟩:=AK h hn ρ H p;⟨d,H',e,f,t.1⟩
theorem GI(h:mT P 0 n ms)(hn:n<=500):Wr P k (aZ ms):=λρ H p=>by obtain⟨ds,H1,e1,f1,l1,t1⟩:=h ρ H p;refine⟨.ref H1.length,H1++[.lst ds],?_,f1.trans (T:=[]) He (by simp),TK.of ⟨ds,by simp[getL]⟩ λ_ e=>by cases e⟩;unfold aZ lim;rw[e1,Rs.bind_ok,if_pos (by lia)]
end
theorem GJ{ρ:Ev}{H H1 H2:Hs}{st i j:Nat}{ml:M Dv}(hv:aD st ρ H=.ok (.ref i) H)(e1:ml ρ H=.ok (.ref j) H1)(e2:cV (.ref i) (.ref j) H1=.ok (.ref H1.length) H2):m2 cV (aD st) ml ρ H=.ok (.ref H1.length) H2:=by unfold m2;rw[hv,Rs.bind_ok,e1,Rs.bind_ok,e2]
end L2.Mr.Com
namespace L2.Mr.Cod
open L2.Mr.Com
section
variable{H:Hs}
theorem nS{i j:Nat}{xs ys:Bt}(e1:getL H i=some xs)(e2:getL H j=some ys)(hl:xs.length+ys.length<=500):cV (.ref i) (.ref j) H=.ok (.ref H.length) (H++[.lst (xs++ys)]):=by simp[cV,mY,e1,e2,lim];lia
theorem kC{i j:Nat}{ds:Bt}(e:getL H i=some ds)(hj:j<ds.length):aQ (.ref i) (.int j) H=.ok ds[j] H:=by
 have h1:dS ds.length (j:Int)=some j:=by unfold dS;rw[if_pos (by lia),if_pos (by lia)];simp
 have h2:dU ds (j:Int)=some ds[j]:=by unfold dU;rw[h1];simp[hj]
 simp only[aQ,eF,eV,e,gB,h2,if_true]
theorem last_get{x:Bt}:getL (H++[.lst x]) H.length=some x:=by simp[getL]
end
def vU:M Bt:=(aY (mC .non) (aY (aO aU) (aY (aO (aJ (aG 0) (aO aU))) (aY (aO (aJ (aG 7) (aO aU))) (aY (aO (aJ (mC (.bl true)) (aO aU))) (gW (aO (aJ (aG 2) (aZ (aN (aO (aJ (aG 0) (aG 1))))))) (aO (aJ (aG 2) (aO (aJ (aO (aJ (aG 1) (aG 0))) (aO (aJ (aG 0) (aG 1))))))) (aO (aJ (aG 2) (aO (aN (aO (aJ (aG 0) (aG 0))))))) (aZ (aJ (aG 2) (aO aU)))))))))
def vV:M Bt:=(aY (aO (aJ (aG 3) (aO (aJ (aO (aJ (aG 0) (aG 1))) (aO (aJ (aG 1) (aG 2))))))) (aY (aO (aJ (aG 2) (aO (aJ (aO (aJ (aG 0) (aG 1))) (aO (aJ (aG 0) (aG 1))))))) (gW (aO (aJ (aG 2) (aO (aN (aO (aJ (aG 0) (aG 2))))))) (aO (aJ (aG 2) (aO (aN (aO (aJ (aG 0) (mC (.bl true)))))))) (aO (aN (aG 2))) (aO (eZ (aG 2) (aO aU) (aO aU))))))
def vW:M Bt:=(aY (aO (aJ (aG 3) (aO (aJ (aO (aJ (aG 0) (aG 2))) (aO (aJ (aG 0) (aG 1))))))) (gW (mC (.str "2: 0<1")) (mC .edc) (aO (aJ (aG 2) (aO (aN (aO (eZ (aG 0) (aG 1) (aG 1))))))) (aO (aJ (aG 2) (aO (aJ (aO (aJ (aG 0) (aG 1))) (aO (aJ (aG 1) (aG 0)))))))))
theorem z4n:EO=aL (aR (aZ vU) (aI 1)) (aL (aR (m2 cV (aD 1) (aZ vV)) (aI 1)) (aL (aR (m2 cV (aD 1) (aZ vW)) (aI 1)) (aT (m2 aQ (aD 1) (aH cZ (aJ (aD 0) (aG 20))))))):=rfl
theorem z4o{ρ:Ev}{H H':Hs}{ds:Bt}(e:vU ρ H=.ok ds H'):∀x∈ds,iU x=false:=by
 have e2:Ht _ _=Ht ds H':=e;injection e2 with e3 e4;subst e3
 repeat' (first|exact vj _|refine ve.mpr ⟨rfl,?_⟩)
theorem z4p{ρ:Ev}{H H':Hs}{ds:Bt}(e:vV ρ H=.ok ds H'):∀x∈ds,iU x=false:=by
 have e2:Ht _ _=Ht ds H':=e;injection e2 with e3 e4;subst e3
 repeat' (first|exact vj _|refine ve.mpr ⟨rfl,?_⟩)
theorem z4q{ρ:Ev}{H H':Hs}{ds:Bt}(e:vW ρ H=.ok ds H'):∀x∈ds,iU x=false:=by
 have e2:Ht _ _=Ht ds H':=e;injection e2 with e3 e4;subst e3
 repeat' (first|exact vj _|refine ve.mpr ⟨rfl,?_⟩)
def MnB(n:Nat)(H:Hs)(i:Nat):Prop:=∃ds,getL H i=some ds/\ds.length=n/\(∀x∈ds,TK 3 H x)/\∀x∈ds,iU x=false
section
variable{n m:Nat}{H H':Hs}{i j:Nat}
theorem MnB.fr0(h:MnB n H i)(f:Fr [] H H'):MnB n H' i:=by obtain⟨ds,e,l,t,b⟩:=h;exact⟨ds,f.getL e (by simp),l,λx hx=>(t x hx).fr0 f,b⟩
theorem MnB.fr{st:Nat}(h:MnB n H i)(f:Fr [st] H H')(s:Com.St st H')(hi:i≠st):MnB n H' i:=by obtain⟨ds,e,l,t,b⟩:=h;exact⟨ds,f.getL e (by simpa using hi),l,λx hx=>(t x hx).fr f s,b⟩
theorem GK{ms:M Bt}{ρ:Ev}(h:mT (λ_ _=>True) 3 n ms)(hb:∀{ρ:Ev}{H H':Hs}{ds:Bt},ms ρ H=.ok ds H'->∀x∈ds,iU x=false)(hn:n<=500):∃i H',aZ ms ρ H=.ok (.ref i) H'/\MnB n H' i/\Fr [] H H'/\H.length<=i:=by obtain⟨ds,H1,e1,f1,l1,t1⟩:=h ρ H trivial;refine⟨H1.length,H1++[.lst ds],?_,⟨ds,last_get,l1,λx hx=>(t1 x hx).fr0 He,hb e1⟩,f1.trans (T:=[]) He (by simp),f1.le⟩;unfold aZ lim;rw[e1,Rs.bind_ok,if_pos (by lia)]
theorem O8(a:MnB n H i)(b:MnB m H j)(hn:n+m<=500):∃H',cV (.ref i) (.ref j) H=.ok (.ref H.length) H'/\MnB (n+m) H' H.length/\Fr [] H H':=by
 obtain⟨ds,e1,l1,t1,b1⟩:=a;obtain⟨es,e2,l2,t2,b2⟩:=b;refine⟨_,nS e1 e2 (by lia),⟨ds++es,last_get,by simp[l1,l2],λx hx=>?_,λx hx=>?_⟩,He⟩
 ·rcases fq.mp hx with hx|hx
  ·exact(t1 x hx).fr0 He
  ·exact(t2 x hx).fr0 He
 ·rcases fq.mp hx with hx|hx
  ·exact b1 x hx
  ·exact b2 x hx
end
theorem z4r{st:Nat}{H:Hs}(s:Com.St st H):∃d H',uY [.ref st] H=.ok d H'/\TK 3 H' d/\iU d=false/\Com.St st H'/\Fr [st] H H':=by
 have hP:O7 λ_ _=>True:=λ_ _ _ _ _=>trivial;have lt:=s.lt;have k1:mT (λ_ _=>True) 3 9 vU:=(by
   unfold vU
   repeat' (first|exact F9|apply GA hP|exact GB|exact GC|exact GD|exact GF|exact GG|apply AK|apply GH|apply GI)
   all_goals decide)
 have k2:mT (λ_ _=>True) 3 6 vV:=(by
   unfold vV
   repeat' (first|exact F9|apply GA hP|exact GB|exact GC|exact GD|exact GF|exact GG|apply AK|apply GH|apply GI)
   all_goals decide)
 have k3:mT (λ_ _=>True) 3 5 vW:=(by
   unfold vW
   repeat' (first|exact F9|apply GA hP|exact GB|exact GC|exact GD|exact GF|exact GG|apply AK|apply GH|apply GI)
   all_goals decide)
 obtain⟨i1,H1,e1,m1,f1,l1⟩:=GK (ρ:=[some (.ref st),none]) (H:=H) k1 z4o (by decide);obtain⟨j2,H2,e2,m2',f2,l2⟩:=GK (ρ:=[some (.ref st),some (.ref i1)]) (H:=H1) k2 z4p (by decide);obtain⟨H3,e3,m3,f3⟩:=O8 (m1.fr0 f2) m2' (by decide);obtain⟨j4,H4,e4,m4,f4,l4⟩:=GK (ρ:=[some (.ref st),some (.ref H2.length)]) (H:=H3) k3 z4q (by decide);obtain⟨H5,e5,m5,f5⟩:=O8 (m3.fr0 f4) m4 (by decide);have g:Fr [] H H5:=(((f1.trans f2 (by simp)).trans f3 (by simp)).trans f4 (by simp)).trans f5 (by simp);obtain⟨r,H6,r0,r1,t6,f6,s6⟩:=pC 20 (s.fr g (by simp));have hle:H.length<=H4.length:=((f1.trans (f2.trans (f3.trans f4 (by simp)) (by simp)) (by simp)):Fr [] H H4).le;obtain⟨ds,e7,l7,t7,b7⟩:=m5.fr f6 s6 (by lia);obtain⟨j,rfl⟩:∃j:Nat,r=j:=⟨r.toNat,by lia⟩
 have hj:j<ds.length:=by lia
 have e8:=kC e7 hj;refine⟨ds[j],H6,?_,t7 _ (di hj),b7 _ (di hj),s6,(g.mono (T:=[st]) (by simp)).trans f6 (by simp)⟩;show bV (EO [some (.ref st),none] H)=_;have w1:aR (aZ vU) (aI 1) [some (.ref st),none] H=.nx [some (.ref st),some (.ref i1)] H1:=by unfold aR;rw[e1];rfl
 have w2:aR (L2.Mr.m2 cV (aD 1) (aZ vV)) (aI 1) [some (.ref st),some (.ref i1)] H1=.nx [some (.ref st),some (.ref H2.length)] H3:=by unfold aR;rw[GJ rfl e2 e3];rfl
 have w3:aR (L2.Mr.m2 cV (aD 1) (aZ vW)) (aI 1) [some (.ref st),some (.ref H2.length)] H3=.nx [some (.ref st),some (.ref H4.length)] H5:=by unfold aR;rw[GJ rfl e4 e5];rfl
 rw[z4n,bT w1,bT w2,bT w3];simp[aT,L2.Mr.m2,aD,aH,aY,mC,aU,t6,e8,bV]
end L2.Mr.Cod
namespace L2.Mr
theorem z4s{fs:y'}{a:Int}(h0:0<=a)(h1:a<fs.length):dU fs a=some (fs.getD a.toNat 0):=by
 obtain⟨k,rfl⟩:∃k:Nat,a=k:=⟨a.toNat,by lia⟩
 have hk:k<fs.length:=by lia
 unfold dU dS;rw[if_pos (by lia),if_pos (by lia)];simp[hk]
end L2.Mr
namespace L2.Mr.Cod
open L2.Mr.Com
def gS(ps:wo)(a b:Int):Prop:=a≠b/\(a,b)∉ps/\(b,a)∉ps
instance (ps:wo) (a b:Int):Decidable (gS ps a b):=by unfold gS;infer_instance
theorem O9{α:Type}{p q:α->Bool}:∀{l:List α},(∀x∈l,p x=true->q x=true)->(l.filter p).length<=(l.filter q).length/\((∃x∈l,q x=true/\p x=false)->(l.filter p).length<(l.filter q).length)
 |[],_=>by simp
 |a::l,h=>by
  obtain⟨h1,h2⟩:=O9 (l:=l) λx hx=>h x (by simp[hx]);have ha:=h a (by simp);rw[xl,xl]
  cases hp:p a with
  |true=>
   rw[ha hp];simp only[if_true,cm];refine⟨by lia,λ⟨x,hx,e1,e2⟩=>?_⟩
   rcases bc.mp hx with rfl|hx
   ·rw[hp]at e2;cases e2
   ·have:=h2 ⟨x,hx,e1,e2⟩;lia
  |false=>
   cases hq:q a with
   |true=>simp only[if_true,cm,cf,if_false];exact⟨by lia,λ_=>by lia⟩
   |false=>
    simp only[cf,if_false];refine⟨h1,λ⟨x,hx,e1,e2⟩=>?_⟩
    rcases bc.mp hx with rfl|hx
    ·rw[hq]at e1;cases e1
    ·exact h2 ⟨x,hx,e1,e2⟩
section
variable{n:Nat}{ps:wo}{r:Int}{fs:y'}
def nU(n:Nat)(ps:wo)(t:Int):Nat:=((az n).filter λc:Nat=>decide (((c:Int),t)∈ps)).length
theorem PB(o:Ck n ps){a t:Int}(h:(a,t)∈ps):nU n ps a<nU n ps t:=by
 have hr:=o.rng _ h;refine(O9 λc hc e=>?_).2 ⟨a.toNat,by simp;lia,?_,?_⟩
 ·exact decide_eq_true (o.tr _ (of_decide_eq_true e) _ h rfl)
 ·have:((a.toNat:Nat):Int)=a:=by lia
  rw[this];exact decide_eq_true h
 ·have:((a.toNat:Nat):Int)=a:=by lia
  rw[this];exact decide_eq_false λz=>o.irr _ z rfl
end
section
variable{n:Nat}{ps:wo}{r:Int}{H:Hs}
theorem z4t{a b:Int}:lQ [bA n ps,.int a,.int b] H=.ok (.bl (decide (gS ps a b))) H:=by
 have h1:=z39 (n:=n) (ps:=ps) H;have t1:=qC true H (a,b) ps;have t2:=qC true H (b,a) ps;simp only[aM,if_true]at t1 t2;have hne:bZ (.int a) (.int b) H=.ok (.bl (!(a==b))) H:=by simp[bZ,cK,bS,bU]
 generalize bA n ps=d at h1;simp only[gS]
 by_cases c0:a=b
 ·subst c0;simp[lQ,yY,bM,cN,aL,aR,m2,aD,mC,h1,aI,aT,dM,hne,bV]
 ·have c0':(a==b)=false:=by simpa using c0
  by_cases c1:(a,b)∈ps
  ·simp[lQ,yY,bM,cN,aL,aR,m2,aD,mC,h1,aI,aT,dM,hne,c0',aO,aY,aU,lim,t1,c1,bV]
  ·simp[lQ,yY,bM,cN,aL,aR,m2,aD,mC,h1,aI,aT,dM,hne,c0',c0,aO,aY,aU,lim,t1,c1,t2,bV]
end
section
variable{n:Nat}{ps:wo}{r:Int}{H:Hs}{i j:Nat}{fs:y'}{nd:List (Int×Int×Int)}
theorem ixg{k:Int}(e:getL H j=some (fs.map Hc))(h0:0<=k)(h1:k<fs.length):aQ (.ref j) (.int k) H=.ok (.int (fs.getD k.toNat 0)) H:=z4c e (z4s h0 h1)
end
section
variable{n:Nat}{ps:wo}{r:Int}{H:Hs}{i j:Nat}{fs:y'}{nd:List (Int×Int×Int)}{d:Dv}
theorem need_ok(o:Ck n ps):jJ [bA n ps] H=.ok .non H:=by simp[jJ,qH,bM,cN,bF,cQ,bN,aH,aY,aD,aU,z3l o,fZ,bP,bV]
theorem z4u(h:TK 3 H d)(hb:iU d=false):jJ [d] H=.ex 0 H:=by have e:=z4m h;rw[hb]at e;simp[jJ,qH,bM,cN,bF,cQ,bN,aH,aY,aD,aU,e,fZ,uC,mC,bV]
end
end L2.Mr.Cod
namespace L2.Mr.Com
end L2.Mr.Com
namespace L2.Mr.Gen
open L2.Mr.Com
theorem PC{t u:M Bool}{ρ:Ev}{h h1:Hs}(e:t ρ h=.ok false h1):fV t u ρ h=u ρ h1:=by unfold fV;rw[e];rfl
theorem PD{t:M Bool}{ρ:Ev}{h h1:Hs}{b:Bool}(e:t ρ h=.ok b h1):cQ t ρ h=.ok (!b) h1:=by unfold cQ;rw[e];rfl
section
variable{H:Hs}{xs:y'}
theorem GL(ns:y'):cD hW (ns.map Hc)=some ns:=by
 induction ns with
 |nil=>rfl
 |cons x xs ih=>simp[cD,hW,ih]
theorem GN{m:M Dv}{ρ:Ev}{H:Hs}{L:Int}(e:m ρ H=.ok (.int L) H)(h0:0<=L)(h1:L<=1000):aX cJ (aN m) ρ H=.ok (bX 0 L) H:=by
 have hr:iN L=true:=by simp[iN];lia
 simp[aX,aY,e,aU,cJ,hr]
theorem GO{α:Type}(p:α->Bool)(f:α->Dv)(l:List α):(l.filterMap λq=>if p q then some (f q)else none)=(l.filter p).map f:=by
 induction l with
 |nil=>rfl
 |cons k l ih=>
  rw[cu,xl]
  cases c:p k with
  |true=>simp only[if_true,cy];rw[ih]
  |false=>simp only[cf,if_false];exact ih
theorem vX{m:M Dv}{ρ ρ1:Ev}{i:Nat}{H H':Hs}{v:Dv}(e:m ρ H=.ok v H')(hs:aI i v ρ=some ρ1):aR m (aI i) ρ H=.nx ρ1 H':=by simp[aR,e,hs]
theorem GP{m:M Bt}{ρ:Ev}{i:Nat}{H H':Hs}{ds:Bt}{ρ1:Ev}(e:m ρ H=.ok ds H')(hs:aI i (.ref H'.length) ρ=some ρ1):aR (dF m) (aI i) ρ H=.nx ρ1 (H'++[.lst ds]):=by
 have ea:dF m ρ H=.ok (.ref H'.length) (H'++[.lst ds]):=by unfold dF;rw[e];rfl
 exact vX ea hs
theorem dI{f:Dv->Dv->Hs->Rs Dv}{ma mb:M Dv}{ρ:Ev}{H H1 H2 H3:Hs}{x y z:Dv}(ha:ma ρ H=.ok x H1)(hb:mb ρ H1=.ok y H2)(hf:f x y H2=.ok z H3):m2 f ma mb ρ H=.ok z H3:=by unfold m2;rw[ha,Rs.bind_ok,hb,Rs.bind_ok,hf]
end
abbrev At(ρ:Ev)(i:Nat)(d:Dv):Prop:=ρ[i]?=some (some d)
section
variable{ρ:Ev}{i j:Nat}{d:Dv}{H H':Hs}
theorem At.v(h:At ρ i d):aD i ρ=λH=>.ok d H:=by funext H;unfold aD;rw[h]
theorem At.new(h:i<ρ.length):At (ρ.set i (some d)) i d:=by simp[At,h]
theorem At.o(h:At ρ j d){x:Bu}(hn:i≠j:=by decide):At (ρ.set i x) j d:=(da hn).trans h
theorem At.c1(h:At ρ i d):mJ [i] ρ=some [d]:=by simp[mJ,show ρ[i]?=some (some d) from h]
theorem qS{m:M Dv}{v:Dv}(e:m ρ H=.ok v H'):aR m (aI i) ρ H=.nx (ρ.set i (some v)) H':=vX e rfl
end
end L2.Mr.Gen
namespace L2.Mr.K74
open L2.Mr.Gen
open L2.Mr.Cod
open L2.Mr.Com
theorem rng_of{m:Int}{H:Hs}(hr:iN m=true):cJ [.int m] H=.ok (bX 0 m) H:=by simp[cJ,hr]
structure OkN(ns:y'):Prop where
 l1:1<=ns.length
 l6:ns.length<=6
 pos:∀n∈ns,1<=n
theorem z4v{H:Hs}{q:Nat}{ks:y'}(e:getL H q=some (ks.map Hc)):cP (.ref q) (.ref H.length) (H++[.lst []])=.ok (.bl ks.isEmpty) (H++[.lst []]):=by
 have p1:bS cK (H++[.lst []]) (.ref q)=some (.lst (ks.map Hv)):=by show bS (28+1+1) (H++[.lst []]) (.ref q)=_;rw[bS];simp only[fL (l:=[.lst []]) e,sD]
 have p2:bS cK (H++[.lst []]) (.ref H.length)=some (.lst []):=by
  show bS (28+1+1) (H++[.lst []]) (.ref H.length)=_;rw[bS];have:getL (H++[.lst []]) H.length=some []:=by simp[getL]
  simp only[this];rfl
 unfold cP;rw[p1,p2]
 cases ks<;>simp[bU,fX]
def AL:MS:=dN (gC (aD 1) (m2 cV (aG 1) (m2 aQ (aZ (gW (aG 0) (aG 0) (aH cZ (aJ (aD 0) (aG 3))) (aH cZ (aJ (aD 0) (aG 6))))) (aH cZ (aJ (aD 0) (aG 4))))))
def tH:MS:=bF (fV (mB (m2 kM (aD 5) (aD 3))) (mB (m2 cP (aD 4) (aZ aU)))) (aL (dN (gC (aD 4) (aD 5))) (aR (m2 jH (aD 3) (aD 5)) (aI 3))) bP
section
variable{H:Hs}{st p q:Nat}{xs:Bt}
theorem z4w{ρ:Ev}(h0:ρ[0]?=some (some (.ref st)))(h1:ρ[1]?=some (some (.ref p)))(s:Com.St st H)(e:getL H p=some xs)(hp:p≠st)(hl:xs.length<1000000):
  ∃(n:Int)(H':Hs),1<=n/\AL ρ H=.nx ρ H'/\getL H' p=some (xs++[.int n])/\Fr [st,p] H H'/\Com.St st H':=by
 obtain⟨r3,H1,a0,a1,t1,f1,s1⟩:=qO 3 s h0;obtain⟨r6,H2,b0,b1,t2,f2,s2⟩:=qO 6 s1 h0;have f3:Fr [] H2 (H2++[.lst [.int 0,.int 0,.int r3,.int r6]]):=He;have s3:=s2.fr f3 (by simp);obtain⟨r4,H4,c0,c1,t4,f4,s4⟩:=qO 4 s3 h0;have hlt:=s2.lt;have hps:p∉[st]:=by simpa using hp
 have g:getL H4 H2.length=some [.int 0,.int 0,.int r3,.int r6]:=f4.getL (by simp[getL]) (by simp;lia);have gp:getL H4 p=some xs:=f4.getL (fL (f2.getL (f1.getL e hps) hps)) hps;have⟨v,v0,hv⟩:∃v,0<=v/\aQ (.ref H2.length) (.int r4) H4=.ok (.int v) H4:=by
  have:r4=0∨r4=1∨r4=2∨r4=3:=by lia
  rcases this with rfl|rfl|rfl|rfl
  ·exact⟨0,by lia,by simp[aQ,eF,eV,g,gB,dU,dS]⟩
  ·exact⟨0,by lia,by simp[aQ,eF,eV,g,gB,dU,dS]⟩
  ·exact⟨r3,by lia,by simp[aQ,eF,eV,g,gB,dU,dS]⟩
  ·exact⟨r6,by lia,by simp[aQ,eF,eV,g,gB,dU,dS]⟩
 have fr:Fr [st,p] H H4:=((f1.trans f2 (λj hj=>.inl hj)).trans f3 (by simp)).trans f4 (λj hj=>.inl hj)|>.mono (by simp)
 refine⟨1+v,H4.set p (.lst (xs++[.int (1+v)])),by lia,?_,lL gp,fr.trans Ho (by simp),s4.fr Ho (by simpa using dg hp)⟩;simp[AL,dN,gC,aD,h1,jD,e,m2,mC,aZ,aY,aU,lim,t1,t2,t4,hv,cV,mY,kL,gp,hl]
theorem PF{m:Int}:∀(f k:Nat)(H:Hs)(ns:y')(x2:Bu),Com.St st H->getL H p=some (ns.map Hc)->p≠st->ns.length+f<=1000->(∀n∈ns,1<=n)->
  ∃(ms:y')(H':Hs)(y2:Bu),fS (bX 0 m) (aI 2) AL f k [some (.ref st),some (.ref p),x2,none,none,none] H=.nx [some (.ref st),some (.ref p),y2,none,none,none] H'/\getL H' p=some (ms.map Hc)/\ms.length=ns.length+f/\(∀n∈ms,1<=n)/\Fr [st,p] H H'/\Com.St st H'
 |0,k,H,ns,x2,s,e,hp,hl,h1=>⟨ns,H,x2,by simp[fS,bX],e,rfl,h1,Hh,s⟩
 |f+1,k,H,ns,x2,s,e,hp,hl,h1=>by
  obtain⟨n,H1,n1,hb,e1,f1,s1⟩:=z4w (ρ:=[some (.ref st),some (.ref p),some (.int (0+(k:Int))),none,none,none]) rfl rfl s e hp (by simp;lia);obtain⟨ms,H2,y2,hf,e2,l2,p2,f2,s2⟩:=PF (m:=m) f (k+1) H1 (ns++[n]) (some (.int (0+(k:Int)))) s1 (by rw[e1];simp) hp (by simp;lia) (λa ha=>by
   simp at ha
   rcases ha with ha|rfl
   ·exact h1 a ha
   ·exact n1)
  refine⟨ms,H2,y2,?_,e2,by rw[l2];simp;lia,p2,f1.trans f2 (λj hj=>.inl hj),s2⟩;rw[<-hf];have hg:(bX 0 m).get k H=some (.int (0+(k:Int))):=rfl;have hs:aI 2 (.int (0+(k:Int))) [some (.ref st),some (.ref p),x2,none,none,none]=some [some (.ref st),some (.ref p),some (.int (0+(k:Int))),none,none,none]:=rfl;exact uR hg hs hb
theorem z4x{ρ:Ev}{left n:Int}{ks:y'}(hl:6<=ρ.length)(h3:ρ[3]?=some (some (.int left)))(h4:ρ[4]?=some (some (.ref q)))(h5:ρ[5]?=some (some (.int n)))(e:getL H q=some (ks.map Hc))(hk:ks.length<1000):
  ∃(Gm:y')(left':Int)(H':Hs),tH ρ H=.nx (ρ.set 3 (some (.int left'))) H'/\getL H' q=some (Gm.map Hc)/\(Gm=ks++[n]∨Gm=ks/\ks≠[])/\Fr [q] H H':=by
 have self:ρ.set 3 (some (.int left))=ρ:=by
  apply sk
  intro i
  by_cases hi:3=i
  ·subst hi;rw[dv (by lia),h3]
  ·rw[da hi]
 have go:∀H1,getL H1 q=some (ks.map Hc)->aL (dN (gC (aD 4) (aD 5))) (aR (m2 jH (aD 3) (aD 5)) (aI 3)) ρ H1=.nx (ρ.set 3 (some (.int (left-n)))) (H1.set q (.lst ((ks++[n]).map Hc))):=λH1 e1=>by
  have Du:ks.length<1000000:=by lia
  simp[aL,dN,gC,aD,h3,h4,h5,jD,e1,kL,Du,aR,m2,jH,jA,aI]
 by_cases hle:n<=left
 ·refine⟨ks++[n],left-n,_,?_,lL e,.inl rfl,Ho⟩;unfold tH;rw[nE (h1:=H) (by simp[fV,mB,m2,aD,h5,h3,kM,jA,hle,fU])];exact go H e
 ·have ea:fV (mB (m2 kM (aD 5) (aD 3))) (mB (m2 cP (aD 4) (aZ aU))) ρ H=.ok ks.isEmpty (H++[.lst []]):=by simp[fV,mB,m2,aD,h5,h3,h4,kM,jA,hle,fU,aZ,aU,lim,z4v e]
  cases ks with
  |nil=>refine⟨[]++[n],left-n,_,?_,lL (fL (l:=[.lst []]) e),.inl rfl,(He (S:=[q]) (l:=[.lst []])).trans Ho (by simp)⟩;unfold tH;rw[nE ea];exact go _ (fL e)
  |cons a t=>refine⟨a::t,left,_,?_,fL (l:=[.lst []]) e,.inr ⟨rfl,by simp⟩,He⟩;unfold tH;rw[fW ea,self];rfl
theorem PH{ns:y'}{x2:Bu}(hp:∀n∈ns,1<=n)(h6:ns.length<=6)(hpq:p≠q):∀(f k:Nat)(H:Hs)(left:Int)(ks:y')(x5:Bu),f+k=ns.length->getL H p=some (ns.map Hc)->getL H q=some (ks.map Hc)->ks.length<=k->(∀n∈ks,1<=n)->(ks=[]->k=0)->
  ∃(ms:y')(H':Hs)(l':Int)(y5:Bu),fS (eW p ns.length) (aI 5) tH f k [some (.ref st),some (.ref p),x2,some (.int left),some (.ref q),x5] H=.nx [some (.ref st),some (.ref p),x2,some (.int l'),some (.ref q),y5] H'/\getL H' q=some (ms.map Hc)/\ms.length<=ns.length/\(∀n∈ms,1<=n)/\(ms=[]->ns=[])/\Fr [q] H H'
 |0,k,H,left,ks,x5,h,ep,eq,hk,h1,hz=>⟨ks,H,left,x5,by simp[fS,eW,ep],eq,by lia,h1,λz=>ub.mp (by have:=hz z;lia),Hh⟩
 |f+1,k,H,left,ks,x5,h,ep,eq,hk,h1,hz=>by
  have hlt:k<ns.length:=by lia
  have hn:=hp ns[k] (di hlt);obtain⟨Gm,l',H1,hb,e1,hks,f1⟩:=z4x (ρ:=[some (.ref st),some (.ref p),x2,some (.int left),some (.ref q),some (.int ns[k])]) (by simp) rfl rfl rfl eq (by lia);have ep1:getL H1 p=some (ns.map Hc):=f1.getL ep (by simpa using hpq);have c1:Gm.length<=k+1:=by
   rcases hks with rfl|⟨rfl,_⟩
   ·simp;lia
   ·lia
  have c2:∀n∈Gm,1<=n:=by
   rcases hks with rfl|⟨rfl,_⟩
   ·intro n hn';simp at hn'
    rcases hn' with hn'|rfl
    ·exact h1 n hn'
    ·exact hn
   ·exact h1
  have c3:Gm=[]->k+1=0:=by
   rcases hks with rfl|⟨rfl,z⟩
   ·simp
   ·exact λw=>absurd w z
  obtain⟨ms,H2,l2,y5,hf,e2,lm,pm,zm,f2⟩:=PH hp h6 hpq f (k+1) H1 l' Gm (some (.int ns[k])) (by lia) ep1 e1 c1 c2 c3;refine⟨ms,H2,l2,y5,?_,e2,lm,pm,zm,f1.trans f2 (λj hj=>.inl hj)⟩;rw[<-hf];have hg:(eW p ns.length).get k H=some (.int ns[k]):=by simp[eW,ep,hlt]
  have hs:aI 5 (.int ns[k]) [some (.ref st),some (.ref p),x2,some (.int left),some (.ref q),x5]=some [some (.ref st),some (.ref p),x2,some (.int left),some (.ref q),some (.int ns[k])]:=rfl;exact uR hg hs hb
theorem z4y:sQ=(aL (aR (aZ aU) (aI 1)) (aL (dC (aX cJ (aN (m2 cV (aG 1) (aH cZ (aJ (aD 0) (aG 6)))))) (aI 2) AL) (aL (aR (aG 6) (aI 3)) (aL (aR (aZ aU) (aI 4)) (aL (dC (cC eM (aD 1)) (aI 5) tH) (aT (m2 aQ (aZ (gW (aD 4) (aD 4) (aD 4) (aD 1))) (aH cZ (aJ (aD 0) (aG 4)))))))))):=rfl
theorem sizes_ok(s:Com.St st H):∃(i:Nat)(ns:y')(H':Hs),jK [.ref st] H=.ok (.ref i) H'/\getL H' i=some (ns.map Hc)/\OkN ns/\Fr [st] H H'/\Com.St st H'/\H.length<=i:=by
 have lt0:=s.lt;have f0:Fr [] H (H++[.lst []]):=He;have s0:=s.fr f0 (by simp);have e0:getL (H++[.lst []]) H.length=some (([]:y').map Hc):=by simp[getL]
 have w0:aR (aZ aU) (aI 1) [some (.ref st),none,none,none,none,none] H=.nx [some (.ref st),some (.ref H.length),none,none,none,none] (H++[.lst []]):=rfl;obtain⟨r,H1,r0,r1,t1,f1,s1⟩:=qO (ρ:=[some (.ref st),some (.ref H.length),none,none,none,none]) (i:=0) 6 s0 rfl;have e1:getL H1 H.length=some (([]:y').map Hc):=f1.getL e0 (by simp;lia);have hr:iN (1+r)=true:=by simp[iN];lia
 have w1:aX cJ (aN (m2 cV (aG 1) (aH cZ (aJ (aD 0) (aG 6))))) [some (.ref st),some (.ref H.length),none,none,none,none] (H++[.lst []])=.ok (bX 0 (1+r)) H1:=by simp[aX,aY,m2,mC,t1,cV,mY,aU,rng_of hr]
 obtain⟨ns,H2,y2,w2,e2,l2,p2,f2,s2⟩:=PF (m:=1+r) (p:=H.length) (bX 0 (1+r)).n 0 H1 [] none s1 e1 (by lia) (by simp[bX];lia) (by simp);have l2':1<=ns.length/\ns.length<=6:=by rw[l2];simp[bX];lia
 have w3:aR (aG 6) (aI 3) [some (.ref st),some (.ref H.length),y2,none,none,none] H2=.nx [some (.ref st),some (.ref H.length),y2,some (.int 6),none,none] H2:=rfl;have w4:aR (aZ aU) (aI 4) [some (.ref st),some (.ref H.length),y2,some (.int 6),none,none] H2=.nx [some (.ref st),some (.ref H.length),y2,some (.int 6),some (.ref H2.length),none] (H2++[.lst []]):=rfl;have f4:Fr [] H2 (H2++[.lst []]):=He;have e4:getL (H2++[.lst []]) H.length=some (ns.map Hc):=fL e2;have q4:getL (H2++[.lst []]) H2.length=some (([]:y').map Hc):=by simp[getL]
 have lt2:=qB e2;have w5:cC eM (aD 1) [some (.ref st),some (.ref H.length),y2,some (.int 6),some (.ref H2.length),none] (H2++[.lst []])=.ok (eW H.length ns.length) (H2++[.lst []]):=by simp[cC,aD,eM,e4]
 obtain⟨ms,H3,lf,y5,w6,e6,l6,p6,z6,f6⟩:=PH (st:=st) (x2:=y2) p2 l2'.2 (show H.length≠H2.length by lia) ns.length 0 (H2++[.lst []]) 6 [] none (by lia) e4 q4 (by simp) (by simp) (by simp);have st3:=(s2.fr f4 (by simp)).fr f6 (by have:=s2.lt;simp;lia);have e7:getL H3 H.length=some (ns.map Hc):=f6.getL e4 (by simp;lia);have f8:Fr [] H3 (H3++[.lst [.ref H2.length,.ref H2.length,.ref H2.length,.ref H.length]]):=He;have st8:=st3.fr f8 (by simp);obtain⟨v,H4,v0,v1,t8,f9,s9⟩:=qO (ρ:=[some (.ref st),some (.ref H.length),y2,some (.int lf),some (.ref H2.length),y5]) (i:=0) 4 st8 rfl;have g9:getL H4 H3.length=some [.ref H2.length,.ref H2.length,.ref H2.length,.ref H.length]:=f9.getL (by simp[getL]) (by have:=st3.lt;simp;lia);have okn:OkN ns:=⟨l2'.1,l2'.2,p2⟩
 have okm:OkN ms:=⟨by
  cases ms with
  |nil=>have:=z6 rfl;rw[this]at l2';simp at l2'
  |cons a t=>simp,by lia,p6⟩
 have fr:Fr [st] H H4:=by have a1:=f0.mono (T:=[st]) (by simp);have a2:=a1.trans f1 (λj hj=>.inl hj);have a3:=a2.trans f2 (λj hj=>by simp at hj;rcases hj with rfl|rfl<;>simp);have a4:=a3.trans f4 (by simp);have a5:=a4.trans f6 (λj hj=>by simp at hj;subst hj;right;lia);have a6:=a5.trans f8 (by simp);exact a6.trans f9 (λj hj=>.inl hj)
 have gn:getL H4 H.length=some (ns.map Hc):=f9.getL (fL e7) (by simp;lia);have gm:getL H4 H2.length=some (ms.map Hc):=f9.getL (fL e6) (by have:=s2.lt;simp;lia);have run:∀d,aQ (.ref H3.length) (.int v) H4=.ok d H4->jK [.ref st] H=.ok d H4:=λd hd=>by
  show bV (sQ [some (.ref st),none,none,none,none,none] H)=_;have z:sQ [some (.ref st),none,none,none,none,none] H=.rt d H4:=by rw[z4y,bT w0,bT ((sC w1).trans w2),bT w3,bT w4,bT ((sC w5).trans w6)];simp[aT,m2,aZ,aY,aD,aU,lim,t8,hd]
  rw[z];rfl
 have:v=0∨v=1∨v=2∨v=3:=by lia
 rcases this with rfl|rfl|rfl|rfl
 ·exact⟨H2.length,ms,H4,run _ (by simp[aQ,eF,eV,g9,gB,dU,dS]),gm,okm,fr,s9,by lia⟩
 ·exact⟨H2.length,ms,H4,run _ (by simp[aQ,eF,eV,g9,gB,dU,dS]),gm,okm,fr,s9,by lia⟩
 ·exact⟨H2.length,ms,H4,run _ (by simp[aQ,eF,eV,g9,gB,dU,dS]),gm,okm,fr,s9,by lia⟩
 ·exact⟨H.length,ns,H4,run _ (by simp[aQ,eF,eV,g9,gB,dU,dS]),gn,okn,fr,s9,by lia⟩
end
section
variable{ns:y'}{H:Hs}{j st:Nat}
theorem optL_true:∀f:Nat,cD lF (bu f (Hu true))=some (bu f true)
 |0=>rfl
 |f+1=>by simp[jb,cD,lF,optL_true f]
theorem sum_ok(e:getL H j=some (ns.map Hc)):nB (.ref j) H=.ok (.int ns.sum) H:=by simp[nB,e,GL]
end
end L2.Mr.K74
namespace L2.Mr.K05
open L2.Mr.Com L2.Mr.Gen
theorem need_ok{n:Nat}{ps:wo}{H:Hs}(o:Ck n ps):jJ [bA n ps] H=.ok .non H:=Cod.need_ok o
def PU(x:Dv):Prop:=∀H:Hs,∃t,bS 29 H x=some t
section
variable{n:Nat}{ps:wo}{H:Hs}{ns:y'}
theorem z4z{xs:Bt}(h:∀x∈xs,PU x)(H:Hs):∃ts,cD (bS 29 H) xs=some ts/\(ts=[]↔xs=[]):=by
 induction xs with
 |nil=>exact⟨[],rfl,by simp⟩
 |cons x xs ih=>obtain⟨t,e⟩:=h x (bh ..) H;obtain⟨ts,e2,_⟩:=ih λy hy=>h y (ax _ hy);exact⟨t::ts,by simp[cD,e,e2],by simp⟩
theorem PJ{k i:Nat}{xs:Bt}{ts:List Dt}(e:getL H i=some xs)(e2:cD (bS k H) xs=some ts):bS (k+1) H (.ref i)=some (.lst ts):=by simp only[bS,e,e2]
theorem ne_nilG{i:Nat}{xs:Bt}(e:getL H i=some xs)(h:∀x∈xs,PU x):bZ (.ref i) (.ref H.length) (H++[.lst []])=.ok (.bl (!decide (xs=[]))) (H++[.lst []]):=by
 have e1:=fL (l:=[Hd []]) e;have e2:getL (H++[Hd []]) H.length=some []:=Cod.last_get;obtain⟨ts,e3,e4⟩:=z4z h (H++[Hd []]);have p1:bS cK (H++[Hd []]) (.ref i)=some (.lst ts):=PJ (k:=29) e1 e3;have p2:bS cK (H++[Hd []]) (.ref H.length)=some (.lst []):=PJ (k:=29) (ts:=[]) e2 rfl;have hd:bU (.lst ts) (.lst [])=decide (xs=[]):=by
  rw[fv,decide_eq_true_eq,<-e4]
  cases ts with
  |nil=>simp[bU,fX]
  |cons _ _=>simp[bU,fX]
 simp only[bZ,p1,p2,hd]
theorem al_ne{m:M Bt}{ρ:Ev}{xs:Bt}(e:m ρ H=.ok xs H)(h:∀x∈xs,PU x):∃H',mB (m2 bZ (dF m) (aZ aU)) ρ H=.ok (!decide (xs=[])) H'/\Fr [] H H':=by
 have ea:dF m ρ H=.ok (.ref H.length) (H++[.lst xs]):=by unfold dF;rw[e];rfl
 have g:getL (H++[Hd xs]) H.length=some xs:=Cod.last_get;have f:Fr [] H (H++[Hd xs]):=He;generalize H++[Hd xs]=H1 at ea g f;have q:=ne_nilG g h;refine⟨H1++[.lst []],?_,f.trans (T:=[]) He (by simp)⟩;generalize dF m=M at ea;simp[mB,m2,ea,aZ,aU,lim,q,fU]
end
open L2.Mr.Cod (gS)
open L2.Mr.Cod (last_get nS kC)
end L2.Mr.K05
namespace L2.Mr.Sam
open L2.Mr.Gen
open L2.Mr.Com hiding eX iB
end L2.Mr.Sam
namespace L2.Mr.K04
open L2.Mr.Gen
open L2.Mr.Com hiding eX iB
open L2.Mr.Sam
open L2.Mr.Cod (last_get nS kC)
open L2.Mr.Cod (last_get kC)
end L2.Mr.K04
namespace L2.Mr.K06
open L2.Mr.Gen
open L2.Mr.Com hiding eX iB
open L2.Mr.Sam
open L2.Mr.Cod (last_get kC)
end L2.Mr.K06
namespace L2.Mr.Sp
open L2.Mr.Com
open L2.Mr.Cod (gS)
end L2.Mr.Sp
namespace L2.Mr.K03
open L2.Mr.Com hiding eX iB
open L2.Mr.Sam
open L2.Mr.Gen
open L2.Mr.Cod (gS last_get nS kC)
end L2.Mr.K03
namespace L2.Mr.K81
open L2.Mr.Com
section
variable{H:Hs}
theorem same_int{n:Nat}{x:Int}:eX (n+1) [.int x,.int x] H=.ok (.bl true) H:=by simp[eX,iB,bM,cN,aL,bF,bN,m1,bO,aD,hO,rY,fZ,bP,aT,dM,m2,cP,cK,bS,bU,lJ,bV]
theorem same_tup{n:Nat}{xs:Bt}(hl:xs.length<=1000)(h:∀x∈xs,eX n [x,x] H=.ok (.bl true) H):eX (n+1) [.tup xs,.tup xs] H=.ok (.bl true) H:=by
 have hc:cR (aX oH (aJ (aD 0) (aD 1))) [none,none] (gI 2 (dH (aI 0) (dH (aI 1) gJ))) dP (cG (aH (eX n) (aJ (aD 0) (aD 1)))) [some (.tup xs),some (.tup xs)] H=.ok (xs.filterMap λx=>some (.bl ((λ_=>true) x))) H:=iT xs (λx=>some (.bl ((λ_=>true) x))) (λρ=>∃a b,ρ=[a,b]) rfl (by simp[oG,cY]) ⟨_,_,rfl⟩ rfl (λk hk ρ⟨a,b,e⟩=>by subst e;refine⟨.tup [xs[k],xs[k]],[some xs[k],some xs[k]],by simp[oG,cY,hk],rfl,⟨_,_,rfl⟩,rfl,?_⟩;simp[aH,aY,aD,aU,h xs[k] (di hk)]) (by lia);have hz:=sY hc;have ht:xs.all (λ_=>true)=true:=by simp
 rw[ht]at hz;have e1:bO rY (.tup xs) H=.ok (.bl true) H:=rfl;have e2:bO gR (.tup xs) H=.ok (.bl true) H:=rfl;have e3:bO mM (.tup xs) H=.ok (.bl false) H:=rfl;have e4:f1 cU [.tup xs] H=.ok (.int xs.length) H:=rfl;have n1:bZ (.bl true) (.bl true) H=.ok (.bl false) H:=rfl;have n2:bZ (.bl false) (.bl false) H=.ok (.bl false) H:=rfl;have n3:∀i:Int,bZ (.int i) (.int i) H=.ok (.bl false) H:=λi=>by simp[bZ,cK,bS,bU]
 simp[eX,iB,bM,cN,aL,bF,bN,m1,aD,e1,e2,e3,fZ,fV,mB,m2,n1,n2,fU,bP,aH,aY,aU,e4,n3,aT,hz,bV]
end
end L2.Mr.K81
namespace L2.Mr.Sp
open L2.Mr.Com
open L2.Mr.Cod (gS)
end L2.Mr.Sp
namespace L2.Mr.K06
open L2.Mr.Gen
open L2.Mr.Com hiding eX iB
open L2.Mr.Sam
open L2.Mr.Cod (last_get kC)
end L2.Mr.K06
namespace L2.Mr.Com
end L2.Mr.Com
namespace L2.Mr.K82
open L2.Mr.Gen
open L2.Mr.Com
open L2.Mr.Cod (last_get kC)
open L2.Mr.Sp
section
variable{n m:Nat}{ps qs:wo}{r:y'}{H:Hs}{ρ:Ev}{x:Int}
theorem need_ok(o:Ck n ps):jJ [bA n ps] H=.ok .non H:=K05.need_ok o
theorem ex1{F:Bs}{a v:Dv}{x:Nat}(ha:aD x ρ=λH=>.ok a H)(e:F [a] H=.ok v H):dN (aH F (aN (aD x))) ρ H=.nx ρ H:=by simp[dN,aH,aY,ha,aU,e]
theorem ex2{F:Bs}{a b v:Dv}{x y:Nat}(ha:aD x ρ=λH=>.ok a H)(hb:aD y ρ=λH=>.ok b H)(e:F [a,b] H=.ok v H):dN (aH F (aJ (aD x) (aD y))) ρ H=.nx ρ H:=by simp[dN,aH,aY,ha,hb,aU,e]
end
end L2.Mr.K82
namespace L2.Mr.K74
open L2.Mr.Gen
open L2.Mr.Cod
open L2.Mr.Com
section
variable{ns gs:y'}{H:Hs}{j:Nat}
theorem sum_nn:∀(ns:y'),(∀n∈ns,1<=n)->0<=ns.sum
 |[],h=>by simp
 |n::ns,h=>by have h1:=h n (by simp);have h2:=sum_nn ns λm hm=>h m (by simp[hm]);simp;lia
theorem le_sum:∀(ns:y'),(∀n∈ns,1<=n)->∀n∈ns,n<=ns.sum
 |[],h,n,hn=>by simp at hn
 |a::ns,h,n,hn=>by
  have h1:=h a (by simp);have h2:=sum_nn ns λm hm=>h m (by simp[hm]);have h3:=le_sum ns λm hm=>h m (by simp[hm]);simp at hn⊢
  rcases hn with rfl|hn
  ·lia
  ·have:=h3 n hn;lia
theorem AM{α β γ:Type}{f:β->γ}{g:α->List β}:∀l:List α,l.flatMap (λx=>(g x).map f)=(l.flatMap g).map f
 |[]=>rfl
 |x::l=>by rw[jc,jc,je,AM l]
theorem ixv{ρ:Ev}{i x:Nat}{k:Nat}(e:getL H j=some (gs.map Hc))(h0:At ρ i (.ref j))(h1:At ρ x (.int k))(hk:k<gs.length):m2 aQ (aD i) (aD x) ρ H=.ok (.int (gs.getD k 0)) H:=dI (by rw[h0.v]) (by rw[h1.v]) (by have:=ixg (k:=(k:Int)) e (by lia) (by lia);simpa using this)
theorem mU(a b:Int):cP (.int a) (.int b) H=.ok (.bl (decide (a=b))) H:=by simp[cP,cK,bS,bU];rfl
end
end L2.Mr.K74
namespace L2.Mr.Cod
open L2.Mr.Com
end L2.Mr.Cod
namespace L2.Mr.K63
open L2.Mr.Gen
open L2.Mr.Cod
open L2.Mr.Com
end L2.Mr.K63
namespace L2.Mr.K60
open L2.Mr.Cod
open L2.Mr.Com
end L2.Mr.K60
namespace L2.Mr.K63
open L2.Mr.Gen
open L2.Mr.Cod
open L2.Mr.Com
end L2.Mr.K63
namespace L2.Mr.Rg
open L2.Mr.Com (Ck)
open L2.Mr.Cod (gS)
end L2.Mr.Rg
namespace L2.Mr.K61
open L2.Mr.Gen
open L2.Mr.Cod
open L2.Mr.Com
open L2.Mr.Rg
section
variable{n st:Nat}{ps:wo}{H:Hs}{ρ:Ev}{d:Dv}
theorem call1{F:Bs}{a v:Dv}{x:Nat}{H':Hs}(ha:At ρ x a)(e:F [a] H=.ok v H'):aH F (aN (aD x)) ρ H=.ok v H':=by simp[aH,aY,ha.v,aU,e]
theorem call2{F:Bs}{a b v:Dv}{x y:Nat}{H':Hs}(ha:At ρ x a)(hb:At ρ y b)(e:F [a,b] H=.ok v H'):aH F (aJ (aD x) (aD y)) ρ H=.ok v H':=by simp[aH,aY,ha.v,hb.v,aU,e]
end
end L2.Mr.K61
namespace L2.Mr.K63
open L2.Mr.Gen
open L2.Mr.Cod
open L2.Mr.Com
open L2.Mr.Rg
section
variable{n st:Nat}{ps qs:wo}{H:Hs}{ρ:Ev}{d:Dv}
theorem AN{F:Bs}{a b v:Dv}{x y:Nat}{H':Hs}(ha:At ρ x a)(hb:At ρ y b)(e:F [a,b] H=.ok v H'):aH F (aJ (aD x) (aD y)) ρ H=.ok v H':=K61.call2 ha hb e
theorem truB{m:M Dv}{b:Bool}{H':Hs}(e:m ρ H=.ok (.bl b) H'):bN m ρ H=.ok b H':=by simp[bN,e,fZ]
theorem retV{m:M Dv}{v:Dv}{H':Hs}(e:m ρ H=.ok v H'):bV (aT m ρ H)=.ok v H':=by simp[aT,e,bV]
theorem andT{m u:M Dv}{H':Hs}(e:m ρ H=.ok (.bl true) H'):dM m u ρ H=u ρ H':=by simp[dM,e]
theorem vY{m u:M Dv}{H':Hs}(e:m ρ H=.ok (.bl false) H'):dM m u ρ H=.ok (.bl false) H':=by simp[dM,e]
end
end L2.Mr.K63
namespace L2.Mr.K61
open L2.Mr.Gen
open L2.Mr.Cod
open L2.Mr.Com
open L2.Mr.Rg
section
variable{n st:Nat}{ps:wo}{H:Hs}{ρ:Ev}{d:Dv}
theorem ntT{m:M Dv}{H':Hs}(e:m ρ H=.ok (.bl true) H'):cQ (bN m) ρ H=.ok false H':=by simp[cQ,bN,e,fZ]
end
end L2.Mr.K61
namespace L2.Mr.K60
open L2.Mr.Cod
open L2.Mr.Com
end L2.Mr.K60
namespace L2.Mr.K63
open L2.Mr.Gen
open L2.Mr.Cod
open L2.Mr.Com
open L2.Mr.Rg
section
variable{n st:Nat}{ps qs:wo}{H:Hs}{ρ:Ev}{d:Dv}
theorem neV{ma mb:M Dv}{a:Int}{H1 H2:Hs}(h1:ma ρ H=.ok (.int a) H1)(h2:mb ρ H1=.ok (.int a) H2):mB (m2 bZ ma mb) ρ H=.ok false H2:=by
 have e:bZ (.int a) (.int a) H2=.ok (.bl false) H2:=by simp[bZ,cK,bS,bU]
 unfold mB;rw[dI h1 h2 e];rfl
theorem cl2{F:Bs}{ma mb:M Dv}{a b v:Dv}{H1 H2 H':Hs}(ha:ma ρ H=.ok a H1)(hb:mb ρ H1=.ok b H2)(e:F [a,b] H2=.ok v H'):aH F (aJ ma mb) ρ H=.ok v H':=by simp[aH,aY,ha,hb,aU,e]
theorem tp2{ma mb:M Dv}{a b:Dv}{H1 H2:Hs}(ha:ma ρ H=.ok a H1)(hb:mb ρ H1=.ok b H2):aO (aJ ma mb) ρ H=.ok (.tup [a,b]) H2:=by simp[aO,aY,ha,hb,aU,lim]
theorem vv{i:Nat}(h:At ρ i d):aD i ρ H=.ok d H:=by rw[h.v]
theorem and_T{t u:M Bool}{H1:Hs}(e:t ρ H=.ok true H1):dW t u ρ H=u ρ H1:=by unfold dW;rw[e];rfl
theorem and_F{t u:M Bool}{H1:Hs}(e:t ρ H=.ok false H1):dW t u ρ H=.ok false H1:=by unfold dW;rw[e];rfl
theorem cl2x{F:Bs}{x:Nat}{mb:M Dv}{a b v:Dv}{H2 H':Hs}(ha:At ρ x a)(hb:mb ρ H=.ok b H2)(e:F [a,b] H2=.ok v H'):aH F (aJ (aD x) mb) ρ H=.ok v H':=cl2 (vv ha) hb e
end
end L2.Mr.K63
namespace L2.Mr.K74
open L2.Mr.Gen
open L2.Mr.Cod
open L2.Mr.Com
open L2.Mr.K63 (AN cl2 cl2x truB retV vv neV tp2 andT vY)
theorem PK{α:Type}{mj:M Src}{sg:eB}{t:M Bool}{m:MC}{ρ:Ev}{H:Hs}{src:Src}(xs:List α)(out:α->Bt)(S:Ev->Prop)(hi:mj ρ H=.ok src H)(hn:src.n=xs.length)(s0:S ρ)(fin:src.fin H=true)(step:∀k(hk:k<xs.length)ρ,S ρ->∃d ρ1,src.get k H=some d/\sg d ρ=some ρ1/\((t ρ1 H=.ok false H/\out xs[k]=[]/\S ρ1)∨(t ρ1 H=.ok true H/\∀acc:Bt,acc.length+(out xs[k]).length<=900000->∃ρ3,m ρ1 H acc=.ok (ρ3,acc++out xs[k]) H/\S ρ3)))(acc:Bt)(hl:acc.length+(xs.flatMap out).length<=900000):∃ρ',gQ mj sg t m ρ H acc=.ok (ρ',acc++xs.flatMap out) H/\S ρ':=by
 obtain⟨ρ3,h3,r,s3,rfl⟩:=vL (src:=src) (sg:=sg) (t:=t) (m:=m) xs out (λρ h=>S ρ/\h=H) (λρ h s=>by rw[s.2];exact fin) (λk hk ρ h⟨s,e⟩=>by
  subst e;obtain⟨d,ρ1,e1,e2,e3⟩:=step k hk ρ s;refine⟨d,ρ1,e1,e2,?_⟩
  rcases e3 with⟨z1,z2,z3⟩|⟨z1,z2⟩
  ·exact .inl ⟨h,z1,z2,z3,rfl⟩
  ·refine .inr ⟨h,z1,λacc hl=>?_⟩;obtain⟨ρ3,y1,y2⟩:=z2 acc hl;exact⟨ρ3,h,y1,y2,rfl⟩) xs.length 0 ρ H acc (by lia) ⟨s0,rfl⟩ (by simpa using hl)
 refine⟨ρ3,?_,s3⟩;unfold gQ;rw[hi];dsimp only;rw[hn,r];simp
abbrev fB(ps:wo)(a b c:Int):Prop:=(a,c)∈ps/\gS ps a b/\gS ps b c
def cX(q:Int×Int×Int):Dv:=.tup [.int q.1,.int q.2.1,.int q.2.2]
def eU(n:Nat)(ps:wo):List (Int×Int×Int):=(az n).flatMap λa:Nat=>(az n).flatMap λb:Nat=>(az n).flatMap λc:Nat=>if fB ps a b c then[((a:Int),(b:Int),(c:Int))]else[]
section
variable{n:Nat}{ps:wo}{H:Hs}{j:Nat}{ρ:Ev}
theorem z50{a b c:Nat}(ha:a<n)(hb:b<n)(hc:c<n)(h:fB ps a b c):((a:Int),(b:Int),(c:Int))∈eU n ps:=by unfold eU;simp only[uc,br];exact⟨a,ha,b,hb,c,hc,by rw[if_pos h];exact cg.mpr rfl⟩
theorem z51{a b c:Int}:nO [bA n ps,.int a,.int b,.int c] H=.ok (.bl (decide (fB ps a b c))) H:=by
 have e1:m2 (dX false) (aO (aJ (aD 1) (aD 3))) (m2 aQ (aD 0) (aG 1)) [some (bA n ps),some (.int a),some (.int b),some (.int c)] H=.ok (.bl (decide ((a,c)∈ps))) H:=dI (x:=aM (a,c)) (y:=.tup (ps.map aM)) rfl rfl (qC false H (a,c) ps);have e2:∀x y z:Nat,∀{p q:Int},At [some (bA n ps),some (.int a),some (.int b),some (.int c)] x (bA n ps)->At [some (bA n ps),some (.int a),some (.int b),some (.int c)] y (.int p)->At [some (bA n ps),some (.int a),some (.int b),some (.int c)] z (.int q)->
   aH lQ (eZ (aD x) (aD y) (aD z)) [some (bA n ps),some (.int a),some (.int b),some (.int c)] H=.ok (.bl (decide (gS ps p q))) H:=λx y z p q hx hy hz=>by
  have l:=z4t (n:=n) (ps:=ps) (H:=H) (a:=p) (b:=q);generalize lQ=F at l;simp[aH,aY,hx.v,hy.v,hz.v,aU,l]
 show bV (aT (dM (m2 (dX false) (aO (aJ (aD 1) (aD 3))) (m2 aQ (aD 0) (aG 1))) (dM (aH lQ (eZ (aD 0) (aD 1) (aD 2))) (aH lQ (eZ (aD 0) (aD 2) (aD 3))))) [some (bA n ps),some (.int a),some (.int b),some (.int c)] H)=_;refine retV ?_
 by_cases c1:(a,c)∈ps
 ·rw[andT (e1.trans (by rw[decide_eq_true c1]))]
  by_cases c2:gS ps a b
  ·rw[andT ((e2 0 1 2 rfl rfl rfl).trans (by rw[decide_eq_true c2])),e2 0 2 3 rfl rfl rfl];simp[fB,c1,c2]
  ·rw[vY ((e2 0 1 2 rfl rfl rfl).trans (by rw[decide_eq_false c2]))];simp[fB,c2]
 ·rw[vY (e1.trans (by rw[decide_eq_false c1]))];simp[fB,c1]
abbrev bE:MC:=gQ (cC eM (aD 4)) (aI 2) (bN (aH nO (gW (aD 3) (aD 0) (aD 1) (aD 2)))) (cG (aO (eZ (aD 0) (aD 1) (aD 2))))
abbrev bC:M Bt:=cR (cC eM (aD 1)) [none,none,none,some 0,some 1] (aI 0) dP (gQ (cC eM (aD 4)) (aI 1) dP bE)
abbrev V5(n:Nat)(ps:wo)(j:Nat)(x y z:Bu):Ev:=[x,y,z,some (bA n ps),some (.ref j)]
theorem z52(e:getL H j=some ((bH n).map Hc)){a b:Nat}{z0:Bu}(acc:Bt)(hl:acc.length+((az n).flatMap λc:Nat=>if fB ps a b c then[cX ((a:Int),(b:Int),(c:Int))]else[]).length<=900000):
  ∃z,bE (V5 n ps j (some (.int a)) (some (.int b)) z0) H acc=.ok (V5 n ps j (some (.int a)) (some (.int b)) z,acc++(az n).flatMap λc:Nat=>if fB ps a b c then[cX ((a:Int),(b:Int),(c:Int))]else[]) H:=by
 have hr:(bH n).length=n:=by simp[bH]
 obtain⟨ρ',w,z,rfl⟩:=PK (m:=cG (aO (eZ (aD 0) (aD 1) (aD 2)))) (sg:=aI 2) (t:=bN (aH nO (gW (aD 3) (aD 0) (aD 1) (aD 2)))) (ρ:=V5 n ps j (some (.int a)) (some (.int b)) z0) (H:=H) (mj:=cC eM (aD 4)) (src:=eW j n) (az n) (λc:Nat=>if fB ps a b c then[cX ((a:Int),(b:Int),(c:Int))]else[]) (λρ=>∃z,ρ=V5 n ps j (some (.int a)) (some (.int b)) z) (by simp[cC,aD,eM,e,hr]) (by simp[eW]) ⟨_,rfl⟩ (by simp[eW,e,hr]) (λk hk ρ⟨z,q⟩=>by
  subst q;have Du:k<n:=by simpa using hk
  have en:(az n)[k]=k:=by simp
  rw[en];refine⟨.int k,V5 n ps j (some (.int a)) (some (.int b)) (some (.int k)),by simp[eW,e,hr,Du,bH],rfl,?_⟩;have t:bN (aH nO (gW (aD 3) (aD 0) (aD 1) (aD 2))) (V5 n ps j (some (.int a)) (some (.int b)) (some (.int k))) H=.ok (decide (fB ps a b k)) H:=by refine truB ?_;have l:=z51 (n:=n) (ps:=ps) (H:=H) (a:=a) (b:=b) (c:=k);generalize nO=F at l;simp[aH,aY,aD,aU,l]
  by_cases c:fB ps a b k
  ·rw[if_pos c];exact .inr ⟨t.trans (by rw[decide_eq_true c]),λacc hl=>⟨_,AD rfl hl,_,rfl⟩⟩
  ·rw[if_neg c];exact .inl ⟨t.trans (by rw[decide_eq_false c]),rfl,_,rfl⟩) acc hl
 exact⟨z,w⟩
theorem qT{f:Nat->Bt}{N B:Nat}(h:∀a,(f a).length<=B):((az N).flatMap f).length<=N*B:=by
 have:∀l:A',(l.flatMap f).length<=l.length*B:=λl=>by
  induction l with
  |nil=>simp
  |cons x l ih=>
   rw[jc,cz,cm,Nat.add_mul];have:=h x
   lia
 have:=this (az N);rwa [nh]at this
theorem GQ(hn:n<=6)(e:getL H j=some ((bH n).map Hc)){x2:Bu}:bC [some (bA n ps),some (.ref j),x2] H=.ok ((eU n ps).map cX) H:=by
 have hr:(bH n).length=n:=by simp[bH]
 have b1:∀a b:Nat,((az n).flatMap λc:Nat=>if fB ps a b c then[cX ((a:Int),(b:Int),(c:Int))]else[]).length<=6:=λa b=>by
  have:=qT (N:=n) (B:=1) (f:=λc:Nat=>if fB ps a b c then[cX ((a:Int),(b:Int),(c:Int))]else[]) (λc=>by split<;>simp)
  lia
 have b2:∀a:Nat,((az n).flatMap λb:Nat=>(az n).flatMap λc:Nat=>if fB ps a b c then[cX ((a:Int),(b:Int),(c:Int))]else[]).length<=36:=λa=>by
  have:=qT (N:=n) (B:=6) (f:=λb:Nat=>(az n).flatMap λc:Nat=>if fB ps a b c then[cX ((a:Int),(b:Int),(c:Int))]else[]) (b1 a)
  lia
 obtain⟨ρ',H',w,_,rfl⟩:=AB (mi:=cC eM (aD 1)) (cap:=[none,none,none,some 0,some 1]) (src:=eW j n) (sg:=aI 0) (t:=dP) (m:=gQ (cC eM (aD 4)) (aI 1) dP bE) (ρ:=[some (bA n ps),some (.ref j),x2]) (H:=H) (H1:=H) (az n) (λa:Nat=>(az n).flatMap λb:Nat=>(az n).flatMap λc:Nat=>if fB ps a b c then[cX ((a:Int),(b:Int),(c:Int))]else[]) (λρ h=>(∃x y z,ρ=V5 n ps j x y z)/\h=H)
  (by simp[cC,aD,eM,e,hr]) (by simp[eW]) ⟨⟨_,_,_,rfl⟩,rfl⟩ (λρ h s=>by rw[s.2];simp[eW,e,hr]) (λk hk ρ h⟨⟨x,y,z,q⟩,qh⟩=>by
   subst q;subst qh;have Du:k<n:=by simpa using hk
   have en:(az n)[k]=k:=by simp
   rw[en];refine⟨.int k,V5 n ps j (some (.int k)) y z,by simp[eW,e,hr,Du,bH],rfl,.inr ⟨h,rfl,λacc hl=>?_⟩⟩;obtain⟨ρ3,w3,z',z'',rfl⟩:=PK (m:=bE) (sg:=aI 1) (t:=dP) (ρ:=V5 n ps j (some (.int k)) y z) (H:=h) (mj:=cC eM (aD 4)) (src:=eW j n) (az n) (λb:Nat=>(az n).flatMap λc:Nat=>if fB ps k b c then[cX ((k:Int),(b:Int),(c:Int))]else[]) (λρ=>∃y z,ρ=V5 n ps j (some (.int k)) y z) (by simp[cC,aD,eM,e,hr]) (by simp[eW]) ⟨_,_,rfl⟩ (by simp[eW,e,hr]) (λi hi ρ⟨y,z,q⟩=>by
    subst q;have hi':i<n:=by simpa using hi
    have en:(az n)[i]=i:=by simp
    rw[en];refine⟨.int i,V5 n ps j (some (.int k)) (some (.int i)) z,by simp[eW,e,hr,hi',bH],rfl,.inr ⟨rfl,λacc hl=>?_⟩⟩;obtain⟨z',w⟩:=z52 (ps:=ps) e (a:=k) (b:=i) (z0:=z) acc hl;exact⟨_,w,_,_,rfl⟩) acc hl
   exact⟨_,h,w3,⟨_,_,_,rfl⟩,rfl⟩) (by
   have:=qT (N:=n) (B:=36) (f:=λa:Nat=>(az n).flatMap λb:Nat=>(az n).flatMap λc:Nat=>if fB ps a b c then[cX ((a:Int),(b:Int),(c:Int))]else[]) b2
   lia)
 rw[show bC [some (bA n ps),some (.ref j),x2] H'=_ from w];unfold eU;rw[<-AM];refine congrArg (λf=>Ht (Ai f (az n)) H') (funext λa=>?_);rw[<-AM];refine congrArg (λf=>Ai f (az n)) (funext λb=>?_);rw[<-AM];refine congrArg (λf=>Ai f (az n)) (funext λc=>?_)
 split<;>rfl
end
def ah(ps:wo)(t:Int):y':=(ps.filter λp=>decide (p.2=t)).map λp=>p.1
def ahs(n:Nat)(ps:wo):y':=(az n).map λt:Nat=>((ah ps t).length:Int)
def lev(n:Nat)(ps:wo)(m:Int):y':=((az n).filter λt:Nat=>decide ((ahs n ps).getD t 0=m)).map λt:Nat=>(t:Int)
def cE(n:Nat)(ps:wo):wt:=(dE iI (ahs n ps)).map (lev n ps)
abbrev dJ(r:y'):Dv:=.tup (r.map Hc)
section
variable{n:Nat}{ps:wo}{H:Hs}{t:Int}
theorem PL{m:M Bt}{ρ:Ev}{xs:Bt}{H1:Hs}(e:m ρ H=.ok xs H1):bV (aT (dF m) ρ H)=.ok (.ref H1.length) (H1++[.lst xs]):=by simp[aT,dF,e,bV]
theorem z53(o:Ck n ps)(t0:0<=t)(t1:t<n):qJ [bA n ps,.int t] H=.ok .non H:=by
 have w1:dN (aH jJ (aN (aD 0))) [some (bA n ps),some (.int t)] H=.nx [some (bA n ps),some (.int t)] H:=K82.ex1 (x:=0) (ρ:=[some (bA n ps),some (.int t)]) rfl (K82.need_ok o);have e:kS [.int n,.int t] H=.ok (.bl true) H:=by
  rw[OP];have:Com.isT n t=true:=by simp[Com.isT];lia
  rw[this]
 have w2:bN (aH kS (aJ (m2 aQ (aD 0) (aG 0)) (aD 1))) [some (bA n ps),some (.int t)] H=.ok true H:=truB (cl2 (F:=kS) (dI (ma:=aD 0) (mb:=aG 0) rfl rfl rfl) rfl e);show bV (vB [some (bA n ps),some (.int t)] H)=_;unfold vB;rw[bT w1,fW (PD w2)];rfl
abbrev aC:M Bt:=cR (cC fI (m2 aQ (aD 0) (aG 1))) [none,none,some 1] (gI 2 (dH (aI 0) (dH (aI 1) gJ))) (mB (m2 cP (aD 1) (aD 2))) (cG (aD 0))
theorem GR(hl:ps.length<=900):aC [some (bA n ps),some (.int t)] H=.ok ((ah ps t).map Hc) H:=by
 have w:aC [some (bA n ps),some (.int t)] H=.ok (ps.filterMap λp=>if decide (p.2=t)=true then some (Hc p.1)else none) H:=
  iT ps (λp=>if decide (p.2=t)=true then some (Hc p.1)else none) (λρ=>∃a b,ρ=[a,b,some (.int t)]) (src:=cY (ps.map aM)) rfl (by simp[cY]) ⟨none,none,rfl⟩ rfl (λk hk ρ⟨a,b,q⟩=>by
   subst q;refine⟨aM ps[k],[some (.int ps[k].1),some (.int ps[k].2),some (.int t)],by simp[cY,hk],rfl,⟨_,_,rfl⟩,?_⟩;have e:mB (m2 cP (aD 1) (aD 2)) [some (.int ps[k].1),some (.int ps[k].2),some (.int t)] H=.ok (decide (ps[k].2=t)) H:=by unfold mB;rw[dI (ma:=aD 1) (mb:=aD 2) rfl rfl (z:=.bl (decide (ps[k].2=t))) (H3:=H) (mU _ _)];rfl
   by_cases c:ps[k].2=t
   ·rw[decide_eq_true c]at e⊢;exact⟨e,rfl⟩
   ·rw[decide_eq_false c]at e⊢;exact e) (by lia)
 rw[w,GO];simp[ah,kg,vk]
theorem z54(o:Ck n ps):ps.length<=36:=by
 have h:ps.Nodup:=oP stoP o.rise;have:=h.length_le_of_subset (l₂:=vN n) λp hp=>by have:=o.rng p hp;unfold vN;simp only[uc,br,bz];exact⟨p.1.toNat,by lia,p.2.toNat,by lia,by ext<;>simp<;>lia⟩
 rw[OR]at this;have:=zq o.n6 o.n6
 lia
theorem z55:vD=aL (dN (aH qJ (aJ (aD 0) (aD 1)))) (aT (dF aC)):=rfl
theorem z56(o:Ck n ps)(t0:0<=t)(t1:t<n):nM [bA n ps,.int t] H=.ok (.ref H.length) (H++[.lst ((ah ps t).map Hc)]):=by have hl:=z54 o;have w3:=GR (n:=n) (ps:=ps) (t:=t) (H:=H) (by lia);have w1:dN (aH qJ (aJ (aD 0) (aD 1))) [some (bA n ps),some (.int t)] H=.nx [some (bA n ps),some (.int t)] H:=K82.ex2 (x:=0) (y:=1) (ρ:=[some (bA n ps),some (.int t)]) rfl rfl (z53 o t0 t1);show bV (vD [some (bA n ps),some (.int t)] H)=_;rw[z55,bT w1];exact PL w3
theorem rng_d(o:Ck n ps){ρ:Ev}{x:Nat}(h:At ρ x (bA n ps)):aX cJ (aN (m2 aQ (aD x) (aG 0))) ρ H=.ok (bX 0 n) H:=by have:=o.n6;exact GN (dI (vv h) (mb:=aG 0) rfl rfl) (by lia) (by lia)
abbrev hC:M Bt:=cR (aX cJ (aN (m2 aQ (aD 0) (aG 0)))) [none,some 0] (aI 0) dP (cG (aH (f1 cU) (aN (aH nM (aJ (aD 1) (aD 0))))))
abbrev vI:M Bt:=cR (aX cJ (aN (m2 aQ (aD 1) (aG 0)))) [none,some 0,some 2] (aI 0) (mB (m2 cP (m2 aQ (aD 2) (aD 0)) (aD 1))) (cG (aD 0))
abbrev vC:M Bt:=cR (cC eM (aH (f1 qI) (aN (aD 1)))) [none,some 0,some 1] (aI 0) dP (cG (mL CY vI))
theorem z57:vE=aL (aR (dF hC) (aI 1)) (aT (dF vC)):=rfl
theorem PM{f:Nat->Dv}:∀l:A',(l.flatMap λt=>[f t])=l.map f
 |[]=>rfl
 |x::l=>by rw[jc,PM l];rfl
theorem z58(o:Ck n ps):∃H',hC [some (bA n ps),none] H=.ok ((ahs n ps).map Hc) H'/\Fr [] H H':=by
 have n6:=o.n6;obtain⟨ρ',H',w,_,f⟩:=AB (mi:=aX cJ (aN (m2 aQ (aD 0) (aG 0)))) (cap:=[none,some 0]) (src:=bX 0 n) (sg:=aI 0) (t:=dP) (m:=cG (aH (f1 cU) (aN (aH nM (aJ (aD 1) (aD 0)))))) (ρ:=[some (bA n ps),none]) (H:=H) (H1:=H) (az n) (λt:Nat=>[Hc ((ah ps t).length:Int)]) (λρ h=>(∃a,ρ=[a,some (bA n ps)])/\Fr [] H h)
  (rng_d o rfl) (by simp[bX]) ⟨⟨none,rfl⟩,Hh⟩ (λ_ _ _=>rfl) (λk hk ρ h⟨⟨a,q⟩,f⟩=>by
   subst q;have Du:k<n:=by simpa using hk
   have en:(az n)[k]=k:=by simp
   rw[en];refine⟨.int (0+k),[some (.int (0+k)),some (bA n ps)],rfl,rfl,.inr ⟨h,rfl,λacc hl=>?_⟩⟩;rw[Be];have e:=z56 (H:=h) (t:=(k:Int)) o (by lia) (by lia);have c:=AN (F:=nM) (ρ:=[some (.int (k:Int)),some (bA n ps)]) (x:=1) (y:=0) rfl rfl e;have f2:Fr [] h (h++[Hd ((ah ps k).map Hc)]):=He;have g:getL (h++[Hd ((ah ps k).map Hc)]) h.length=some ((ah ps k).map Hc):=by simp[getL]
   generalize h++[Hd ((ah ps k).map Hc)]=h2 at c f2 g;refine⟨_,h2,AD (h1:=h2) ?_ hl,⟨_,rfl⟩,f.trans f2 (by simp)⟩;generalize aH nM (aJ (aD 1) (aD 0))=m at c;simp[aH,aY,c,aU,f1,cU,eF,gX,gH,g]) (by
   have:=qT (N:=n) (B:=1) (f:=λt:Nat=>[Hc ((ah ps t).length:Int)]) (λ_=>by simp)
   lia)
 refine⟨H',?_,f⟩;rw[show hC [some (bA n ps),none] H=_ from w];unfold ahs;rw[kg];exact congrArg (λl=>Ht l H') (PM _)
theorem kD:(ahs n ps).length=n:=by simp[ahs]
theorem z59(o:Ck n ps){j:Nat}(g:getL H j=some ((ahs n ps).map Hc)){m:Int}:vI [some (.int m),some (bA n ps),some (.ref j)] H=.ok ((lev n ps m).map Hc) H:=by
 have n6:=o.n6;have w:vI [some (.int m),some (bA n ps),some (.ref j)] H=.ok ((az n).filterMap λt:Nat=>if decide ((ahs n ps).getD t 0=m)=true then some (Hc (t:Int))else none) H:=
  iT (az n) (λt:Nat=>if decide ((ahs n ps).getD t 0=m)=true then some (Hc (t:Int))else none) (λρ=>∃a,ρ=[a,some (.int m),some (.ref j)]) (rng_d o rfl) (by simp[bX]) ⟨none,rfl⟩ rfl (λk hk ρ⟨a,q⟩=>by
   subst q;have Du:k<n:=by simpa using hk
   have en:(az n)[k]=k:=by simp
   rw[en];refine⟨.int (0+k),[some (.int (0+k)),some (.int m),some (.ref j)],rfl,rfl,⟨_,rfl⟩,?_⟩;rw[Be];have e1:=ixv (ρ:=[some (.int (k:Int)),some (.int m),some (.ref j)]) (i:=2) (x:=0) g rfl rfl (by rw[kD];exact Du);have e:mB (m2 cP (m2 aQ (aD 2) (aD 0)) (aD 1)) [some (.int (k:Int)),some (.int m),some (.ref j)] H=.ok (decide ((ahs n ps).getD k 0=m)) H:=by unfold mB;rw[dI e1 (mb:=aD 1) rfl (z:=.bl (decide ((ahs n ps).getD k 0=m))) (H3:=H) (mU _ _)];rfl
   by_cases c:(ahs n ps).getD k 0=m
   ·rw[decide_eq_true c]at e⊢;exact⟨e,rfl⟩
   ·rw[decide_eq_false c]at e⊢;exact e) (by simp;lia)
 rw[w,GO];simp[lev,kg,vk]
theorem z5a(o:Ck n ps):∃i H',qK [bA n ps] H=.ok (.ref i) H'/\getL H' i=some ((cE n ps).map dJ)/\Fr [] H H':=by
 have n6:=o.n6;obtain⟨H1,w1,f1'⟩:=z58 (H:=H) o;have w2:aR (dF hC) (aI 1) [some (bA n ps),none] H=.nx [some (bA n ps),some (.ref H1.length)] (H1++[.lst ((ahs n ps).map Hc)]):=GP w1 rfl;have g2:getL (H1++[Hd ((ahs n ps).map Hc)]) H1.length=some ((ahs n ps).map Hc):=by simp[getL]
 have f2:Fr [] H1 (H1++[Hd ((ahs n ps).map Hc)]):=He;generalize H1++[Hd ((ahs n ps).map Hc)]=H2 at w2 g2 f2;generalize H1.length=j at w2 g2;generalize hK:dE iI (ahs n ps)=ks;have lk:ks.length<=6:=by rw[<-hK];have:=yE (lt:=iI) (ahs n ps);rw[kD]at this;lia
 have w3:cC eM (aH (f1 qI) (aN (aD 1))) [some (bA n ps),some (.ref j)] H2=.ok (eW H2.length ks.length) (H2++[.lst (ks.map Hc)]):=by
  have h64:(ahs n ps).length<64:=by rw[kD];lia
  have g3:getL (H2++[Hd (ks.map Hc)]) H2.length=some (ks.map Hc):=by simp[getL]
  have hs:qI (.ref j) H2=.ok (.ref H2.length) (H2++[.lst (ks.map Hc)]):=by simp only[qI,g2,GL,h64,if_true,hK]
  simp[cC,aH,aY,aD,aU,f1,hs,eM,g3]
 have g3:getL (H2++[Hd (ks.map Hc)]) H2.length=some (ks.map Hc):=by simp[getL]
 have g4:getL (H2++[Hd (ks.map Hc)]) j=some ((ahs n ps).map Hc):=fL g2;have f3:Fr [] H2 (H2++[Hd (ks.map Hc)]):=He;generalize H2++[Hd (ks.map Hc)]=H3 at w3 g3 g4 f3;generalize H2.length=i3 at w3 g3;have w4:vC [some (bA n ps),some (.ref j)] H2=.ok (ks.filterMap λm=>some (dJ (lev n ps m))) H3:=iT ks (λm=>some (dJ (lev n ps m))) (λρ=>∃a,ρ=[a,some (bA n ps),some (.ref j)]) w3 rfl ⟨none,rfl⟩ (by simp[eW,g3]) (λk hk ρ⟨a,q⟩=>by subst q;refine⟨.int ks[k],[some (.int ks[k]),some (bA n ps),some (.ref j)],by simp[eW,g3,hk],rfl,⟨_,rfl⟩,rfl,?_⟩;unfold mL;rw[z59 o g4];rfl) (by lia);refine⟨H3.length,H3++[.lst ((cE n ps).map dJ)],?_,by simp[getL],((f1'.trans f2 (by simp)).trans f3 (by simp)).trans (T:=[]) He (by simp)⟩;show bV (vE [some (bA n ps),none] H)=_;rw[z57,bT w2];have e:(ks.filterMap λm=>some (dJ (lev n ps m)))=(cE n ps).map dJ:=by unfold cE;rw[hK,kg,<-Bf];rfl
 rw[e]at w4;exact(PL w4)
end
section
variable{n:Nat}{ps:wo}{H:Hs}{t:Int}
theorem ahd_eq(o:Ck n ps)(hb:eU n ps=[]){a b:Nat}(ha:a<n)(hb':b<n)(hl:gS ps a b):nU n ps a=nU n ps b:=by
 have key:∀a b:Nat,a<n->b<n->gS ps a b->∀c:Nat,c<n->((c:Int),(a:Int))∈ps->((c:Int),(b:Int))∈ps:=λa b ha hb' hl c hc h=>by
  by_cases h1:((c:Int),(b:Int))∈ps
  ·exact h1
  ·exfalso
   have h2:((b:Int),(c:Int))∉ps:=λz=>hl.2.2 (o.tr _ z _ h rfl);have h3:(c:Int)≠b:=λz=>hl.2.2 (by rw[<-z];exact h);have:=z50 (n:=n) (ps:=ps) hc hb' ha ⟨h,⟨h3,h1,h2⟩,⟨hl.1.symm,hl.2.2,hl.2.1⟩⟩;rw[hb]at this;cases this
 unfold nU;refine congrArg ow (List.filter_congr λc hc=>?_);have hc':=br.mp hc;have e:((c:Int),(a:Int))∈ps↔((c:Int),(b:Int))∈ps:=⟨key a b ha hb' hl c hc',key b a hb' ha ⟨hl.1.symm,hl.2.2,hl.2.1⟩ c hc'⟩
 simp only[e]
abbrev lI:MS:=bF (bN (aD 2)) (aT (aO (aJ (mC (.str "bar")) (m2 aQ (aD 2) (aG 0))))) bP
abbrev lR:MS:=aT (aO (aJ (mC (.str "levels")) (aH qK (aN (aD 0)))))
theorem lob_eq:mb_qe=aL (dN (aH jJ (aN (aD 0)))) (aL (aR (aH (f1 kB) (aN (m2 aQ (aD 0) (aG 0)))) (aI 1)) (aL (aR (dF bC) (aI 2)) (aL lI lR))):=rfl
theorem PN(o:Ck n ps):∃i H',gO [bA n ps] H=bV (aL lI lR [some (bA n ps),some (.ref H.length),some (.ref i)] H')/\getL H' i=some ((eU n ps).map cX)/\Fr [] H H':=by
 have n6:=o.n6;have w1:dN (aH jJ (aN (aD 0))) [some (bA n ps),none,none] H=.nx [some (bA n ps),none,none] H:=K82.ex1 (x:=0) (ρ:=[some (bA n ps),none,none]) rfl (K82.need_ok o);have w2:aR (aH (f1 kB) (aN (m2 aQ (aD 0) (aG 0)))) (aI 1) [some (bA n ps),none,none] H=.nx [some (bA n ps),some (.ref H.length),none] (H++[.lst ((bH n).map Hc)]):=by refine vX (v:=.ref H.length) ?_ rfl;have e:m2 aQ (aD 0) (aG 0) [some (bA n ps),none,none] H=.ok (.int n) H:=dI (ma:=aD 0) (mb:=aG 0) rfl rfl rfl;generalize m2 aQ (aD 0) (aG 0)=m at e;simp[aH,aY,e,aU,f1,FW n6]
 have g2:getL (H++[Hd ((bH n).map Hc)]) H.length=some ((bH n).map Hc):=by simp[getL]
 have f2:Fr [] H (H++[Hd ((bH n).map Hc)]):=He;generalize H++[Hd ((bH n).map Hc)]=H2 at w2 g2 f2;have w3:aR (dF bC) (aI 2) [some (bA n ps),some (.ref H.length),none] H2=.nx [some (bA n ps),some (.ref H.length),some (.ref H2.length)] (H2++[.lst ((eU n ps).map cX)]):=GP (GQ n6 g2) rfl;refine⟨H2.length,H2++[.lst ((eU n ps).map cX)],?_,by simp[getL],f2.trans (T:=[]) He (by simp)⟩;show bV (mb_qe [some (bA n ps),none,none] H)=_;rw[lob_eq,bT w1,bT w2,bT w3]
theorem lob_lev(o:Ck n ps)(hb:eU n ps=[]):∃i H',gO [bA n ps] H=.ok (.tup [.str "levels",.ref i]) H'/\getL H' i=some ((cE n ps).map dJ)/\Fr [] H H':=by
 obtain⟨j,H1,e1,g1,f1⟩:=PN (H:=H) o;rw[hb]at g1;obtain⟨i,H2,e2,g2,f2⟩:=z5a (H:=H1) o;refine⟨i,H2,?_,g2,f1.trans f2 (by simp)⟩;have t:bN (aD 2) [some (bA n ps),some (.ref H.length),some (.ref j)] H1=.ok false H1:=by simp[bN,aD,fZ,g1]
 rw[e1,bT (m:=lI) (fW t)];exact retV (tp2 (ma:=mC (.str "levels")) rfl (K61.call1 (F:=qK) (x:=0) rfl e2))
theorem lob_bar(o:Ck n ps){q:Int×Int×Int}{qs:List (Int×Int×Int)}(hb:eU n ps=q::qs):∃H',gO [bA n ps] H=.ok (.tup [.str "bar",cX q]) H'/\Fr [] H H':=by
 obtain⟨j,H1,e1,g1,f1⟩:=PN (H:=H) o;rw[hb]at g1;refine⟨H1,?_,f1⟩;have t:bN (aD 2) [some (bA n ps),some (.ref H.length),some (.ref j)] H1=.ok true H1:=by simp[bN,aD,fZ,g1]
 have ei:aQ (.ref j) (.int 0) H1=.ok (cX q) H1:=by simp[aQ,eF,eV,g1,gB,dU,dS]
 have e2:lI [some (bA n ps),some (.ref H.length),some (.ref j)] H1=.rt (.tup [.str "bar",cX q]) H1:=by unfold lI;rw[nE t];have:=tp2 (ma:=mC (.str "bar")) (ρ:=[some (bA n ps),some (.ref H.length),some (.ref j)]) (H:=H1) rfl (dI (ma:=aD 2) (mb:=aG 0) rfl rfl ei);unfold aT;rw[this];rfl
 rw[e1];unfold aL;rw[e2];rfl
end
end L2.Mr.K74
namespace L2.Mr.K72
open L2.Mr.Gen
open L2.Mr.Cod
open L2.Mr.Com
open L2.Mr.K74 (OkN jK gO ah ahs lev cE dJ eU fB cX mU kD)
def pD(k:Nat):y'->Bt
 |[]=>[]
 |n::ns=>bu n.toNat (.int k)++pD (k+1) ns
section
variable{ns:y'}{H:Hs}{j:Nat}
theorem PQ(hp:∀n∈ns,1<=n)(h6:∀n∈ns,n<=6):∀(f k:Nat)(x:Bu)(acc:Bt)(B:Hs),f+k=ns.length->acc.length+6*f<=1000->getL (B++[.lst acc]) j=some (ns.map Hc)->j<B.length->
  ∃ρ2 B',fS (bX 0 ns.length) (aI 2) (aR (m2 cV (aD 1) (m2 rZ (aZ (aN (aD 2))) (m2 aQ (aD 0) (aD 2)))) (aI 1)) f k [some (.ref j),some (.ref B.length),x] (B++[.lst acc])=
   .nx [some (.ref j),some (.ref B'.length),ρ2] (B'++[.lst (acc++pD k (ns.drop k))])/\Fr [] B B'
 |0,k,x,acc,B,h,ha,e,hj=>by have:ns.drop k=[]:=Ah (by lia);exact⟨x,B,by simp[fS,bX,this,pD],Hh⟩
 |f+1,k,x,acc,B,h,ha,e,hj=>by
  have hk:k<ns.length:=by lia
  have hn:=hp ns[k] (di hk);have hn6:=h6 ns[k] (di hk);have e1:getL (B++[.lst acc]++[.lst [.int k]]) j=some (ns.map Hc):=fL e;have e2:getL ((B++[.lst acc]++[.lst [.int k]])++[.lst (bu ns[k].toNat (Hc k))]) j=some (ns.map Hc):=fL e1;obtain⟨ρ2,B',hb,fb⟩:=PQ hp h6 f (k+1) (some (.int k)) (acc++bu ns[k].toNat (.int k)) (((B++[.lst acc])++[.lst [.int k]])++[.lst (bu ns[k].toNat (Hc k))]) (by lia) (by simp;lia) (fL e2) (by simp;lia);refine⟨ρ2,B',?_,Hy (Hy (Hy (He (l:=[.lst acc])) He (by simp) (T:=[])) (He (S:=[])) (by simp)) fb (by simp)⟩;rw[sf hk,pD,<-nc,<-hb,fS];have hw:jW ns[k]=true:=by simp[jW];lia
  have c1:ns[k]<9223372036854775808:=by lia
  have c2:-9223372036854775808<=ns[k]:=by lia
  have c3:ns[k].toNat<=1000000:=by lia
  have c4:acc.length+ns[k].toNat<=1000000:=by lia
  have ix:dS ns.length (k:Int)=some k:=by simp[dS];lia
  have g1:getL (B++[.lst acc,.lst [.int k],.lst (bu ns[k].toNat (Hc k))]) B.length=some acc:=by simp[getL]
  have g2:getL (B++[.lst acc,.lst [.int k],.lst (bu ns[k].toNat (Hc k))]) (B.length+2)=some (bu ns[k].toNat (Hc k)):=by simp[getL]
  have g3:getL (B++[.lst acc,.lst [.int k]]) (B.length+1)=some [.int k]:=by simp[getL]
  have g4:getL (B++[.lst acc,.lst [.int k]]) j=some (ns.map Hc):=by simpa using e1
  simp[bX,aI,aR,m2,aD,aZ,aY,aU,lim,aQ,eF,eV,g4,gB,dU,ix,hk,rZ,g3,hw,c1,c2,c3,cV,mY,g1,g2,c4]
theorem z5b{m:Nat}(h:m<=6):iN (m:Int)=true:=by
 have h1:(-4611686018427387904:Int)<=m:=by lia
 have h2:(m:Int)<4611686018427387904:=by lia
 unfold iN;rw[decide_eq_true h1,decide_eq_true h2];rfl
theorem z5d(o:OkN ns)(hs:ns.sum<=6)(e:getL H j=some (ns.map Hc)):∃B,sT [.ref j] H=.ok (.ref B.length) (B++[.lst (pD 0 ns)])/\Fr [] H B:=by
 obtain⟨x,B,hb,fb⟩:=PQ o.pos (λn hn=>Int.le_trans (K74.le_sum ns o.pos n hn) hs) ns.length 0 none [] H (by lia) (by have:=o.l6;simp;lia) (fL e) (qB e);refine⟨B,?_,fb⟩;have hr:=z5b o.l6;have e1:getL (H++[.lst []]) j=some (ns.map Hc):=fL e;have nn:(bX 0 (ns.length:Int)).n=ns.length:=by simp[bX]
 have s1:aR (aZ aU) (aI 1) [some (.ref j),none,none] H=.nx [some (.ref j),some (.ref H.length),none] (H++[.lst []]):=rfl;have s2:aX cJ (aN (aH (f1 cU) (aN (aD 0)))) [some (.ref j),some (.ref H.length),none] (H++[.lst []])=.ok (bX 0 (ns.length:Int)) (H++[.lst []]):=by
  rw[<-K74.rng_of hr];have q:f1 cU [.ref j] (H++[.lst []])=.ok (.int ns.length) (H++[.lst []]):=by rw[show f1 cU [.ref j] (H++[.lst []])=gX [] (.ref j) (H++[.lst []]) from rfl];simp[gX,gH,e1]
  show((f1 cU [.ref j] (H++[.lst []])).bind λd h1=>Ht [d] h1).bind cJ=_;rw[q,Rs.bind_ok,Rs.bind_ok]
 have s3:zG [some (.ref j),none,none] H=.rt (.ref B.length) (B++[.lst (pD 0 ns)]):=by unfold zG;rw[bT s1,bT (by rw[sC s2,nn];exact hb)];rfl
 show bV (zG [some (.ref j),none,none] H)=_;rw[s3];rfl
def kE(k:Nat):y'->y'
 |[]=>[]
 |n::ns=>bu n.toNat (k:Int)++kE (k+1) ns
theorem PR:∀(ns:y')(k:Nat),pD k ns=(kE k ns).map Hc
 |[],_=>rfl
 |n::ns,k=>by rw[pD,kE,PR ns,je,List.map_replicate]
end
section
variable{ns gs:y'}{H:Hs}{j q:Nat}
def nV(gs:y')(ps:wo):Prop:=∀p∈ps,∃a b:Nat,a<gs.length/\b<gs.length/\p=((a:Int),(b:Int))/\gs.getD a 0<gs.getD b 0
abbrev vZ:MS:=bF (fV (dW (bN (aD 1)) (dW (mB (m2 fO (aD 4) (aD 5))) (mB (m2 cP (m2 aQ (aD 2) (aD 4)) (m2 aQ (aD 2) (aD 5)))))) (dW (cQ (bN (aD 1))) (mB (m2 fO (m2 aQ (aD 2) (aD 4)) (m2 aQ (aD 2) (aD 5)))))) (dN (gC (aD 3) (aO (aJ (aD 4) (aD 5))))) bP
abbrev oR:M Src:=aX cJ (aN (aH (f1 cU) (aN (aD 2))))
abbrev GS:MS:=dC oR (aI 5) vZ
abbrev z5e:MS:=dC oR (aI 4) GS
theorem of_eq:EX=aL (aR (aH sT (aN (aD 0))) (aI 2)) (aL (aR (aZ aU) (aI 3)) (aL z5e (aT (aO (aJ (aH (f1 cU) (aN (aD 2))) (aH (f1 jX) (aN (aD 3)))))))):=rfl
abbrev V6(d0:Dv)(g q:Nat)(x4 x5:Bu):Ev:=[some d0,some (.bl false),some (.ref g),some (.ref q),x4,x5]
variable{d0:Dv}{g:Nat}
theorem PV(e:getL H g=some (gs.map Hc)){x4 x5:Bu}:aH (f1 cU) (aN (aD 2)) (V6 d0 g q x4 x5) H=.ok (.int gs.length) H:=by simp[aH,aY,aD,aU,f1,cU,eF,gX,gH,e]
theorem PX(h6:gs.length<=6)(e:getL H g=some (gs.map Hc)){x4 x5:Bu}:oR (V6 d0 g q x4 x5) H=.ok (bX 0 gs.length) H:=GN (PV e) (by lia) (by lia)
theorem z5f(e:getL H g=some (gs.map Hc)){ps:wo}(eq:getL H q=some (ps.map aM))(hp:nV gs ps)(hl:ps.length<=900)(hgq:g≠q){a b:Nat}(ha:a<gs.length)(hb:b<gs.length):
  ∃(ps':wo)(H':Hs),vZ (V6 d0 g q (some (.int a)) (some (.int b))) H=.nx (V6 d0 g q (some (.int a)) (some (.int b))) H'/\getL H' q=some (ps'.map aM)/\nV gs ps'/\ps'.length<=ps.length+1/\Fr [q] H H':=by
 have e1:=K74.ixv (ρ:=V6 d0 g q (some (.int a)) (some (.int b))) (i:=2) (x:=4) e rfl rfl ha;have e2:=K74.ixv (ρ:=V6 d0 g q (some (.int a)) (some (.int b))) (i:=2) (x:=5) e rfl rfl hb;have t:fV (dW (bN (aD 1)) (dW (mB (m2 fO (aD 4) (aD 5))) (mB (m2 cP (m2 aQ (aD 2) (aD 4)) (m2 aQ (aD 2) (aD 5)))))) (dW (cQ (bN (aD 1))) (mB (m2 fO (m2 aQ (aD 2) (aD 4)) (m2 aQ (aD 2) (aD 5))))) (V6 d0 g q (some (.int a)) (some (.int b))) H=.ok (decide (gs.getD a 0<gs.getD b 0)) H:=by
  have u:mB (m2 fO (m2 aQ (aD 2) (aD 4)) (m2 aQ (aD 2) (aD 5))) (V6 d0 g q (some (.int a)) (some (.int b))) H=.ok (decide (gs.getD a 0<gs.getD b 0)) H:=by unfold mB;rw[dI e1 e2 (z:=.bl (decide (gs.getD a 0<gs.getD b 0))) (H3:=H) rfl];rfl
  have n1:bN (aD 1) (V6 d0 g q (some (.int a)) (some (.int b))) H=.ok false H:=rfl;rw[PC (K63.and_F n1),K63.and_T (PD n1)];exact u
 by_cases c:gs.getD a 0<gs.getD b 0
 ·have hl':ps.length<1000000:=by lia
  refine⟨ps++[((a:Int),(b:Int))],H.set q (.lst ((ps++[((a:Int),(b:Int))]).map aM)),?_,lL eq,λp hp'=>?_,by simp,Ho⟩
  ·unfold vZ;rw[nE (t.trans (by rw[decide_eq_true c]))];simp[dN,gC,aD,jD,eq,aO,aY,aU,lim,kL,hl',aM]
  ·rcases fq.mp hp' with z|z
   ·exact hp p z
   ·exact⟨a,b,ha,hb,cg.mp z,c⟩
 ·refine⟨ps,H,?_,eq,hp,by lia,Hh⟩;unfold vZ;rw[fW (t.trans (by rw[decide_eq_false c]))];rfl
theorem z5g(h6:gs.length<=6)(e:getL H g=some (gs.map Hc)){ps:wo}(eq:getL H q=some (ps.map aM))(hp:nV gs ps)(hl:ps.length<=100)(hgq:g≠q){a:Nat}(ha:a<gs.length){x5:Bu}:
  ∃(y5:Bu)(ps':wo)(H':Hs),GS (V6 d0 g q (some (.int a)) x5) H=.nx (V6 d0 g q (some (.int a)) y5) H'/\getL H' q=some (ps'.map aM)/\nV gs ps'/\ps'.length<=ps.length+6/\Fr [q] H H':=by
 have hg:g∉[q]:=by simpa using hgq
 obtain⟨ρ',H',w,y5,ps',rfl,g',hp',hl',f'⟩:=mO (b:=vZ) (sg:=aI 5) (PX (x4:=some (.int a)) (x5:=x5) (d0:=d0) (q:=q) h6 e) (λk ρ H'=>∃y5 ps',ρ=V6 d0 g q (some (.int a)) y5/\getL H' q=some (ps'.map aM)/\nV gs ps'/\ps'.length<=ps.length+k/\Fr [q] H H')
  (λk ρ H' hk⟨y5,ps',z,g',hp',hl',f'⟩=>by
   subst z;have Du:k<gs.length:=by simpa[bX]using hk
   obtain⟨ps2,H2,w2,g2,hp2,hl2,f2⟩:=z5f (d0:=d0) (f'.getL e hg) g' hp' (by lia) hgq ha Du;refine⟨.int k,V6 d0 g q (some (.int a)) (some (.int k)),_,H2,by simp[bX],rfl,w2,_,ps2,rfl,g2,hp2,by lia,f'.trans f2 (λj hj=>.inl hj)⟩) (λ_ _ _=>rfl) ⟨x5,ps,rfl,eq,hp,by lia,Hh⟩
 have hn:(bX 0 (gs.length:Int)).n=gs.length:=by simp[bX]
 exact⟨y5,ps',H',w,g',hp',by rw[hn]at hl';lia,f'⟩
theorem z5h(o:OkN ns)(hs:ns.sum<=6)(h6:(kE 0 ns).length<=6)(e:getL H j=some (ns.map Hc)):∃(ps:wo)(H':Hs),qL [.ref j,.bl false] H=.ok (bA (kE 0 ns).length ps) H'/\nV (kE 0 ns) ps/\ps.length<=36/\Fr [] H H':=by
 obtain⟨B,hb,fb⟩:=z5d o hs e;rw[PR]at hb;generalize kE 0 ns=gs at h6 hb;have w1:aR (aH sT (aN (aD 0))) (aI 2) [some (.ref j),some (.bl false),none,none,none,none] H=.nx [some (.ref j),some (.bl false),some (.ref B.length),none,none,none] (B++[.lst (gs.map Hc)]):=by generalize sT=F at hb;simp[aR,aH,aY,aD,aU,hb,aI]
 have g1:getL (B++[Hd (gs.map Hc)]) B.length=some (gs.map Hc):=by simp[getL]
 have f1':Fr [] H (B++[Hd (gs.map Hc)]):=fb.trans (T:=[]) He (by simp);have lt1:=qB g1;generalize B++[Hd (gs.map Hc)]=H1 at w1 g1 f1' lt1;generalize B.length=g at w1 g1 lt1;have w2:aR (aZ aU) (aI 3) [some (.ref j),some (.bl false),some (.ref g),none,none,none] H1=.nx (V6 (.ref j) g H1.length none none) (H1++[.lst []]):=rfl;have g2:getL (H1++[Hd []]) g=some (gs.map Hc):=fL g1;have q2:getL (H1++[Hd []]) H1.length=some (([]:wo).map aM):=by simp[getL]
 have f2:Fr [] H1 (H1++[Hd []]):=He;have hgq:g≠H1.length:=by lia
 have hge:H.length<=H1.length:=f1'.le;generalize H1++[Hd []]=H2 at w2 g2 q2 f2;generalize H1.length=q at w2 q2 hgq hge;have hg:g∉[q]:=by simpa using hgq
 have hn:(bX 0 (gs.length:Int)).n=gs.length:=by simp[bX]
 obtain⟨ρ',H3,w3,y4,y5,ps,rfl,g3,hp3,hl3,f3⟩:=mO (b:=GS) (sg:=aI 4) (PX (x4:=none) (x5:=none) (d0:=.ref j) (q:=q) h6 g2) (λk ρ H'=>∃y4 y5 ps,ρ=V6 (.ref j) g q y4 y5/\getL H' q=some (ps.map aM)/\nV gs ps/\ps.length<=6*k/\Fr [q] H2 H')
  (λk ρ H' hk⟨y4,y5,ps,z,g',hp',hl',f'⟩=>by
   subst z;have Du:k<gs.length:=by simpa[bX]using hk
   obtain⟨z5,ps2,H3,w,gq,hp2,hl2,f2⟩:=z5g (d0:=.ref j) (x5:=y5) h6 (f'.getL g2 hg) g' hp' (by lia) hgq Du;exact⟨.int k,V6 (.ref j) g q (some (.int k)) y5,_,H3,by simp[bX],rfl,w,_,z5,ps2,rfl,gq,hp2,by lia,f'.trans f2 (λj hj=>.inl hj)⟩) (λ_ _ _=>rfl) ⟨none,none,[],rfl,q2,(λp hp=>nomatch hp),by simp,Hh⟩
 rw[hn]at hl3;refine⟨ps,H3,?_,hp3,by lia,(f1'.trans f2 (by simp)).trans f3 λk hk=>.inr (by simp at hk;lia)⟩;show bV (EX [some (.ref j),some (.bl false),none,none,none,none] H)=_;rw[of_eq,bT w1,bT w2,bT w3];have c1:=PV (d0:=.ref j) (q:=q) (x4:=y4) (x5:=y5) (f3.getL g2 hg);have c2:aH (f1 jX) (aN (aD 3)) (V6 (.ref j) g q y4 y5) H3=.ok (.tup (ps.map aM)) H3:=by simp[aH,aY,aD,aU,f1,jX,gH,g3]
 exact K63.retV (K63.tp2 c1 c2)
end
section
variable{gs:y'}{H:Hs}{j st n:Nat}{ps:wo}{ρ:Ev}
abbrev rC:M Bt:=cR (cC fI (m2 aQ (aD 1) (aG 1))) [none,none,some 2] (gI 2 (dH (aI 0) (dH (aI 1) gJ))) dP (cG (aO (aJ (m2 aQ (aD 2) (aD 0)) (m2 aQ (aD 2) (aD 1)))))
abbrev rT:M Bool:=dW (mB (m2 bZ (aD 3) (aZ aU))) (mB (m2 cP (aH cZ (aJ (aD 0) (aG 3))) (aG 0)))
abbrev rP:M Dv:=oK (aD 3) (aH cZ (aJ (aD 0) (aH (f1 cU) (aN (aD 3)))))
abbrev rI:MS:=bF rT (dN rP) bP
abbrev rF:MS:=aT (aO (aJ (m2 aQ (aD 1) (aG 0)) (aH nJ (aJ (m2 aQ (aD 1) (aG 0)) (aD 3)))))
theorem z5i:EY=aL (aR (aH oV (aJ (aD 0) (m2 aQ (aD 1) (aG 0)))) (aI 2)) (aL (aR (dF rC) (aI 3)) (aL rI rF)):=rfl
def rn(ys:y')(ps:wo):wo:=ps.map λp=>(ys.getD p.1.toNat 0,ys.getD p.2.toNat 0)
theorem z5j{ys:y'}{d0:Dv}{N:Int}(hl:ps.length<=900)(hp:∀p∈ps,0<=p.1/\p.1<ys.length/\0<=p.2/\p.2<ys.length):rC [some d0,some (.tup [.int N,.tup (ps.map aM)]),some (.tup (ys.map Hc)),none] H=.ok ((rn ys ps).map aM) H:=by have w:rC [some d0,some (.tup [.int N,.tup (ps.map aM)]),some (.tup (ys.map Hc)),none] H=.ok (ps.filterMap λp=>some (aM (ys.getD p.1.toNat 0,ys.getD p.2.toNat 0))) H:=iT ps (λp=>some (aM (ys.getD p.1.toNat 0,ys.getD p.2.toNat 0))) (λρ=>∃a b,ρ=[a,b,some (.tup (ys.map Hc))]) (src:=cY (ps.map aM)) rfl (by simp[cY]) ⟨none,none,rfl⟩ rfl (λk hk ρ⟨a,b,q⟩=>by subst q;have h:=hp _ (di hk);refine⟨aM ps[k],[some (.int ps[k].1),some (.int ps[k].2),some (.tup (ys.map Hc))],by simp[cY,hk],rfl,⟨_,_,rfl⟩,rfl,?_⟩;have i1:=AI (H:=H) (ys:=ys) (k:=ps[k].1.toNat) (by lia);have i2:=AI (H:=H) (ys:=ys) (k:=ps[k].2.toNat) (by lia);rw[show((ps[k].1.toNat:Nat):Int)=ps[k].1 by lia]at i1;rw[show((ps[k].2.toNat:Nat):Int)=ps[k].2 by lia]at i2;exact K63.tp2 (dI (ma:=aD 2) (mb:=aD 0) rfl rfl i1) (dI (ma:=aD 2) (mb:=aD 1) rfl rfl i2)) (by lia);rw[w];unfold rn;rw[kg,<-Bf];rfl
theorem PY{ys:y'}(pm:ys.Perm (bH n)){a:Nat}(ha:a<n):0<=ys.getD a 0/\ys.getD a 0<n:=by
 have hl:ys.length=n:=by rw[pm.length_eq];simp[bH]
 have:ys.getD a 0∈ys:=by simp[hl,ha]
 have:=pm.mem_iff.mp this;unfold bH at this;obtain⟨b,hb,e⟩:=bz.mp this;have:=br.mp hb;rw[<-e];constructor<;>lia
theorem z5k{ys:y'}(pm:ys.Perm (bH n))(hg:gs.length=n)(h:nV gs ps):Et n (rn ys ps):=by
 have hl:ys.length=n:=by rw[pm.length_eq];simp[bH]
 have nd:ys.Nodup:=by refine pm.nodup_iff.mpr ?_;unfold bH;refine jg.mpr ?_;exact og.imp λh e=>h (by lia)
 refine⟨λp hp=>?_,λy=>gs.getD (ys.idxOf y) 0,λp hp=>?_⟩
 ·obtain⟨q,hq,rfl⟩:=bz.mp hp;obtain⟨a,b,ha,hb,rfl,_⟩:=h q hq;have h1:=PY pm (a:=a) (by lia);have h2:=PY pm (a:=b) (by lia);simp only[dh];exact⟨h1.1,h1.2,h2.1,h2.2⟩
 ·obtain⟨q,hq,rfl⟩:=bz.mp hp;obtain⟨a,b,ha,hb,rfl,hlt⟩:=h q hq;have i1:ys.idxOf (ys.getD a 0)=a:=by
   have e:ys.getD a 0=ys[a]'(by lia):=by simp[show a<ys.length by lia]
   rw[e];exact nd.idxOf_getElem a (by lia)
  have i2:ys.idxOf (ys.getD b 0)=b:=by
   have e:ys.getD b 0=ys[b]'(by lia):=by simp[show b<ys.length by lia]
   rw[e];exact nd.idxOf_getElem b (by lia)
  simp only[dh,i1,i2];exact hlt
theorem z5l{i:Nat}{qs:wo}(e:getL H i=some (qs.map aM)):bZ (.ref i) (.ref H.length) (H++[.lst []])=.ok (.bl (!decide (qs=[]))) (H++[.lst []]):=by
 have:=K05.ne_nilG (H:=H) e λx hx=>by obtain⟨p,_,rfl⟩:=bz.mp hx;exact λH=>⟨_,yB 27 H p⟩
 rw[this]
 cases qs<;>rfl
theorem Et.sub{qs:wo}(g:Et n ps)(h:∀p∈qs,p∈ps):Et n qs:=by obtain⟨h1,f,h2⟩:=g;exact⟨λp hp=>h1 p (h p hp),f,λp hp=>h2 p (h p hp)⟩
theorem z5m(s:Com.St st H){i:Nat}{qs:wo}(e:getL H i=some (qs.map aM))(hi:i≠st)(hl:qs.length<=36)(a0:At ρ 0 (.ref st))(a3:At ρ 3 (.ref i)):∃(Gk:wo)(H':Hs),rI ρ H=.nx ρ H'/\getL H' i=some (Gk.map aM)/\(∀p∈Gk,p∈qs)/\Gk.length<=36/\Com.St st H'/\Fr [st,i] H H':=by
 have lt:=qB e;have t1:mB (m2 bZ (aD 3) (aZ aU)) ρ H=.ok (!decide (qs=[])) (H++[.lst []]):=by unfold mB;rw[dI (K63.vv a3) (mb:=aZ aU) rfl (z5l e)];rfl
 have fa:Fr [st,i] H (H++[Hd []]):=He
 by_cases c:qs=[]
 ·refine⟨qs,H++[.lst []],?_,fL e,λp hp=>hp,hl,s.fr (He (S:=[])) (by simp),fa⟩;have:rT ρ H=.ok false (H++[.lst []]):=K63.and_F (t1.trans (by rw[decide_eq_true c];rfl));exact(fW this).trans rfl
 ·have s1:=s.fr (He (S:=[]) (l:=[Hd []])) (by simp);have e1:getL (H++[Hd []]) i=some (qs.map aM):=fL e;have t1':mB (m2 bZ (aD 3) (aZ aU)) ρ H=.ok true (H++[.lst []]):=t1.trans (by rw[decide_eq_false c];rfl);generalize H++[Hd []]=H1 at t1' fa s1 e1;obtain⟨r,H2,r0,r1,t2,f2,s2⟩:=qO 3 s1 a0;have hi':i∉[st]:=by simpa using hi
  have e2:=f2.getL e1 hi';have t3:rT ρ H=.ok (decide (r=0)) H2:=by unfold rT;rw[K63.and_T t1'];unfold mB;rw[dI t2 (mb:=aG 0) rfl (mU _ _)];rfl
  have f12:Fr [st,i] H H2:=fa.trans f2 (by simp)
  by_cases c2:r=0
  ·have hpos:0<qs.length:=List.length_pos_iff.mpr c;obtain⟨v,H3,v0,v1,t4,f4,s4⟩:=pC (H:=H2) (n:=st) (qs.length:Int) s2 (by lia) (by lia);have e3:=f4.getL e2 hi';have len:aH (f1 cU) (aN (aD 3)) ρ H2=.ok (.int qs.length) H2:=by refine K61.call1 a3 ?_;show cU (.ref i) H2=_;simp[cU,eF,gX,gH,e2]
   have arg:aH cZ (aJ (aD 0) (aH (L2.Mr.f1 cU) (aN (aD 3)))) ρ H2=.ok (.int v) H3:=K63.cl2x a0 len t4;have hv:v.toNat<qs.length:=by lia
   have ix:dS (qs.map aM).length v=some v.toNat:=by unfold dS;rw[bf];simp[v0,v1]
   have pop:rW (.ref i) (.int v) H3=.ok (aM qs[v.toNat]) (H3.set i (.lst ((qs.eraseIdx v.toNat).map aM))):=by
    have hz:(qs.map aM).length<=1000000:=by rw[bf];lia
    have hg:(qs.map aM)[v.toNat]?=some (aM qs[v.toNat]):=by simp[hv]
    have he:(qs.map aM).eraseIdx v.toNat=(qs.eraseIdx v.toNat).map aM:=by simp[pj,sy,qi]
    simp only[rW,e3,ix,hg,hz,if_true,he]
   have w:rP ρ H2=.ok (aM qs[v.toNat]) (H3.set i (.lst ((qs.eraseIdx v.toNat).map aM))):=by unfold rP oK;rw[K63.vv a3,Rs.bind_ok,if_pos (by simp[jD,e2]),arg,Rs.bind_ok,pop]
   refine⟨qs.eraseIdx v.toNat,H3.set i (.lst ((qs.eraseIdx v.toNat).map aM)),?_,lL e3,λp hp=>List.mem_of_mem_eraseIdx hp,df (List.length_eraseIdx_le ..) hl,s4.fr Ho (by simpa using dg hi),(f12.trans f4 (by simp)).trans Ho (by simp)⟩;unfold rI;rw[nE (t3.trans (by rw[decide_eq_true c2]))];unfold dN;rw[w];rfl
  ·refine⟨qs,H2,?_,e2,λp hp=>hp,hl,s2,f12⟩;exact(fW (t3.trans (by rw[decide_eq_false c2]))).trans rfl
theorem z5n(s:Com.St st H)(n1:1<=n)(n6:n<=6)(hg:gs.length=n)(h:nV gs ps)(hl:ps.length<=36):∃(cs:wo)(H':Hs),sU [.ref st,bA n ps] H=.ok (bA n cs) H'/\Ck n cs/\Com.St st H'/\Fr [st] H H':=by
 obtain⟨ys,H1,e1,pm,s1,f1⟩:=OV s n6;have hy:ys.length=n:=by rw[pm.length_eq];simp[bH]
 have w1:aR (aH oV (aJ (aD 0) (m2 aQ (aD 1) (aG 0)))) (aI 2) [some (.ref st),some (bA n ps),none,none] H=.nx [some (.ref st),some (bA n ps),some (.tup (ys.map Hc)),none] H1:=vX (K63.cl2 (F:=oV) (ma:=aD 0) rfl (dI (ma:=aD 1) (mb:=aG 0) rfl rfl rfl) e1) rfl;have c2:=z5j (H:=H1) (ys:=ys) (ps:=ps) (d0:=.ref st) (N:=n) (by lia) λp hp=>by
  obtain⟨a,b,ha,hb,rfl,_⟩:=h p hp;simp
  lia
 have w2:aR (dF rC) (aI 3) [some (.ref st),some (bA n ps),some (.tup (ys.map Hc)),none] H1=.nx [some (.ref st),some (bA n ps),some (.tup (ys.map Hc)),some (.ref H1.length)] (H1++[.lst ((rn ys ps).map aM)]):=GP c2 rfl;have g2:getL (H1++[Hd ((rn ys ps).map aM)]) H1.length=some ((rn ys ps).map aM):=by simp[getL]
 have f2:Fr [] H1 (H1++[Hd ((rn ys ps).map aM)]):=He;have s2:=s1.fr f2 (by simp);have lt:=s1.lt;have hle:H.length<=H1.length:=f1.le;generalize H1++[Hd ((rn ys ps).map aM)]=H2 at w2 g2 f2 s2;have hne:H1.length≠st:=by lia
 generalize H1.length=i at w2 g2 hne hle;obtain⟨qs,H3,w3,g3,hq,hql,s3,f3⟩:=z5m (ρ:=[some (.ref st),some (bA n ps),some (.tup (ys.map Hc)),some (.ref i)]) s2 g2 hne (by simpa[rn]using hl) rfl rfl;obtain⟨cs,H4,e4,o,f4⟩:=O2 n1 n6 g3 (by lia) (Et.sub (z5k pm hg h) hq);refine⟨cs,H4,?_,o,s3.fr f4 (by simp),((f1.trans f2 (by simp)).trans f3 λk hk=>?_).trans f4 (by simp)⟩
 ·show bV (EY [some (.ref st),some (bA n ps),none,none] H)=_;rw[z5i,bT w1,bT w2,bT w3];have x0:∀H,m2 aQ (aD 1) (aG 0) [some (.ref st),some (bA n ps),some (.tup (ys.map Hc)),some (.ref i)] H=.ok (.int n) H:=λH=>dI (ma:=aD 1) (mb:=aG 0) rfl rfl rfl;exact K63.retV (K63.tp2 (x0 _) (K63.cl2 (F:=nJ) (x0 _) (mb:=aD 3) rfl e4))
 ·rcases bc.mp hk with rfl|hk
  ·exact .inl (by simp)
  ·rw[cg.mp hk];exact .inr hle
end
def Ends(P:Ev->Prop)(H:Hs):Bu->Sr->Prop
 |none,r=>∃ρ' H',r=.nx ρ' H'/\P ρ'/\Fr [] H H'
 |some v,r=>∃H',r=.rt v H'/\Fr [] H H'
theorem Ends.fr{P Q:Ev->Prop}{H0 H:Hs}{o:Bu}{r:Sr}(e:Ends P H o r)(f:Fr [] H0 H)(h:∀ρ,P ρ->Q ρ):Ends Q H0 o r:=by
 cases o with
 |none=>obtain⟨ρ',H',a,b,c⟩:=e;exact⟨ρ',H',a,h _ b,f.trans c (by simp)⟩
 |some v=>obtain⟨H',a,c⟩:=e;exact⟨H',a,f.trans c (by simp)⟩
theorem PZ{n i:Nat}{b:MS}(out:Nat->Bu)(P:Ev->Prop)(step:∀(k:Nat)ρ H,k<n->P ρ->Ends P H (out k) (b (ρ.set i (some (.int k))) H)):
  ∀(f k:Nat)(ρ:Ev)(H:Hs),f+k=n->P ρ->Ends P H ((pd k f).findSome? out) (fS (bX 0 n) (aI i) b f k ρ H)
 |0,k,ρ,H,e,p=>⟨ρ,H,by simp[fS,bX],p,Hh⟩
 |f+1,k,ρ,H,e,p=>by
  have e1:(bX 0 (n:Int)).get k H=some (.int k):=by simp[bX]
  have e2:aI i (.int (k:Int)) ρ=some (ρ.set i (some (.int k))):=rfl;have e3:=step k ρ H (by lia) p;rw[List.range'_succ,Bq]
  cases q:out k with
  |none=>rw[q]at e3;obtain⟨ρ2,H2,e4,p2,f2⟩:=e3;rw[uR e1 e2 e4];exact(PZ out P step f (k+1) ρ2 H2 (by lia) p2).fr f2 λ_ h=>h
  |some v=>rw[q]at e3;obtain⟨H2,e4,f2⟩:=e3;exact⟨H2,by simp[fS,e1,e2,e4],f2⟩
theorem GU{n i:Nat}{mi:M Src}{b:MS}{ρ:Ev}{H:Hs}(hi:mi ρ H=.ok (bX 0 n) H)(out:Nat->Bu)(P:Ev->Prop)(step:∀(k:Nat)ρ H,k<n->P ρ->Ends P H (out k) (b (ρ.set i (some (.int k))) H))(p:P ρ):Ends P H ((pd 0 n).findSome? out) (dC mi (aI i) b ρ H):=by
 rw[sC hi,show(bX 0 (n:Int)).n=n by simp[bX]];exact PZ out P step n 0 ρ H (by lia) p
section
variable{n:Nat}{ps:wo}{H:Hs}
abbrev bL:M Dv:=aZ (gW (aO (aJ (aD 1) (aD 2))) (aO (aJ (aD 2) (aD 1))) (aO (aJ (aD 2) (aD 3))) (aO (aJ (aD 3) (aD 2))))
abbrev bC:M Bt:=cR (cC eM (aD 4)) [none,some 0] (aI 0) (mB (m2 (dX false) (aD 0) (m2 aQ (aD 1) (aG 1)))) (cG (aD 0))
abbrev bI:MS:=bF (dW (mB (m2 (dX false) (aO (aJ (aD 1) (aD 3))) (m2 aQ (aD 0) (aG 1)))) (dW (bN (aD 5)) (mB (m2 (dX true) (aD 2) (aO (aJ (aD 1) (aD 3))))))) (aT (aO (eZ (aD 1) (aD 2) (aD 3)))) bP
abbrev bB:MS:=aL (aR bL (aI 4)) (aL (aR (m2 cP (dF bC) (aZ aU)) (aI 5)) bI)
abbrev bR:M Src:=aX cJ (aN (m2 aQ (aD 0) (aG 0)))
abbrev b3:MS:=dC bR (aI 3) bB
abbrev b2:MS:=dC bR (aI 2) b3
theorem z5o:N6=aL (dC bR (aI 1) b2) (aT (mC .non)):=rfl
theorem GQ{i:Nat}{qs:wo}(hl:qs.length<=100)(e:getL H i=some (qs.map aM)){x1 x2 x3 x5:Bu}:bC [some (bA n ps),x1,x2,x3,some (.ref i),x5] H=.ok ((qs.filter λp=>decide (p∈ps)).map aM) H:=by
 have w:bC [some (bA n ps),x1,x2,x3,some (.ref i),x5] H=.ok (qs.filterMap λp=>if decide (p∈ps)=true then some (aM p)else none) H:=
  iT qs (λp=>if decide (p∈ps)=true then some (aM p)else none) (λρ=>∃a,ρ=[a,some (bA n ps)]) (src:=eW i qs.length) (by simp[cC,aD,eM,e]) rfl ⟨none,rfl⟩ (by simp[eW,e]) (λk hk ρ⟨a,q⟩=>by
   subst q;refine⟨aM qs[k],[some (aM qs[k]),some (bA n ps)],by simp[eW,e,hk],rfl,⟨_,rfl⟩,?_⟩;have t:mB (m2 (dX false) (aD 0) (m2 aQ (aD 1) (aG 1))) [some (aM qs[k]),some (bA n ps)] H=.ok (decide (qs[k]∈ps)) H:=by unfold mB;rw[dI (ma:=aD 0) (x:=aM qs[k]) (y:=.tup (ps.map aM)) rfl (dI (ma:=aD 1) (mb:=aG 1) rfl rfl rfl) (qC false H qs[k] ps)];rfl
   by_cases c:qs[k]∈ps
   ·rw[decide_eq_true c]at t⊢;exact⟨t,rfl⟩
   ·rw[decide_eq_false c]at t⊢;exact t) (by lia)
 rw[w,GO]
abbrev W6(n:Nat)(ps:wo)(x1 x2 x3 x4 x5:Bu):Ev:=[some (bA n ps),x1,x2,x3,x4,x5]
theorem z5p{a b c:Int}{x4 x5:Bu}:∃y4 y5 H',bB (W6 n ps (some (.int a)) (some (.int b)) (some (.int c)) x4 x5) H=(if fB ps a b c then .rt (cX (a,b,c)) H' else .nx (W6 n ps (some (.int a)) (some (.int b)) (some (.int c)) y4 y5) H')/\Fr [] H H':=by
 have w1:aR bL (aI 4) (W6 n ps (some (.int a)) (some (.int b)) (some (.int c)) x4 x5) H=.nx (W6 n ps (some (.int a)) (some (.int b)) (some (.int c)) (some (.ref H.length)) x5) (H++[.lst ([(a,b),(b,a),(b,c),(c,b)].map aM)]):=rfl;have g1:getL (H++[Hd ([(a,b),(b,a),(b,c),(c,b)].map aM)]) H.length=some ([(a,b),(b,a),(b,c),(c,b)].map aM):=by simp[getL]
 have fa:Fr [] H (H++[Hd ([(a,b),(b,a),(b,c),(c,b)].map aM)]):=He;generalize H++[Hd ([(a,b),(b,a),(b,c),(c,b)].map aM)]=H1 at w1 g1 fa;generalize H.length=i at w1 g1;have c2:=GQ (n:=n) (ps:=ps) (by simp) g1 (x1:=some (.int a)) (x2:=some (.int b)) (x3:=some (.int c)) (x5:=x5);generalize hq:([(a,b),(b,a),(b,c),(c,b)].filter λp=>decide (p∈ps))=qs at c2;have hq0:qs=[]↔((a,b)∉ps/\(b,a)∉ps/\(b,c)∉ps/\(c,b)∉ps):=by rw[<-hq,List.filter_eq_nil_iff];simp
 have c3:dF bC (W6 n ps (some (.int a)) (some (.int b)) (some (.int c)) (some (.ref i)) x5) H1=.ok (.ref H1.length) (H1++[.lst (qs.map aM)]):=by unfold dF;rw[show bC (W6 n ps (some (.int a)) (some (.int b)) (some (.int c)) (some (.ref i)) x5) H1=_ from c2];rfl
 have g2:getL (H1++[Hd (qs.map aM)]) H1.length=some (qs.map aM):=by simp[getL]
 have fb:Fr [] H1 (H1++[Hd (qs.map aM)]):=He;generalize H1++[Hd (qs.map aM)]=H2 at c3 g2 fb;have g3:getL (H2++[Hd []]) H1.length=some (qs.map aM):=fL g2;have g4:getL (H2++[Hd []]) H2.length=some (([]:wo).map aM):=by simp[getL]
 have c4:m2 cP (dF bC) (aZ aU) (W6 n ps (some (.int a)) (some (.int b)) (some (.int c)) (some (.ref i)) x5) H1=.ok (.bl (decide (qs=[]))) (H2++[.lst []]):=dI c3 (mb:=aZ aU) rfl (z3s g3 g4);have fc:Fr [] H2 (H2++[Hd []]):=He;generalize H2++[Hd []]=H3 at c4 fc;have w2:aR (m2 cP (dF bC) (aZ aU)) (aI 5) (W6 n ps (some (.int a)) (some (.int b)) (some (.int c)) (some (.ref i)) x5) H1=.nx (W6 n ps (some (.int a)) (some (.int b)) (some (.int c)) (some (.ref i)) (some (.bl (decide (qs=[]))))) H3:=vX c4 rfl;refine⟨some (.ref i),some (.bl (decide (qs=[]))),H3,?_,(fa.trans fb (by simp)).trans fc (by simp)⟩;unfold bB;rw[bT w1,bT w2];have t1:mB (m2 (dX false) (aO (aJ (aD 1) (aD 3))) (m2 aQ (aD 0) (aG 1))) (W6 n ps (some (.int a)) (some (.int b)) (some (.int c)) (some (.ref i)) (some (.bl (decide (qs=[]))))) H3=.ok (decide ((a,c)∈ps)) H3:=by unfold mB;rw[dI (ma:=aO (aJ (aD 1) (aD 3))) (x:=aM (a,c)) (y:=.tup (ps.map aM)) rfl (dI (ma:=aD 0) (mb:=aG 1) rfl rfl rfl) (qC false H3 (a,c) ps)];rfl
 have t2:bN (aD 5) (W6 n ps (some (.int a)) (some (.int b)) (some (.int c)) (some (.ref i)) (some (.bl (decide (qs=[]))))) H3=.ok (decide (qs=[])) H3:=K63.truB rfl;have t3:mB (m2 (dX true) (aD 2) (aO (aJ (aD 1) (aD 3)))) (W6 n ps (some (.int a)) (some (.int b)) (some (.int c)) (some (.ref i)) (some (.bl (decide (qs=[]))))) H3=.ok (!decide (b∈[a,c])) H3:=by unfold mB;rw[dI (ma:=aD 2) (x:=.int b) (y:=.tup ([a,c].map Hc)) rfl rfl (Z1 true H3 b [a,c])];rfl
 have t:dW (mB (m2 (dX false) (aO (aJ (aD 1) (aD 3))) (m2 aQ (aD 0) (aG 1)))) (dW (bN (aD 5)) (mB (m2 (dX true) (aD 2) (aO (aJ (aD 1) (aD 3)))))) (W6 n ps (some (.int a)) (some (.int b)) (some (.int c)) (some (.ref i)) (some (.bl (decide (qs=[]))))) H3=.ok (decide (fB ps a b c)) H3:=by
  by_cases c1:(a,c)∈ps
  ·rw[K63.and_T (t1.trans (by rw[decide_eq_true c1]))]
   by_cases c2:qs=[]
   ·rw[K63.and_T (t2.trans (by rw[decide_eq_true c2])),t3];have z:=hq0.mp c2
    congr 1
    rw[fv,Bool.not_eq_true',decide_eq_false_iff_not,decide_eq_true_eq];refine⟨λh=>⟨c1,⟨λe=>h (by simp[e]),z.1,z.2.1⟩,⟨λe=>h (by simp[e]),z.2.2.1,z.2.2.2⟩⟩,λh m=>?_⟩
    rcases bc.mp m with e|m
    ·exact h.2.1.1 e.symm
    ·exact h.2.2.1 (cg.mp m)
   ·rw[K63.and_F (t2.trans (by rw[decide_eq_false c2]))]
    congr 1
    rw[decide_eq_false];intro h;exact c2 (hq0.mpr ⟨h.2.1.2.1,h.2.1.2.2,h.2.2.2.1,h.2.2.2.2⟩)
  ·rw[K63.and_F (t1.trans (by rw[decide_eq_false c1])),decide_eq_false λh=>c1 h.1]
 by_cases hB:fB ps a b c
 ·rw[if_pos hB];unfold bI;rw[nE (t.trans (by rw[decide_eq_true hB]))];rfl
 ·rw[if_neg hB];exact(fW (t.trans (by rw[decide_eq_false hB]))).trans rfl
def AO(ps:wo)(a b c:Nat):Bu:=if fB ps a b c then some (cX ((a:Int),(b:Int),(c:Int)))else none
def GV(n:Nat)(ps:wo)(a b:Nat):Bu:=(pd 0 n).findSome? (AO ps a b)
def GW(n:Nat)(ps:wo)(a:Nat):Bu:=(pd 0 n).findSome? (GV n ps a)
theorem z5q:(pd 0 n).findSome? (GW n ps)=(eU n ps).head?.map cX:=by
 have fs:∀{f:Nat->List (Int×Int×Int)}(l:A'),(l.flatMap f).head?.map cX=l.findSome? λx=>(f x).head?.map cX:=λ{f}l=>by
  induction l with
  |nil=>rfl
  |cons x l ih=>
   rw[jc,Bq]
   cases q:f x with
   |nil=>rw[yc,ih];rfl
   |cons y ys=>rfl
 unfold eU;rw[fs,List.range_eq_range'];refine congrArg (λg=>ze g (pd 0 n)) (funext λa=>?_);rw[fs];refine congrArg (λg=>ze g (pd 0 n)) (funext λb=>?_);rw[fs];refine congrArg (λg=>ze g (pd 0 n)) (funext λc=>?_);unfold AO
 split<;>rfl
theorem GX(o:Ck n ps){x1 x2 x3 x4 x5:Bu}:bR (W6 n ps x1 x2 x3 x4 x5) H=.ok (bX 0 n) H:=K74.rng_d (x:=0) o rfl
theorem z5r(o:Ck n ps){a b:Nat}{x3 x4 x5:Bu}:Ends (λρ=>∃y3 y4 y5,ρ=W6 n ps (some (.int a)) (some (.int b)) y3 y4 y5) H (GV n ps a b) (b3 (W6 n ps (some (.int a)) (some (.int b)) x3 x4 x5) H):=
 GU (GX o) (AO ps a b) (λρ=>∃y3 y4 y5,ρ=W6 n ps (some (.int a)) (some (.int b)) y3 y4 y5) (λk ρ H hk⟨y3,y4,y5,q⟩=>by
  subst q;obtain⟨z4,z5,H',w,f⟩:=z5p (n:=n) (ps:=ps) (H:=H) (a:=a) (b:=b) (c:=k) (x4:=y4) (x5:=y5);unfold AO
  by_cases c:fB ps a b k
  ·rw[if_pos c]at w⊢;exact⟨H',w,f⟩
  ·rw[if_neg c]at w⊢;exact⟨_,H',w,⟨_,_,_,rfl⟩,f⟩) ⟨_,_,_,rfl⟩
theorem z5s(o:Ck n ps){a:Nat}{x2 x3 x4 x5:Bu}:Ends (λρ=>∃y2 y3 y4 y5,ρ=W6 n ps (some (.int a)) y2 y3 y4 y5) H (GW n ps a) (b2 (W6 n ps (some (.int a)) x2 x3 x4 x5) H):=GU (GX o) (GV n ps a) (λρ=>∃y2 y3 y4 y5,ρ=W6 n ps (some (.int a)) y2 y3 y4 y5) (λk ρ H hk⟨y2,y3,y4,y5,q⟩=>by subst q;exact(z5r (H:=H) (a:=a) (b:=k) (x3:=y3) (x4:=y4) (x5:=y5) o).fr Hh λρ⟨z3,z4,z5,e⟩=>⟨_,_,_,_,e⟩) ⟨_,_,_,_,rfl⟩
theorem z5t{m:MS}{ρ:Ev}{P:Ev->Prop}{v:Bu}(w:Ends P H v (m ρ H)):∃H',bV (aL m (aT (mC .non)) ρ H)=.ok (v.getD .non) H'/\Fr [] H H':=by
 cases v with
 |none=>obtain⟨ρ',H',w,_,f⟩:=w;exact⟨H',by rw[bT w];rfl,f⟩
 |some v=>obtain⟨H',w,f⟩:=w;exact⟨H',by unfold aL;rw[w];rfl,f⟩
theorem z5u(o:Ck n ps):∃H',qM [bA n ps] H=.ok (((eU n ps).head?.map cX).getD .non) H'/\Fr [] H H':=by
 have w:=GU (i:=1) (b:=b2) (GX (H:=H) o (x1:=none) (x2:=none) (x3:=none) (x4:=none) (x5:=none)) (GW n ps) (λρ=>∃y1 y2 y3 y4 y5,ρ=W6 n ps y1 y2 y3 y4 y5) (λk ρ H hk⟨y1,y2,y3,y4,y5,q⟩=>by subst q;exact(z5s (H:=H) (a:=k) (x2:=y2) (x3:=y3) (x4:=y4) (x5:=y5) o).fr Hh λρ⟨z2,z3,z4,z5,e⟩=>⟨_,_,_,_,_,e⟩) ⟨_,_,_,_,_,rfl⟩;rw[z5q]at w;have z:qM [bA n ps] H=bV (aL (dC bR (aI 1) b2) (aT (mC .non)) (W6 n ps none none none none none) H):=by unfold qM;rw[z5o];rfl
 rw[z];exact z5t w
end
def gD:Nat->wt->wo
 |_,[]=>[]
 |j,l::ls=>l.map (λt=>(t,(j:Int)))++gD (j+1) ls
theorem P0:∀(ls:wt)(j:Nat)(l:y'),gD j (ls++[l])=gD j ls++l.map λt=>(t,((j+ls.length:Nat):Int))
 |[],j,l=>by simp[gD]
 |x::ls,j,l=>by rw[xh,gD,gD,P0 ls,nc,cm];rw[show j+1+ls.length=j+(ls.length+1)by lia]
theorem AQ:∀(ls:wt)(j:Nat),(gD j ls).map bw=ls.flatten
 |[],_=>rfl
 |x::ls,j=>by
  rw[gD,je,jv,AQ ls,kg]
  congr 1
  exact List.map_id' _
theorem z5v{t:Int}{l:y'}{j:Int}{r:wo}:(l.map (λx=>(x,j))++r).lookup t=if t∈l then some j else r.lookup t:=by
 induction l with
 |nil=>rfl
 |cons x l ih=>
  rw[cy,xh,gi]
  by_cases c:t=x
  ·subst c;simp
  ·rw[show(t==x)=false by simpa using c];simp only;rw[ih];simp[c]
section
variable{n:Nat}{ps:wo}
theorem Dk{m t:Int}:t∈lev n ps m↔∃a:Nat,a<n/\t=a/\(ahs n ps).getD a 0=m:=by
 unfold K74.lev;simp only[bz,kq,br,decide_eq_true_eq];constructor
 ·rintro ⟨a,⟨h1,h2⟩,e⟩;exact⟨a,h1,e.symm,h2⟩
 ·rintro ⟨a,h1,e,h2⟩;exact⟨a,⟨h1,h2⟩,e.symm⟩
theorem lev_up{m:Int}:(lev n ps m).Pairwise (·<·):=by
 unfold K74.lev;rw[jg];refine((ug (n:=n)).sublist vm).imp λh=>?_
 lia
theorem z5w{m:Int}:iF (lev n ps m)=lev n ps m:=(xY (.refl _) (lev_up.imp λh=>by lia)).symm
abbrev kT(n:Nat)(ps:wo):y':=dE iI (ahs n ps)
theorem Gw:(kT n ps).Pairwise (·<·):=(qD mQ (ahs n ps)).imp λh=>by simpa[iI]using h
theorem z5x:(kT n ps).Nodup:=Gw.imp λh=>by lia
theorem P4{a:Nat}(ha:a<n):(ahs n ps).getD a 0∈kT n ps:=by
 rw[mP mQ];have:a<(ahs n ps).length:=by rw[kD];exact ha
 simp[this]
theorem z5y{m:Int}(h:m∈kT n ps):lev n ps m≠[]:=λz=>by
 rw[mP mQ]at h;obtain⟨a,ha,e⟩:=ie h;have ha':a<n:=by rw[kD]at ha;exact ha
 have:(a:Int)∈lev n ps m:=Dk.mpr ⟨a,ha',rfl,by simp[ha,e]⟩;rw[z]at this;cases this
theorem GY:cE n ps=(kT n ps).map (lev n ps):=rfl
theorem GZ:(cE n ps).flatten.Nodup:=by
 unfold List.Nodup;rw[List.pairwise_flatten];refine⟨λl hl=>?_,?_⟩
 ·obtain⟨m,_,rfl⟩:=bz.mp hl;exact lev_up.imp λh=>by lia
 ·rw[GY,jg];refine Gw.imp λ{m m'}h x hx y hy e=>?_;obtain⟨a,_,rfl,e1⟩:=Dk.mp hx;obtain⟨b,_,rfl,e2⟩:=Dk.mp hy;have:a=b:=by lia
  subst this
  lia
theorem Gh{t:Int}:t∈(cE n ps).flatten↔t∈bH n:=by
 rw[List.mem_flatten];unfold bH;simp only[bz,br,dh];constructor
 ·rintro ⟨l,hl,ht⟩
  obtain⟨m,_,rfl⟩:=bz.mp hl;obtain⟨a,ha,rfl,_⟩:=Dk.mp ht;exact⟨a,ha,rfl⟩
 ·rintro ⟨a,ha,rfl⟩
  exact⟨lev n ps ((ahs n ps).getD a 0),bz.mpr ⟨_,P4 ha,rfl⟩,Dk.mpr ⟨a,ha,rfl,rfl⟩⟩
theorem Gu:(bH n).Pairwise (·<·):=by unfold bH;rw[jg];exact ug.imp λh=>by lia
theorem z5z:iF ((gD 0 (cE n ps)).map bw)=bH n:=by rw[AQ];refine(xY (ms:=bH n) ?_ (Gu.imp λh=>by lia)).symm;exact(ik (Gu.imp λh=>by lia) GZ).mpr λt=>Gh.symm
theorem P5{t:Nat}(ht:t<n):∀(ks:y')(j:Nat),ks.Nodup->∀i(hi:i<ks.length),ks[i]=(ahs n ps).getD t 0->(gD j (ks.map (lev n ps))).lookup (t:Int)=some ((j+i:Nat):Int)
 |[],_,_,i,hi,_=>absurd hi (by simp)
 |k::ks,j,nd,i,hi,e=>by
  obtain⟨h1,h2⟩:=jw.mp nd;rw[cy,gD,z5v]
  cases i with
  |zero=>
   have e':k=(ahs n ps).getD t 0:=by simpa using e
   rw[if_pos (Dk.mpr ⟨t,ht,rfl,e'.symm⟩)];rfl
  |succ i=>
   have e':ks[i]'(by simpa using hi)=(ahs n ps).getD t 0:=by simpa using e
   rw[if_neg,P5 ht ks (j+1) h2 i (by simpa using hi) e',show j+1+i=j+(i+1)by lia];intro m;obtain⟨a,_,ea,e2⟩:=Dk.mp m;have:a=t:=by lia
   subst this;rw[<-e2,<-e']at h1;exact h1 (di _)
theorem AR{t:Nat}(ht:t<n):∃i,(gD 0 (cE n ps)).lookup (t:Int)=some ((i:Nat):Int)/\∃hi:i<(kT n ps).length,(kT n ps)[i]=(ahs n ps).getD t 0:=by obtain⟨i,hi,e⟩:=ie (P4 (ps:=ps) ht);refine⟨i,?_,hi,e⟩;rw[GY,P5 ht (kT n ps) 0 z5x i hi e,xb]
theorem z60(o:Ck n ps)(t:Int):(ah ps t).length=nU n ps t:=by
 have nd:(ah ps t).Nodup:=by unfold K74.ah;refine jg.mpr ?_;have h0:ps.Nodup:=oP stoP o.rise;refine(List.Pairwise.and_mem.mp (List.Nodup.sublist (vm (p:=λp=>decide (p.2=t))) h0)).imp ?_;intro p q ⟨hp,hq,hne⟩ e;refine hne ?_;have p2:=(kq.mp hp).2;have q2:=(kq.mp hq).2;simp only[decide_eq_true_eq]at p2 q2;exact Prod.ext e (p2.trans q2.symm)
 have nd2:(((az n).filter λc:Nat=>decide (((c:Int),t)∈ps)).map λc:Nat=>(c:Int)).Nodup:=by refine jg.mpr ?_;exact(og.sublist vm).imp λh e=>h (by lia)
 have pm:=(ik nd nd2).mpr λc=>by
  unfold K74.ah;simp only[bz,kq,br,decide_eq_true_eq];constructor
  ·rintro ⟨p,⟨h1,h2⟩,rfl⟩
   have r:=o.rng p h1;refine⟨p.1.toNat,⟨by lia,?_⟩,by lia⟩;rw[show((p.1.toNat:Nat):Int)=p.1 by lia,<-h2];exact h1
  ·rintro ⟨a,⟨h1,h2⟩,rfl⟩
   exact⟨_,⟨h2,rfl⟩,rfl⟩
 have:=pm.length_eq;rw[bf]at this;rw[this];rfl
theorem P6(o:Ck n ps){a:Nat}(ha:a<n):(ahs n ps).getD a 0=nU n ps a:=by have:=z60 o (a:Int);simp[K74.ahs,ha,this]
theorem z61(o:Ck n ps)(hb:eU n ps=[]){a b i j:Nat}(ha:a<n)(hb':b<n)(hi:(gD 0 (cE n ps)).lookup (a:Int)=some ((i:Nat):Int))(hj:(gD 0 (cE n ps)).lookup (b:Int)=some ((j:Nat):Int)):((a:Int),(b:Int))∈ps↔i<j:=by
 obtain⟨i',ei,li,ki⟩:=AR (ps:=ps) ha;obtain⟨j',ej,lj,kj⟩:=AR (ps:=ps) hb';have e1:i=i':=by rw[hi]at ei;have:=cn ei;lia
 have e2:j=j':=by rw[hj]at ej;have:=cn ej;lia
 subst e1;subst e2;rw[P6 o ha]at ki;rw[P6 o hb']at kj;have mono:∀x y(hx:x<(kT n ps).length)(hy:y<(kT n ps).length),x<y->(kT n ps)[x]<(kT n ps)[y]:=λx y hx hy h=>fj.mp Gw x y hx hy h;have lt_iff:i<j↔nU n ps a<nU n ps b:=by
  constructor
  ·intro h;have:=mono i j li lj h
   lia
  ·intro h
   rcases xf i j with z|z|z
   ·exact z
   ·subst z;lia
   ·have:=mono j i lj li z;lia
 rw[lt_iff];constructor
 ·exact λh=>PB o h
 ·intro h
  by_cases c:((a:Int),(b:Int))∈ps
  ·exact c
  ·exfalso
   by_cases c1:((b:Int),(a:Int))∈ps
   ·have:=PB o c1;lia
   ·by_cases c2:a=b
    ·subst c2;lia
    ·have:=K74.ahd_eq o hb ha hb' ⟨by lia,c,c1⟩
     lia
end
open L2.Mr.K60 (oX uZ)
section
variable{ns:y'}{H:Hs}{i j q:Nat}{n:Nat}{ps:wo}
theorem P7(ej:getL H j=some (ns.map Hc))(ei:getL H i=some (ns.map Hc)):bZ (.ref j) (.ref i) H=.ok (.bl false) H:=by
 have p:∀k,getL H k=some (ns.map Hc)->bS cK H (.ref k)=some (.lst (ns.map Hv)):=λk e=>by show bS (28+1+1) H (.ref k)=_;rw[bS];simp only[e,sD]
 unfold bZ;rw[p j ej,p i ei];simp[bU,O4]
abbrev aA:M Bt:=cR (cC eM (aD 1)) [none] (aI 0) dP (cG (dM (m1 (bO gR) (aD 0)) (m2 bZ (aD 0) (aO aU))))
abbrev aW:M Bt:=cR (cC fI (m2 aQ (aD 1) (aD 3))) [none] (aI 0) dP (cG (aH oX (aN (aD 0))))
abbrev P8:MS:=aL (bF (mB (m2 oZ (aD 4) (aD 2))) (aT (mC (.bl false))) bP) (zF (aD 2) (aD 4) (aD 3))
abbrev aF:MS:=dC (cC fI (m2 aQ (aD 1) (aD 3))) (aI 4) P8
abbrev aB:MS:=aL (bF (cQ (bN (mL hV aW))) (aT (mC (.bl false))) bP) (aL (bF (mB (m2 bZ (aH (f1 lK) (aN (m2 aQ (aD 1) (aD 3)))) (aH (f1 nL) (aN (m2 aQ (aD 1) (aD 3)))))) (aT (mC (.bl false))) bP) aF)
abbrev aC:M Bt:=cR (aX cJ (aN (m2 aQ (aD 0) (aG 0)))) [none,some 5,some 0,some 2] (aI 0) (mB (m2 bZ (m2 (dX false) (aO (aJ (aD 1) (aD 0))) (m2 aQ (aD 2) (aG 1))) (m2 fO (m2 lS (aD 3) (aD 1)) (m2 lS (aD 3) (aD 0))))) (cG (aD 0))
abbrev aE:MS:=bF (mB (m2 bZ (dF aC) (aZ aU))) (aT (mC (.bl false))) bP
abbrev aS:MS:=bF (mB (m2 bZ (aH (f1 pA) (aN (aD 2))) (aH (f1 kB) (aN (m2 aQ (aD 0) (aG 0)))))) (aT (mC (.bl false))) bP
theorem z62:EZ=aL (bF (cQ (bN (m1 (bO mM) (aD 1)))) (aT (mC (.bl false))) bP) (aL (bF (cQ (bN (mL hV aA))) (aT (mC (.bl false))) bP) (aL (aR zE (aI 2)) (aL (dC (aX cJ (aN (aH (f1 cU) (aN (aD 1))))) (aI 3) aB) (aL aS (aL (dC (aX cJ (aN (m2 aQ (aD 0) (aG 0)))) (aI 5) aE) (aT (mC (.bl true)))))))):=rfl
abbrev A6(n:Nat)(ps:wo)(i q:Nat)(x3 x4 x5:Bu):Ev:=[some (bA n ps),some (.ref i),some (.ref q),x3,x4,x5]
theorem P9{m:M Bt}{ρ:Ev}{k:Nat}(e:m ρ H=.ok (bu k (.bl true)) H):cQ (bN (mL hV m)) ρ H=.ok false H:=by have o:cD lF (bu k (Hu true))=some (bu k true):=K74.optL_true k;simp[cQ,bN,mL,e,hV,o,fZ]
theorem QA{α:Type}(l:List α):(l.filterMap λ_=>some (Hu true))=bu l.length (.bl true):=by
 induction l with
 |nil=>rfl
 |cons x l ih=>simp[jb,ih]
theorem z63{r:y'}(h:r≠[]):bZ (dJ r) (.tup []) H=.ok (.bl true) H:=by
 cases r with
 |nil=>exact absurd rfl h
 |cons a r=>
  have p1:bS cK H (dJ (a::r))=some (.tup ((a::r).map Hv)):=by show bS (28+1+1) H (.tup ((a::r).map Hc))=_;rw[bS];simp only[sD]
  have p2:bS cK H (.tup [])=some (.tup []):=rfl;simp only[bZ,p1,p2];rfl
theorem z64{ls:wt}(hl:ls.length<=100)(g:getL H i=some (ls.map dJ))(hne:∀l∈ls,l≠[]){x2 x3 x4 x5:Bu}:aA [some (bA n ps),some (.ref i),x2,x3,x4,x5] H=.ok (bu ls.length (.bl true)) H:=by rw[<-QA];exact iT ls (λ_=>some (.bl true)) (λρ=>∃a,ρ=[a]) (src:=eW i ls.length) (by simp[cC,aD,eM,g]) rfl ⟨none,rfl⟩ (by simp[eW,g]) (λk hk ρ⟨a,z⟩=>by subst z;refine⟨dJ ls[k],[some (dJ ls[k])],by simp[eW,g,hk],rfl,⟨_,rfl⟩,rfl,?_⟩;exact(K63.andT rfl).trans (dI (ma:=aD 0) (mb:=aO aU) rfl rfl (z63 (hne _ (di hk))))) (by lia)
theorem G1{ls:wt}(g:getL H i=some (ls.map dJ)){k:Nat}(hk:k<ls.length){x4 x5:Bu}:m2 aQ (aD 1) (aD 3) (A6 n ps i q (some (.int k)) x4 x5) H=.ok (dJ ls[k]) H:=by
 have e:aQ (.ref i) (.int k) H=.ok (dJ ls[k]) H:=by simp[aQ,eF,eV,g,gB,dU,dS,hk]
 exact dI (ma:=aD 1) (mb:=aD 3) rfl rfl e
theorem z65{ls:wt}(g:getL H i=some (ls.map dJ)){k:Nat}(hk:k<ls.length)(h6:ls[k].length<=100){x4 x5:Bu}:aW (A6 n ps i q (some (.int k)) x4 x5) H=.ok (bu ls[k].length (.bl true)) H:=by rw[<-QA];refine iT ls[k] (λ_=>some (.bl true)) (λρ=>∃a,ρ=[a]) (src:=cY (ls[k].map Hc)) ?_ (by simp[cY]) ⟨none,rfl⟩ rfl (λj hj ρ⟨a,z⟩=>by subst z;refine⟨.int ls[k][j],[some (.int ls[k][j])],by simp[cY,hj],rfl,⟨_,rfl⟩,rfl,?_⟩;exact K61.call1 (F:=oX) (x:=0) rfl (by rfl)) (by lia);unfold cC;rw[G1 g hk,Rs.bind_ok];rfl
theorem z66{kvs kvs':wo}(e:fP H q=some kvs):fP (H.set q (.dct (.inr kvs'))) q=some kvs':=by have:=(ba.mp (oY e)).1;simp[fP,this]
theorem G2{H':Hs}{S:A'}{kvs:wo}(e:fP H q=some kvs)(f:Fr S H H')(h:q∉S):fP H' q=some kvs:=by have e':=oY e;have lt:=(ba.mp e').1;unfold fP;rw[f.at_ q lt h,e']
theorem z67{kvs:wo}{xs:Bt}(e:fP H q=some kvs)(e':getL H i=some xs):i≠q:=λz=>by have a:=oY e;have b:=fG e';rw[z,a]at b;cases b
theorem z68{ls:wt}(g:getL H i=some (ls.map dJ)){k:Nat}(hk:k<ls.length){kvs:wo}(e:fP H q=some kvs)(nd:ls[k].Nodup)(dj:∀t∈ls[k],t∉kvs.map bw)(hl:kvs.length+ls[k].length<=900){x4 x5:Bu}:
  ∃y4 H',aF (A6 n ps i q (some (.int k)) x4 x5) H=.nx (A6 n ps i q (some (.int k)) y4 x5) H'/\fP H' q=some (kvs++ls[k].map λt=>(t,(k:Int)))/\Fr [q] H H':=by
 generalize hl0:ls[k]=l at nd dj hl;have hi:cC fI (m2 aQ (aD 1) (aD 3)) (A6 n ps i q (some (.int k)) x4 x5) H=.ok (cY (l.map Hc)) H:=by unfold cC;rw[G1 g hk,hl0,Rs.bind_ok];rfl
 obtain⟨ρ',H',w,y4,rfl,e',f'⟩:=mO (b:=P8) (sg:=aI 4) hi (λm ρ H'=>∃y4,ρ=A6 n ps i q (some (.int k)) y4 x5/\fP H' q=some (kvs++(l.take m).map λt=>(t,(k:Int)))/\Fr [q] H H')
  (λm ρ H' hm⟨y4,z,e',f'⟩=>by
   subst z;have Fw:m<l.length:=by simpa[cY]using hm
   have hnot:l[m]∉(kvs++(l.take m).map λt=>(t,(k:Int))).map bw:=by
    rw[je,fq,kg]
    rintro (z|z)
    ·exact dj _ (di Fw) z
    ·have z':l[m]∈l.take m:=by simpa[vk]using z
     obtain⟨p,hp,ep⟩:=ie z';have hp':p<m:=by rw[jo]at hp;lia
     rw[List.getElem_take]at ep;exact fj.mp nd p m (by lia) Fw hp' ep
   have hlen:(kvs++(l.take m).map λt=>(t,(k:Int))).length<1000000:=by simp;lia
   refine⟨.int l[m],A6 n ps i q (some (.int k)) (some (.int l[m])) x5,_,H'.set q (.dct (.inr ((kvs++(l.take m).map λt=>(t,(k:Int)))++[(l[m],(k:Int))]))),by simp[cY,Fw],rfl,?_,some (.int l[m]),rfl,?_,f'.trans Ho (by simp)⟩
   ·have t:mB (m2 oZ (aD 4) (aD 2)) (A6 n ps i q (some (.int k)) (some (.int l[m])) x5) H'=.ok false H':=by
     have ei:oZ (.int l[m]) (.ref q) H'=.ok (.bl false) H':=by unfold oZ;dsimp only;rw[e'];dsimp only;rw[decide_eq_false hnot]
     unfold mB;rw[dI (ma:=aD 4) (mb:=aD 2) rfl rfl ei];rfl
    have es:sR (.ref q) (.int l[m]) (.int k) H'=some (H'.set q (.dct (.inr ((kvs++(l.take m).map λt=>(t,(k:Int)))++[(l[m],(k:Int))])))):=by unfold sR;dsimp only;rw[e'];dsimp only;rw[if_pos ⟨hnot,hlen⟩]
    have w2:zF (aD 2) (aD 4) (aD 3) (A6 n ps i q (some (.int k)) (some (.int l[m])) x5) H'=.nx (A6 n ps i q (some (.int k)) (some (.int l[m])) x5) (H'.set q (.dct (.inr ((kvs++(l.take m).map λt=>(t,(k:Int)))++[(l[m],(k:Int))])))):=by show(match sR (.ref q) (.int l[m]) (.int k) H' with|some h4=>Sr.nx _ h4|none=>Sr.bad)=_;rw[es]
    exact(bT ((fW t).trans rfl)).trans w2
   ·rw[z66 e',wz Fw,je,nc];rfl) (λ_ _ _=>rfl) ⟨x4,rfl,by simpa using e,Hh⟩
 refine⟨y4,H',w,?_,f'⟩;have:(cY (l.map Hc)).n=l.length:=by simp[cY]
 rw[this,xi]at e';exact e'
end
section
variable{H:Hs}{i q n:Nat}{ps:wo}
theorem G3{F:Bs}{ρ:Ev}{m:M Dv}{a v:Dv}{H1 H':Hs}(ha:m ρ H=.ok a H1)(e:F [a] H1=.ok v H'):aH F (aN m) ρ H=.ok v H':=by simp[aH,aY,ha,aU,e]
theorem z69(a b:Bool):bZ (.bl a) (.bl b) H=.ok (.bl (a !=b)) H:=by cases a<;>cases b<;>simp[bZ,cK,bS,bU]<;>rfl
theorem QB(o:Ck n ps):(cE n ps).length<=6:=by
 have:=yE (lt:=iI) (ahs n ps);rw[kD]at this;have:=o.n6;rw[GY,bf]
 lia
theorem z6a{l:y'}{m:M Dv}{ρ:Ev}(hl:l.length<64)(em:∀H1,Fr [] H H1->m ρ H1=.ok (dJ l) H1)(hs:iF l=l):∃H',mB (m2 bZ (aH (f1 lK) (aN m)) (aH (f1 nL) (aN m))) ρ H=.ok false H'/\Fr [] H H':=by
 have c1:aH (f1 lK) (aN m) ρ H=.ok (.ref H.length) (H++[.lst (l.map Hc)]):=G3 (em H Hh) rfl;have fa:Fr [] H (H++[Hd (l.map Hc)]):=He;have g1:getL (H++[Hd (l.map Hc)]) H.length=some (l.map Hc):=by simp[getL]
 generalize H++[Hd (l.map Hc)]=H1 at c1 fa g1;have c2:aH (f1 nL) (aN m) ρ H1=.ok (.ref H1.length) (H1++[.lst (l.map Hc)]):=G3 (em H1 fa) (by show nL (.tup (l.map Hc)) H1=_;simp only[nL,GL,hl,if_true,hs]);have fb:Fr [] H1 (H1++[Hd (l.map Hc)]):=He;have g2:getL (H1++[Hd (l.map Hc)]) H1.length=some (l.map Hc):=by simp[getL]
 have g3:getL (H1++[Hd (l.map Hc)]) H.length=some (l.map Hc):=fL g1;generalize H1++[Hd (l.map Hc)]=H2 at c2 fb g2 g3;refine⟨H2,?_,fa.trans fb (by simp)⟩;unfold mB;rw[dI c1 c2 (P7 g3 g2)];rfl
theorem qT(n:Nat)(ps:wo):(cE n ps).flatten.length=n:=by have:=((ik GZ (Gu.imp λh=>by lia)).mpr λt=>Gh (n:=n) (ps:=ps) (t:=t)).length_eq;simpa[bH]using this
theorem z6b{k:Nat}(hk:k<(cE n ps).length):((cE n ps).take k).flatten.length+(cE n ps)[k].length<=n/\(cE n ps)[k].Nodup/\∀t∈(cE n ps)[k],t∉((cE n ps).take k).flatten:=by
 have e:(cE n ps).flatten=((cE n ps).take k).flatten++((cE n ps)[k]++((cE n ps).drop (k+1)).flatten):=by rw[<-jv,<-sf hk,<-List.flatten_append,uw]
 have nd:=GZ (n:=n) (ps:=ps);have ln:=qT n ps;rw[e]at nd ln;obtain⟨_,h2,h3⟩:=List.nodup_append.mp nd;obtain⟨h4,_,_⟩:=List.nodup_append.mp h2;refine⟨by rw[cz,cz]at ln;lia,h4,λt ht ht'=>?_⟩;exact h3 t ht' t (jt _ ht) rfl
theorem z6c(o:Ck n ps){k:Nat}(hk:k<(cE n ps).length)(g:getL H i=some ((cE n ps).map dJ))(e:fP H q=some (gD 0 ((cE n ps).take k))){x4 x5:Bu}:
  ∃y4 H',aB (A6 n ps i q (some (.int k)) x4 x5) H=.nx (A6 n ps i q (some (.int k)) y4 x5) H'/\fP H' q=some (gD 0 ((cE n ps).take (k+1)))/\Fr [q] H H':=by
 have n6:=o.n6;obtain⟨h1,h2,h3⟩:=z6b hk;have w1:=P9 (z65 (n:=n) (ps:=ps) (q:=q) (x4:=x4) (x5:=x5) g hk (by lia));have hs:iF (cE n ps)[k]=(cE n ps)[k]:=by have:(cE n ps)[k]∈cE n ps:=di hk;obtain⟨m,_,em⟩:=bz.mp this;rw[<-em];exact z5w
 obtain⟨H1,w2,f1⟩:=z6a (H:=H) (m:=m2 aQ (aD 1) (aD 3)) (ρ:=A6 n ps i q (some (.int k)) x4 x5) (l:=(cE n ps)[k]) (by lia) (λH1 f=>G1 (f.getL g (by simp)) hk) hs;have g1:=f1.getL g (by simp);have e1:=G2 e f1 (by simp);have Eh:(gD 0 ((cE n ps).take k)).map bw=((cE n ps).take k).flatten:=AQ _ _;obtain⟨y4,H2,w3,e3,f3⟩:=z68 (n:=n) (ps:=ps) (x4:=x4) (x5:=x5) g1 hk e1 h2 (λt ht=>by rw[Eh];exact h3 t ht) (by
  have:=congrArg ow Eh;rw[bf]at this
  lia)
 refine⟨y4,H2,?_,?_,(f1.mono (by simp)).trans f3 (by simp)⟩
 ·exact(bT ((fW w1).trans rfl)).trans ((bT ((fW w2).trans rfl)).trans w3)
 ·rw[e3,wz hk,P0,jo,xb,Nat.min_eq_left (gh hk)]
theorem z6d(o:Ck n ps)(e:fP H q=some (gD 0 (cE n ps))){x3 x4 x5:Bu}:∃H',aS (A6 n ps i q x3 x4 x5) H=.nx (A6 n ps i q x3 x4 x5) H'/\Fr [] H H':=by
 have n6:=o.n6;have hl:(gD 0 (cE n ps)).length<64:=by
  have h:=congrArg ow (AQ (cE n ps) 0);rw[bf,qT]at h
  lia
 have c1:aH (f1 pA) (aN (aD 2)) (A6 n ps i q x3 x4 x5) H=.ok (.ref H.length) (H++[.lst ((bH n).map Hc)]):=K61.call1 (x:=2) rfl (by show pA (.ref q) H=_;simp only[pA,e,hl,if_true,z5z]);have fa:Fr [] H (H++[Hd ((bH n).map Hc)]):=He;have g1:getL (H++[Hd ((bH n).map Hc)]) H.length=some ((bH n).map Hc):=by simp[getL]
 generalize H++[Hd ((bH n).map Hc)]=H1 at c1 fa g1;have c2:aH (f1 kB) (aN (m2 aQ (aD 0) (aG 0))) (A6 n ps i q x3 x4 x5) H1=.ok (.ref H1.length) (H1++[.lst ((bH n).map Hc)]):=G3 (dI (ma:=aD 0) (mb:=aG 0) rfl rfl (z:=.int n) (H3:=H1) rfl) (FW n6);have fb:Fr [] H1 (H1++[Hd ((bH n).map Hc)]):=He;have g2:getL (H1++[Hd ((bH n).map Hc)]) H1.length=some ((bH n).map Hc):=by simp[getL]
 have g3:getL (H1++[Hd ((bH n).map Hc)]) H.length=some ((bH n).map Hc):=fL g1;generalize H1++[Hd ((bH n).map Hc)]=H2 at c2 fb g2 g3;refine⟨H2,(fW ?_).trans rfl,fa.trans fb (by simp)⟩;unfold mB;rw[dI c1 c2 (P7 g3 g2)];rfl
theorem GR(o:Ck n ps)(hb:eU n ps=[])(e:fP H q=some (gD 0 (cE n ps))){a:Nat}(ha:a<n){x3 x4:Bu}:aC (A6 n ps i q x3 x4 (some (.int a))) H=.ok [] H:=by
 have n6:=o.n6;have w:aC (A6 n ps i q x3 x4 (some (.int a))) H=.ok ((az n).filterMap λ_=>none) H:=
  iT (az n) (λ_=>none) (λρ=>∃b,ρ=[b,some (.int a),some (bA n ps),some (.ref q)]) (K74.rng_d o rfl) (by simp[bX]) ⟨none,rfl⟩ rfl (λk hk ρ⟨b,z⟩=>by
   subst z;have Du:k<n:=by simpa using hk
   refine⟨.int (0+k),[some (.int (0+k)),some (.int a),some (bA n ps),some (.ref q)],rfl,rfl,⟨_,rfl⟩,?_⟩;rw[Be];obtain⟨x,ex,_⟩:=AR (ps:=ps) ha;obtain⟨y,ey,_⟩:=AR (ps:=ps) Du;have hlt:=z61 o hb ha Du ex ey;have e1:m2 (dX false) (aO (aJ (aD 1) (aD 0))) (m2 aQ (aD 2) (aG 1)) [some (.int (k:Int)),some (.int a),some (bA n ps),some (.ref q)] H=.ok (.bl (decide (((a:Int),(k:Int))∈ps))) H:=dI (ma:=aO (aJ (aD 1) (aD 0))) (x:=aM ((a:Int),(k:Int))) (y:=.tup (ps.map aM)) rfl (dI (ma:=aD 2) (mb:=aG 1) rfl rfl rfl) (qC false H _ ps);have i1:∀(t:Nat)(v:Nat),(gD 0 (cE n ps)).lookup (t:Int)=some (v:Int)->lS (.ref q) (.int t) H=.ok (.int v) H:=λt v h=>by unfold lS;dsimp only;rw[e];dsimp only;rw[h]
   have e2:m2 fO (m2 lS (aD 3) (aD 1)) (m2 lS (aD 3) (aD 0)) [some (.int (k:Int)),some (.int a),some (bA n ps),some (.ref q)] H=.ok (.bl (decide ((x:Int)<(y:Int)))) H:=dI (dI (ma:=aD 3) (mb:=aD 1) rfl rfl (i1 a x ex)) (dI (ma:=aD 3) (mb:=aD 0) rfl rfl (i1 k y ey)) rfl;have:decide (((a:Int),(k:Int))∈ps)=decide ((x:Int)<(y:Int)):=by
    rw[fv,decide_eq_true_eq,decide_eq_true_eq,hlt]
    lia
   show mB _ _ H=_;unfold mB;rw[dI e1 e2 (z69 _ _),this];simp[fU]) (by simp;lia)
 rw[w];have:((az n).filterMap λ_:Nat=>(none:Bu))=[]:=List.filterMap_eq_nil_iff.mpr λ_ _=>rfl;rw[this]
theorem z6e(o:Ck n ps)(hb:eU n ps=[])(g:getL H i=some ((cE n ps).map dJ)):∃H',vF [bA n ps,.ref i] H=.ok (.bl true) H'/\Fr [] H H':=by
 have n6:=o.n6;have l6:=QB o;have t1:cQ (bN (m1 (bO mM) (aD 1))) [some (bA n ps),some (.ref i),none,none,none,none] H=.ok false H:=by simp[cQ,bN,m1,aD,bO,hO,g,mM,fZ]
 have t2:=P9 (z64 (n:=n) (ps:=ps) (x2:=none) (x3:=none) (x4:=none) (x5:=none) (by lia) g λl hl=>by obtain⟨m,hm,rfl⟩:=bz.mp hl;exact z5y hm);have w3:aR zE (aI 2) [some (bA n ps),some (.ref i),none,none,none,none] H=.nx (A6 n ps i H.length none none none) (H++[.dct (.inr [])]):=rfl;have fa:Fr [] H (H++[Hx (.inr [])]):=He;have e3:fP (H++[Hx (.inr [])]) H.length=some (gD 0 ((cE n ps).take 0)):=by simp[fP,gD]
 have g3:getL (H++[Hx (.inr [])]) i=some ((cE n ps).map dJ):=fa.getL g (by simp);obtain⟨q,hq⟩:∃q,q=H.length:=⟨_,rfl⟩
 rw[<-hq]at w3 e3;generalize H++[Hx (.inr [])]=H1 at w3 fa e3 g3;have hi:aX cJ (aN (aH (f1 cU) (aN (aD 1)))) (A6 n ps i q none none none) H1=.ok (bX 0 (cE n ps).length) H1:=by refine GN ?_ (by lia) (by lia);refine K61.call1 (x:=1) rfl ?_;show cU (.ref i) H1=_;simp[cU,eF,gX,gH,g3]
 have hiq:=z67 e3 g3;obtain⟨ρ',H2,w4,y3,y4,rfl,e4,f4⟩:=mO (b:=aB) (sg:=aI 3) hi (λk ρ H'=>∃y3 y4,ρ=A6 n ps i q y3 y4 none/\fP H' q=some (gD 0 ((cE n ps).take k))/\Fr [q] H1 H')
  (λk ρ H' hk⟨y3,y4,z,e',f'⟩=>by
   subst z;have Du:k<(cE n ps).length:=by simpa[bX]using hk
   obtain⟨z4,H2,w,e2,f2⟩:=z6c (x4:=y4) (x5:=none) o Du (f'.getL g3 (by simpa using hiq)) e';exact⟨.int k,A6 n ps i q (some (.int k)) y4 none,_,H2,by simp[bX],rfl,w,_,z4,rfl,e2,f'.trans f2 (by simp)⟩) (λ_ _ _=>rfl) ⟨none,none,rfl,e3,Hh⟩
 have hn:(bX 0 ((cE n ps).length:Int)).n=(cE n ps).length:=by simp[bX]
 rw[hn,xi]at e4;obtain⟨H3,w5,f5⟩:=z6d (i:=i) (x3:=y3) (x4:=y4) (x5:=none) o e4;have e5:=G2 e4 f5 (by simp);obtain⟨ρ2,H4,w6,y5,rfl,f6⟩:=mO (b:=aE) (sg:=aI 5) (K74.rng_d (H:=H3) (ρ:=A6 n ps i q y3 y4 none) (x:=0) o rfl) (λk ρ H'=>∃y5,ρ=A6 n ps i q y3 y4 y5/\Fr [] H3 H')
  (λk ρ H' hk⟨y5,z,f'⟩=>by
   subst z;have Du:k<n:=by simpa[bX]using hk
   have c:=GR (i:=i) (x3:=y3) (x4:=y4) o hb (G2 e5 f' (by simp)) Du;obtain⟨H5,w,f⟩:=K05.al_ne (H:=H') c (λx hx=>nomatch hx);exact⟨.int k,A6 n ps i q y3 y4 (some (.int k)),A6 n ps i q y3 y4 (some (.int k)),H5,by simp[bX],rfl,(fW w).trans rfl,_,rfl,f'.trans f (by simp)⟩) (λ_ _ _=>rfl) ⟨none,rfl,Hh⟩
 refine⟨H4,?_,((fa.trans f4 λk hk=>.inr (by simp at hk;lia)).trans f5 (by simp)).trans f6 (by simp)⟩;show bV (EZ [some (bA n ps),some (.ref i),none,none,none,none] H)=_;have w1:bF (cQ (bN (m1 (bO mM) (aD 1)))) (aT (mC (.bl false))) bP [some (bA n ps),some (.ref i),none,none,none,none] H=.nx [some (bA n ps),some (.ref i),none,none,none,none] H:=(fW t1).trans rfl;have w2:bF (cQ (bN (mL hV aA))) (aT (mC (.bl false))) bP [some (bA n ps),some (.ref i),none,none,none,none] H=.nx [some (bA n ps),some (.ref i),none,none,none,none] H:=(fW t2).trans rfl;rw[z62,bT w1,bT w2,bT w3,bT w4,bT w5,bT w6];rfl
end
def rq(a b c:Nat):Bt:=[.bl (a==c),.bl (a+1==c),.bl (a+2==c)].take b
def Cr:M Bt:=(eZ (m1 (bO (eR none tbl0)) (aD 1)) (m1 (bO (eR none tbl1)) (aD 1)) (m1 (bO (eR none tbl2)) (aD 1)))
def Em:M Bt:=(eZ (m1 (bO (eR none tbl3)) (aD 1)) (m1 (bO (eR none tbl4)) (aD 1)) (m1 (bO (eR none tbl5)) (aD 1)))
def rs3:M Bt:=(eZ (m1 (bO (eR none tbl6)) (aD 1)) (m1 (bO (eR none tbl7)) (aD 1)) (m1 (bO (eR none tbl8)) (aD 1)))
def pE:M Bt:=(eZ (m1 (bO (eR none tbl9)) (aD 1)) (m1 (bO (eR none tbl10)) (aD 1)) (m1 (bO (eR none tbl11)) (aD 1)))
def G4:M Bt:=(aJ (m1 (bO (eR none tbl12)) (aD 1)) (m1 (bO (eR none tbl13)) (aD 1)))
def AS:M Bt:=cR (aX cJ (aN (aG 14))) [none,some 3] (aI 0) (bN (m2 aQ (aD 1) (aD 0))) (cG (aD 0))
def QC:MS:=bF (cQ (bN (m1 (bO (eR none tblV)) (aD 1)))) (aT (mC .non)) bP
theorem z6f:lT=aL (aR (aZ Cr) (aI 3)) (aL (aR (m2 cV (aD 3) (aZ Em)) (aI 3)) (aL (aR (m2 cV (aD 3) (aZ rs3)) (aI 3)) (aL (aR (m2 cV (aD 3) (aZ pE)) (aI 3)) (aL (aR (m2 cV (aD 3) (aZ G4)) (aI 3)) (aL QC (aT (dF AS))))))):=rfl
section
variable{c:Nat}(hc:c=0) {H:Hs}{x0 x2 x3:Bu}
include hc
theorem z6g:aZ Cr [x0,some (.exc c),x2,x3] H=.ok (.ref H.length) (H++[.lst (rq 0 3 c)]):=by subst hc;rfl
theorem z6h:aZ Em [x0,some (.exc c),x2,x3] H=.ok (.ref H.length) (H++[.lst (rq 3 3 c)]):=by subst hc;rfl
theorem z6i:aZ rs3 [x0,some (.exc c),x2,x3] H=.ok (.ref H.length) (H++[.lst (rq 6 3 c)]):=by subst hc;rfl
theorem z6j:aZ pE [x0,some (.exc c),x2,x3] H=.ok (.ref H.length) (H++[.lst (rq 9 3 c)]):=by subst hc;rfl
theorem z6k:aZ G4 [x0,some (.exc c),x2,x3] H=.ok (.ref H.length) (H++[.lst (rq 12 2 c)]):=by subst hc;rfl
theorem z6l:QC [x0,some (.exc c),x2,x3] H=.nx [x0,some (.exc c),x2,x3] H:=by subst hc;rfl
theorem z6m{i:Nat}(e:getL H i=some ((az 14).map λk=>Hu (k==c))):AS [x0,some (.exc c),x2,some (.ref i)] H=.ok [.int c] H:=by
 have h:AS [x0,some (.exc c),x2,some (.ref i)] H=.ok ((az 14).filterMap λk=>if k==c then some (.int k)else none) H:=
  iT (az 14) (λk=>if k==c then some (.int (k:Nat))else none) (λρ=>∃a,ρ=[a,some (.ref i)]) (src:=bX 0 14) rfl rfl ⟨_,rfl⟩ rfl (λk hk ρ⟨a,e'⟩=>by
   subst e';have Du:k<14:=by simpa using hk
   refine⟨.int (0+k),[some (.int (0+k)),some (.ref i)],rfl,rfl,⟨_,rfl⟩,?_⟩;have ht:=kC (H:=H) (j:=k) e (by simpa using Du);rw[List.getElem_map,List.getElem_range]at ht;have h0:(0+(k:Int))=(k:Int):=by lia
   rw[h0,List.getElem_range]
   cases q:k==c with
   |true=>simp[bN,m2,aD,ht,q,fZ]
   |false=>simp[bN,m2,aD,ht,q,fZ]) (by simp)
 rw[h];subst hc;rfl
theorem z6n:∃i H',uH 4 14 lT (.ex c H)=.ok (.ref i) H'/\getL H' i=some [.int c]/\Fr [] H H':=by
 obtain⟨H1,hH1⟩:∃H1,H1=H++[Hd (rq 0 3 c)]:=⟨_,rfl⟩
 have g1:getL H1 H.length=some (rq 0 3 c):=by rw[hH1];exact last_get
 have f1:Fr [] H H1:=by rw[hH1];exact He
 have w1:∀x0 x2 x3,aR (aZ Cr) (aI 3) [x0,some (.exc c),x2,x3] H=.nx [x0,some (.exc c),x2,some (.ref H.length)] H1:=λx0 x2 x3=>by unfold aR;rw[z6g hc,hH1];rfl
 have step:∀(G0:Hs)(i:Nat)(xs ys:Bt)(m:M Bt ),getL G0 i=some xs->(∀x0 x2 x3(G:Hs),aZ m [x0,some (.exc c),x2,x3] G=.ok (.ref G.length) (G++[.lst ys]))->xs.length+ys.length<=500->
   ∃G' j,(∀x0 x2,aR (m2 cV (aD 3) (aZ m)) (aI 3) [x0,some (.exc c),x2,some (.ref i)] G0=.nx [x0,some (.exc c),x2,some (.ref j)] G')/\getL G' j=some (xs++ys)/\Fr [] G0 G':=by
  intro G0 i xs ys m e hm hl;refine⟨_,_,λx0 x2=>?_,last_get (H:=G0++[.lst ys]) (x:=xs++ys),Hy (T:=[]) He He (by simp)⟩;have a:=nS (H:=G0++[.lst ys]) (fL e) (last_get (H:=G0) (x:=ys)) hl;unfold aR;rw[GJ rfl (hm _ _ _ _) a];rfl
 obtain⟨H2,i2,w2,g2,f2⟩:=step H1 H.length (rq 0 3 c) (rq 3 3 c) Em g1 (λ_ _ _ _=>z6h hc) (by simp[rq]);obtain⟨H3,i3,w3,g3,f3⟩:=step H2 i2 _ (rq 6 3 c) rs3 g2 (λ_ _ _ _=>z6i hc) (by simp[rq]);obtain⟨H4,i4,w4,g4,f4⟩:=step H3 i3 _ (rq 9 3 c) pE g3 (λ_ _ _ _=>z6j hc) (by simp[rq]);obtain⟨H5,i5,w5,g5,f5⟩:=step H4 i4 _ (rq 12 2 c) G4 g4 (λ_ _ _ _=>z6k hc) (by simp[rq]);have g5':getL H5 i5=some ((az 14).map λk=>Hu (k==c)):=by rw[g5];rfl
 refine⟨H5.length,H5++[.lst [.int c]],?_,last_get,(((f1.trans f2 (by simp)).trans f3 (by simp)).trans f4 (by simp)).trans (T:=[]) (f5.trans (T:=[]) He (by simp)) (by simp)⟩;have hlt:c<14:=by lia
 show(if c<14 then uG (lT (oI 4 (.exc c)) H)else .bad)=_;rw[if_pos hlt,z6f];show uG (aL _ _ [none,some (.exc c),none,none] H)=_;rw[bT (w1 _ _ _),bT (w2 _ _),bT (w3 _ _),bT (w4 _ _),bT (w5 _ _),bT (z6l hc)];have hr:dF AS [none,some (.exc c),none,some (.ref i5)] H5=.ok (.ref H5.length) (H5++[.lst [.int c]]):=by unfold dF;rw[z6m hc g5'];rfl
 unfold aT;rw[hr];rfl
theorem z6o{caps:A'}{vs:Bt}{me:M Dv}{ρ:Ev}(hρ:mJ caps ρ=some vs)(hm:me (vs.map some) H=.ex c H):
  ∃H',bF (mB (m2 bZ (oJ caps 4 14 lT me) (aZ (aN (aG c))))) (aT (mC (.bl false))) bP ρ H=.nx ρ H'/\Fr [] H H':=by
 obtain⟨i,H1,e1,g1,f1⟩:=z6n hc (H:=H);refine⟨H1++[.lst [.int c]],?_,f1.trans (T:=[]) He (by simp)⟩;have a:oJ caps 4 14 lT me ρ H=.ok (.ref i) H1:=by unfold oJ;rw[hρ];show uH 4 14 lT (me (vs.map some) H)=_;rw[hm,e1]
 have b:aZ (aN (aG c)) ρ H1=.ok (.ref H1.length) (H1++[.lst [.int c]]):=rfl;have d:bZ (.ref i) (.ref H1.length) (H1++[.lst [.int c]])=.ok (.bl false) (H1++[.lst [.int c]]):=by have q1:=fL (l:=[.lst [.int c]]) g1;have q2:=last_get (H:=H1) (x:=[.int c]);simp[bZ,cK,bS,q1,q2,cD,bU,fX]
 have t:mB (m2 bZ (oJ caps 4 14 lT me) (aZ (aN (aG c)))) ρ H=.ok false (H1++[.lst [.int c]]):=by unfold mB m2;rw[a,Rs.bind_ok,b,Rs.bind_ok,d];rfl
 rw[fW t];rfl
end
abbrev QD:MS:=(bF (fV (cQ (bN (m1 (bO gR) (aD 7)))) (mB (m2 bZ (aH (f1 cU) (aN (aD 7))) (aG 2)))) (aT (mC (.bl false))) bP)
abbrev G5:MS:=(bF (dW (mB (m2 (iP true) (aD 5) (mC .non))) (cQ (bN (aH (eX 6) (aJ (aD 7) (aO (aJ (mC (.str "bar")) (aD 5)))))))) (aT (mC (.bl false))) bP)
abbrev G6:MS:=(bF (dW (mB (m2 (iP false) (aD 5) (mC .non))) (cQ (bN (aH (eX 6) (aJ (m2 aQ (aD 7) (aG 0)) (mC (.str "levels"))))))) (aT (mC (.bl false))) bP)
abbrev G7:MS:=(bF (dW (mB (m2 (iP false) (aD 5) (mC .non))) (cQ (bN (aH vF (aJ (aD 4) (m2 aQ (aD 7) (aG 1))))))) (aT (mC (.bl false))) bP)
abbrev AU:MS:=(bF (mB (m2 (iP false) (aD 5) (mC .non))) (dN (gC (m2 aQ (aD 7) (aG 1)) (aG 0))) bP)
abbrev tB:MS:=(aL (aR (aH gO (aN (aD 4))) (aI 7)) (aL QD (aL G5 (aL G6 (aL G7 AU)))))
abbrev tO:MS:=(aL (aR (aH qM (aN (aD 4))) (aI 5)) (dC (aX cJ (aN (aG 2))) (aI 6) tB))
abbrev tL:M Dv:=(aZ (aJ (aH sP (aJ (aD 2) (aG 6))) (aH sU (aJ (aD 2) (aH qL (aJ (aD 3) (mC (.bl false))))))))
abbrev tF:MS:=(bF (mB (m2 xU (aH (f1 nB) (aN (aD 3))) (aG 6))) (aR (aZ (aN (m2 cV (aG 1) (aH cZ (aJ (aD 2) (aG 6)))))) (aI 3)) bP)
abbrev tR:MS:=(bF (mB (m2 bZ (oJ [8] 4 14 lT vG) (aZ (aN (aG 0))))) (aT (mC (.bl false))) bP)
theorem z6p(scr:y'):zH scr=(aL (aR (aH (qG scr) (aJ (aD 0) (aD 1))) (aI 2)) (aL (aR (aH jK (aN (aD 2))) (aI 3)) (aL tF (aL (dC (cC eM tL) (aI 4) tO) (aL (aR (aH uY (aN (aD 2))) (aI 8)) tR))))):=rfl
section
variable{ns:y'}{H:Hs}{ρ:Ev}{i j st n L0:Nat}{ps:wo}
theorem G8{a b:Nat}{xs ys:Bt}(ha:getL H a=some xs)(hb:getL H b=some ys)(h:xs≠ys):a≠b:=λz=>by rw[z,hb]at ha;exact h (cn ha).symm
structure Kp(st L0:Nat)(xs:Bt)(H:Hs):Prop where
 s:Com.St st H
 l:getL H L0=some xs
theorem Kp.fr{xs:Bt}{H':Hs}(k:Kp st L0 xs H)(f:Fr [] H H'):Kp st L0 xs H':=⟨k.s.fr f (by simp),f.getL k.l (by simp)⟩
abbrev iV(n:Nat)(ps:wo)(n':Nat)(ps':wo):Bt:=[bA n ps,bA n' ps']
theorem Kp.set{n' m m':Nat}{ps' qs Gk:wo}{ls:wt}{o:Ob}(k:Kp st L0 (iV m qs m' Gk) H)(g:getL H i=some (ls.map dJ)):Kp st L0 (iV m qs m' Gk) (H.set i o):=by
 have h1:i≠st:=by
  obtain⟨a,b,e⟩:=k.s;refine G8 g e λz=>?_
  cases ls with
  |nil=>cases z
  |cons x ls=>cases z
 have h2:i≠L0:=by
  refine G8 g k.l λz=>?_
  cases ls with
  |nil=>cases z
  |cons x ls=>
   have z1:dJ x=bA m qs:=(List.cons.inj z).1;have z2:x.map Hc=[.int m,.tup (qs.map aM)]:=by injection z1
   match x,z2 with
   |[],z2=>cases z2
   |[_],z2=>cases z2
   |_::_::_,z2=>cases z2
 exact⟨k.s.fr Ho (by simpa using dg h1),Ho.getL k.l (by simpa using dg h2)⟩
structure Fm(st n:Nat)(ps:wo)(b:Dv)(ρ:Ev):Prop where
 l:ρ.length=9
 a0:At ρ 0 .scr
 a2:At ρ 2 (.ref st)
 a4:At ρ 4 (bA n ps)
 a5:At ρ 5 b
theorem Fm.set{b:Dv}(m:Fm st n ps b ρ){j:Nat}{x:Bu}(h:6<=j):Fm st n ps b (ρ.set j x):=⟨by simp[m.l],(da (by lia)).trans m.a0,(da (by lia)).trans m.a2,(da (by lia)).trans m.a4,(da (by lia)).trans m.a5⟩
theorem QE{a b:Dv}(h7:At ρ 7 (.tup [a,b])):QD ρ H=.nx ρ H:=by
 have t1:cQ (bN (m1 (bO gR) (aD 7))) ρ H=.ok false H:=by simp[cQ,bN,m1,h7.v,bO,hO,gR,fZ]
 have t2:mB (m2 bZ (aH (f1 cU) (aN (aD 7))) (aG 2)) ρ H=.ok false H:=K63.neV (K61.call1 (F:=f1 cU) h7 rfl) (mb:=aG 2) rfl;exact(fW ((PC t1).trans t2)).trans rfl
theorem AV{x:Nat}{d:Dv}{neg b:Bool}(h:At ρ x d)(e:iP neg d .non H=.ok (.bl b) H):mB (m2 (iP neg) (aD x) (mC .non)) ρ H=.ok b H:=by unfold mB;rw[dI (K63.vv h) (mb:=mC .non) rfl e];rfl
theorem QF{k:Nat}{z:Str}:eX (k+1) [.str z,.str z] H=.ok (.bl true) H:=by simp[eX,iB,bM,cN,aL,bF,bN,m1,bO,aD,hO,rY,fZ,bP,aT,dM,m2,cP,cK,bS,bU,lJ,bV]
theorem z6q{a b c:Int}:eX 6 [.tup [.str "bar",cX (a,b,c)],.tup [.str "bar",cX (a,b,c)]] H=.ok (.bl true) H:=
 K81.same_tup (n:=5) (by simp) λx hx=>by
  rcases bc.mp hx with rfl|hx
  ·exact QF
  ·rw[cg.mp hx];exact K81.same_tup (n:=4) (by simp) λx hx=>by
    rcases bc.mp hx with rfl|hx
    ·exact K81.same_int
    ·rcases bc.mp hx with rfl|hx
     ·exact K81.same_int
     ·rw[cg.mp hx];exact K81.same_int
theorem z6r(o:Ck n ps)(hb:eU n ps=[]){m m':Nat}{qs Gk:wo}(k:Kp st L0 (iV m qs m' Gk) H)(f:Fm st n ps .non ρ):∃ρ' H',tB ρ H=.nx ρ' H'/\Fm st n ps .non ρ'/\Kp st L0 (iV m qs m' Gk) H':=by
 obtain⟨i,H1,e1,g1,f1'⟩:=K74.lob_lev (H:=H) o hb;have w1:=qS (i:=7) (K61.call1 (F:=gO) f.a4 e1);have f7:Fm st n ps .non (ρ.set 7 (some (.tup [.str "levels",.ref i]))):=f.set (by lia);have a7:At (ρ.set 7 (some (.tup [.str "levels",.ref i]))) 7 (.tup [.str "levels",.ref i]):=.new (by rw[f.l];lia);generalize ρ.set 7 (some (.tup [.str "levels",.ref i]))=ρ1 at w1 f7 a7;have k1:=k.fr f1';have t5:∀H,mB (m2 (iP false) (aD 5) (mC .non)) ρ1 H=.ok true H:=λH=>AV f7.a5 rfl;have w3:G5 ρ1 H1=.nx ρ1 H1:=(fW (K63.and_F (AV f7.a5 rfl))).trans rfl;have w4:G6 ρ1 H1=.nx ρ1 H1:=by have c:aH (eX 6) (aJ (m2 aQ (aD 7) (aG 0)) (mC (.str "levels"))) ρ1 H1=.ok (.bl true) H1:=K63.cl2 (dI (K63.vv a7) (mb:=aG 0) rfl rfl) (mb:=mC (.str "levels")) rfl QF;exact(fW ((K63.and_T (t5 H1)).trans (K61.ntT c))).trans rfl
 obtain⟨H2,e2,f2⟩:=z6e (H:=H1) o hb g1;have w5:G7 ρ1 H1=.nx ρ1 H2:=by have c:aH vF (aJ (aD 4) (m2 aQ (aD 7) (aG 1))) ρ1 H1=.ok (.bl true) H2:=K63.cl2x f7.a4 (dI (K63.vv a7) (mb:=aG 1) rfl rfl) e2;exact(fW ((K63.and_T (t5 H1)).trans (K61.ntT c))).trans rfl
 have g2:=f2.getL g1 (by simp);have k2:=k1.fr f2;have l6:=QB o;have w6:AU ρ1 H2=.nx ρ1 (H2.set i (.lst ((cE n ps).map dJ++[.int 0]))):=by
  unfold AU;rw[nE (t5 H2)];have hl:((cE n ps).map dJ).length<1000000:=by rw[bf];lia
  have c:m2 aQ (aD 7) (aG 1) ρ1 H2=.ok (.ref i) H2:=dI (K63.vv a7) (mb:=aG 1) rfl rfl;generalize m2 aQ (aD 7) (aG 1)=mm at c;generalize (cE n ps).map dJ=xs at g2 hl;simp[dN,gC,c,jD,g2,mC,kL,hl]
 refine⟨ρ1,H2.set i (.lst ((cE n ps).map dJ++[.int 0])),?_,f7,k2.set (n':=0) (ps':=[]) g2⟩;unfold tB;rw[bT w1,bT (QE a7),bT w3,bT w4,bT w5];exact w6
theorem z6s(o:Ck n ps){a b c:Int}{qs0:List (Int×Int×Int)}(hb:eU n ps=(a,b,c)::qs0){xs:Bt}(k:Kp st L0 xs H)(f:Fm st n ps (cX (a,b,c)) ρ):∃ρ' H',tB ρ H=.nx ρ' H'/\Fm st n ps (cX (a,b,c)) ρ'/\Kp st L0 xs H':=by
 obtain⟨H1,e1,f1'⟩:=K74.lob_bar (H:=H) o hb;have w1:=qS (i:=7) (K61.call1 (F:=gO) f.a4 e1);have f7:Fm st n ps (cX (a,b,c)) (ρ.set 7 (some (.tup [.str "bar",cX (a,b,c)]))):=f.set (by lia);have a7:At (ρ.set 7 (some (.tup [.str "bar",cX (a,b,c)]))) 7 (.tup [.str "bar",cX (a,b,c)]):=.new (by rw[f.l];lia);generalize ρ.set 7 (some (.tup [.str "bar",cX (a,b,c)]))=ρ1 at w1 f7 a7;have t5:mB (m2 (iP false) (aD 5) (mC .non)) ρ1 H1=.ok false H1:=AV f7.a5 rfl;have w3:G5 ρ1 H1=.nx ρ1 H1:=by have cc:aH (eX 6) (aJ (aD 7) (aO (aJ (mC (.str "bar")) (aD 5)))) ρ1 H1=.ok (.bl true) H1:=K63.cl2x a7 (K63.tp2 (ma:=mC (.str "bar")) rfl (K63.vv f7.a5)) z6q;exact(fW ((K63.and_T (AV f7.a5 rfl)).trans (K61.ntT cc))).trans rfl
 have w4:G6 ρ1 H1=.nx ρ1 H1:=(fW (K63.and_F t5)).trans rfl;have w5:G7 ρ1 H1=.nx ρ1 H1:=(fW (K63.and_F t5)).trans rfl;have w6:AU ρ1 H1=.nx ρ1 H1:=(fW t5).trans rfl;refine⟨ρ1,H1,?_,f7,k.fr f1'⟩;unfold tB;rw[bT w1,bT (QE a7),bT w3,bT w4,bT w5];exact w6
theorem z6t(o:Ck n ps){m m':Nat}{qs Gk:wo}(k:Kp st L0 (iV m qs m' Gk) H)(f:Fm st n ps (((eU n ps).head?.map cX).getD .non) ρ):∃ρ' H',tB ρ H=.nx ρ' H'/\Fm st n ps (((eU n ps).head?.map cX).getD .non) ρ'/\Kp st L0 (iV m qs m' Gk) H':=by
 cases hb:eU n ps with
 |nil=>rw[hb]at f;exact z6r o hb k f
 |cons q qs0=>obtain⟨a,b,c⟩:=q;rw[hb]at f;exact z6s o hb k f
theorem z6u(o:Ck n ps){m m':Nat}{qs Gk:wo}(k:Kp st L0 (iV m qs m' Gk) H)(hL:ρ.length=9)(a0:At ρ 0 .scr)(a2:At ρ 2 (.ref st))(a4:At ρ 4 (bA n ps)):∃ρ' H',tO ρ H=.nx ρ' H'/\ρ'.length=9/\At ρ' 0 .scr/\At ρ' 2 (.ref st)/\Kp st L0 (iV m qs m' Gk) H':=by
 obtain⟨H1,e1,f1'⟩:=z5u (H:=H) o;have w1:=qS (i:=5) (K61.call1 (F:=qM) a4 e1);have f:Fm st n ps (((eU n ps).head?.map cX).getD .non) (ρ.set 5 (some (((eU n ps).head?.map cX).getD .non))):=⟨by simp[hL],a0.o,a2.o,a4.o,.new (by lia)⟩
 generalize ρ.set 5 (some (((eU n ps).head?.map cX).getD .non))=ρ1 at w1 f;obtain⟨ρ',H2,w2,f2,k2⟩:=mO (b:=tB) (sg:=aI 6) (mi:=aX cJ (aN (aG 2))) (src:=bX 0 2) (ρ:=ρ1) (H:=H1) (H1:=H1) rfl (λ_ ρ H'=>Fm st n ps (((eU n ps).head?.map cX).getD .non) ρ/\Kp st L0 (iV m qs m' Gk) H')
  (λx ρ H' hx⟨f,k⟩=>by obtain⟨ρ2,H2,w,f2,k2⟩:=z6t (ρ:=ρ.set 6 (some (.int (0+x)))) o k (f.set (by lia));exact⟨.int (0+x),_,ρ2,H2,rfl,rfl,w,f2,k2⟩) (λ_ _ _=>rfl) ⟨f,k.fr f1'⟩
 exact⟨ρ',H2,(bT w1).trans w2,f2.l,f2.a0,f2.a2,k2⟩
theorem z6v(s:Com.St st H)(w:OkN ns)(e:getL H j=some (ns.map Hc))(hL:ρ.length=9)(a0:At ρ 0 .scr)(a2:At ρ 2 (.ref st))(a3:At ρ 3 (.ref j)):∃(j':Nat)(Ek:y')(ρ':Ev)(H':Hs),tF ρ H=.nx ρ' H'/\getL H' j'=some (Ek.map Hc)/\OkN Ek/\Ek.sum<=6/\Com.St st H'/\ρ'.length=9/\At ρ' 0 .scr/\At ρ' 2 (.ref st)/\At ρ' 3 (.ref j'):=by
 have t:mB (m2 xU (aH (f1 nB) (aN (aD 3))) (aG 6)) ρ H=.ok (decide (ns.sum>6)) H:=by unfold mB;rw[dI (K61.call1 (F:=f1 nB) a3 (K74.sum_ok e)) (mb:=aG 6) rfl (z:=.bl (decide (ns.sum>6))) (H3:=H) rfl];rfl
 by_cases c:ns.sum>6
 ·obtain⟨r,H1,r0,r1,t1,f1',s1⟩:=qO 6 s a2;have c1:m2 cV (aG 1) (aH cZ (aJ (aD 2) (aG 6))) ρ H=.ok (.int (1+r)) H1:=dI (ma:=aG 1) rfl t1 rfl;have c2:aZ (aN (m2 cV (aG 1) (aH cZ (aJ (aD 2) (aG 6))))) ρ H=.ok (.ref H1.length) (H1++[.lst [.int (1+r)]]):=by generalize m2 cV (aG 1) (aH cZ (aJ (aD 2) (aG 6)))=mm at c1;simp[aZ,aY,aU,c1,lim]
  refine⟨H1.length,[1+r],ρ.set 3 (some (.ref H1.length)),H1++[.lst [.int (1+r)]],?_,by simp[getL],⟨by simp,by simp,λx hx=>by simp at hx;lia⟩,by simp;lia,s1.fr (He (S:=[])) (by simp),by simp[hL],a0.o,a2.o,.new (by lia)⟩;exact(nE (t.trans (by rw[decide_eq_true c]))).trans (qS c2)
 ·exact⟨j,ns,ρ,H,(fW (t.trans (by rw[decide_eq_false c]))).trans rfl,e,w,by lia,s,hL,a0,a2,a3⟩
theorem QG:∀(ns:y')(k:Nat),(∀n∈ns,1<=n)->((kE k ns).length:Int)=ns.sum
 |[],k,h=>rfl
 |n::ns,k,h=>by have h1:=h n (by simp);have h2:=QG ns (k+1) λm hm=>h m (by simp[hm]);simp[kE,h2];lia
theorem z6w(scr:y')(k:Nat)(hL:ρ.length=9)(a0:At ρ 0 .scr)(a1:At ρ 1 (.int k)):∃ρ' H',zH scr ρ H=.nx ρ' H'/\ρ'.length=9/\At ρ' 0 .scr:=by
 obtain⟨H1,h1,f1',s1⟩:=z3n scr k H;have w1:=qS (i:=2) (K61.call2 (F:=qG scr) a0 a1 h1);generalize H.length=st at s1 w1;have b0:At (ρ.set 2 (some (.ref st))) 0 .scr:=a0.o;have b2:At (ρ.set 2 (some (.ref st))) 2 (.ref st):=.new (by lia);have bL:(ρ.set 2 (some (.ref st))).length=9:=by simp[hL]
 rw[z6p,bT w1];generalize ρ.set 2 (some (.ref st))=ρ1 at b0 b2 bL;obtain⟨j,ns,H2,e2,g2,w,f2,s2,_⟩:=K74.sizes_ok s1;have w2:=qS (i:=3) (K61.call1 (F:=jK) b2 e2);have c0:At (ρ1.set 3 (some (.ref j))) 0 .scr:=b0.o;have c2:At (ρ1.set 3 (some (.ref j))) 2 (.ref st):=b2.o;have c3:At (ρ1.set 3 (some (.ref j))) 3 (.ref j):=.new (by lia);have cL:(ρ1.set 3 (some (.ref j))).length=9:=by simp[bL]
 rw[bT w2];generalize ρ1.set 3 (some (.ref j))=ρ2 at c0 c2 c3 cL;obtain⟨j',Ek,ρ3,H3,w3,g3,w',hs,s3,dL,d0,d2,d3⟩:=z6v s2 w g2 cL c0 c2 c3;rw[bT w3];obtain⟨n,ps,H4,e4,o,s4,f4⟩:=z4a s3;have hj:j'∉[st]:=by
  obtain⟨a,b,q⟩:=s3;have:=G8 g3 q λz=>by
   match Ek,z with
   |[],z=>cases z
   |[_],z=>cases z
   |_::_::_,z=>cases z
  simpa using this
 have g4:=f4.getL g3 hj;have hlen:=QG Ek 0 w'.pos;have hge:1<=Ek.sum:=by
  have l1:=w'.l1
  match Ek,l1 with
  |x::xs,_=>
   have h1:=w'.pos x (by simp);have h2:=K74.sum_nn xs λm hm=>w'.pos m (by simp[hm]);simp
   lia
 obtain⟨qs,H5,e5,hq,hql,f5⟩:=z5h w' hs (by lia) g4;have s5:=s4.fr f5 (by simp);obtain⟨cs,H6,e6,o',s6,f6⟩:=z5n (n:=(kE 0 Ek).length) s5 (by lia) (by lia) rfl hq hql;have c5:aH qL (aJ (aD 3) (mC (.bl false))) ρ3 H4=.ok (bA (kE 0 Ek).length qs) H5:=K63.cl2x d3 (mb:=mC (.bl false)) rfl e5;have c6:aH sU (aJ (aD 2) (aH qL (aJ (aD 3) (mC (.bl false))))) ρ3 H4=.ok (bA (kE 0 Ek).length cs) H6:=K63.cl2x d2 c5 e6;have c4:aH sP (aJ (aD 2) (aG 6)) ρ3 H3=.ok (bA n ps) H4:=K63.cl2x d2 (mb:=aG 6) rfl e4;generalize (kE 0 Ek).length=n' at o' c6;have cl:tL ρ3 H3=.ok (.ref H6.length) (H6++[.lst (iV n ps n' cs)]):=by unfold tL;generalize aH sP (aJ (aD 2) (aG 6))=m1 at c4;generalize aH sU (aJ (aD 2) (aH qL (aJ (aD 3) (mC (.bl false)))))=m2' at c6;simp[aZ,aY,aU,c4,c6,lim]
 have kp:Kp st H6.length (iV n ps n' cs) (H6++[.lst (iV n ps n' cs)]):=⟨s6.fr (He (S:=[])) (by simp),by simp[getL]⟩
 generalize H6++[Hd (iV n ps n' cs)]=H7 at cl kp;generalize H6.length=L0 at cl kp;have hi:cC eM tL ρ3 H3=.ok (eW L0 2) H7:=by unfold cC;rw[cl,Rs.bind_ok];simp[eM,kp.l]
 obtain⟨ρ4,H8,w4,eL,e0,Gi,k8⟩:=mO (b:=tO) (sg:=aI 4) hi (λ_ ρ H'=>ρ.length=9/\At ρ 0 .scr/\At ρ 2 (.ref st)/\Kp st L0 (iV n ps n' cs) H')
  (λx ρ H' hx⟨l,z0,z2,kk⟩=>by
   have hx':x<2:=hx;obtain⟨N,rs,er,or'⟩:∃N rs,(iV n ps n' cs)[x]?=some (bA N rs)/\Ck N rs:=by
    match x,hx' with
    |0,_=>exact⟨_,_,rfl,o⟩
    |1,_=>exact⟨_,_,rfl,o'⟩
   obtain⟨ρ2,H2,w,l2,y0,y2,k2⟩:=z6u (ρ:=ρ.set 4 (some (bA N rs))) or' kk (by simp[l]) z0.o z2.o (.new (by lia));refine⟨bA N rs,_,ρ2,H2,?_,rfl,w,l2,y0,y2,k2⟩;show(match getL H' L0 with|some xs=>if xs.length=2 then xs[x]? else none|none=>none)=_;rw[kk.l];exact er) (λρ H'⟨_,_,_,kk⟩=>by simp[eW,kk.l]) ⟨dL,d0,d2,kp⟩
 obtain⟨d,H9,e9,tk,hno,s9,f9⟩:=z4r k8.s;have w5:=qS (i:=8) (K61.call1 (F:=uY) Gi e9);have a8:At (ρ4.set 8 (some d)) 8 d:=.new (by lia);have z0:At (ρ4.set 8 (some d)) 0 .scr:=e0.o;have zL:(ρ4.set 8 (some d)).length=9:=by simp[eL]
 have hm:vG ([d].map some) H9=.ex 0 H9:=by
  have nb:=z4u tk hno;have z:gO [d] H9=.ex 0 H9:=by show bV (K74.mb_qe [some d,none,none] H9)=_;rw[K74.lob_eq];generalize jJ=F at nb;simp[aL,dN,aH,aY,aD,aU,nb,bV]
  show aH gO (aN (aD 0)) [some d] H9=_;generalize gO=F at z;simp[aH,aY,aD,aU,z]
 obtain⟨H10,w6,f10⟩:=z6o (c:=0) rfl (H:=H9) (caps:=[8]) (vs:=[d]) (me:=vG) (ρ:=ρ4.set 8 (some d)) a8.c1 hm;rw[bT w4,bT w5];exact⟨_,H10,w6,zL,z0⟩
end
theorem loop(scr:y')(m:Int):∀(f k:Nat)(ρ:Ev)(H:Hs),ρ.length=9->At ρ 0 .scr->∃ρ' H',fS (bX 0 m) (aI 1) (zH scr) f k ρ H=.nx ρ' H'
 |0,k,ρ,H,_,_=>⟨_,H,rfl⟩
 |f+1,k,ρ,H,hL,a0=>by obtain⟨ρ1,H1,h,l1,b0⟩:=z6w (H:=H) (ρ:=ρ.set 1 (some (.int k))) scr k (by simp[hL]) a0.o (.new (by lia));obtain⟨ρ',H2,h2⟩:=loop scr m f (k+1) ρ1 H1 l1 b0;refine⟨ρ',H2,?_⟩;rw[<-h2];exact uR (d:=.int k) (by simp[bX]) rfl h
theorem z6x(scr:y'):∃hh,zJ scr [.scr] []=.ok (.bl true) hh:=by
 have hi:∃m:Int,aX cJ (aN (aH mZ (aJ (aG 1) (aH rN (aJ (aH (f1 (gX scr)) (aN (aD 0))) (aG 10)))))) [some .scr,none,none,none,none,none,none,none,none] []=.ok (bX 0 m) []:=by
  generalize hz:(if(10:Int)<scr.length then(10:Int)else scr.length)=z;have z0:0<=z:=by split at hz<;>lia
  have z1:z<=10:=by split at hz<;>lia
  generalize hm:(if z>(1:Int)then z else 1)=m;have m0:1<=m:=by split at hm<;>lia
  have m1':m<=10:=by split at hm<;>lia
  have hr:iN m=true:=by simp[iN];lia
  refine⟨m,?_⟩;have e1:rN [.int scr.length,.int 10] []=.ok (.int z) []:=by rw[<-hz];rfl
  have e2:mZ [.int 1,.int z] []=.ok (.int m) []:=by rw[<-hm];rfl
  simp[aX,aY,aH,mC,aD,aU,f1,gX,gH,e1,e2,cJ,hr]
 obtain⟨m,hi⟩:=hi;obtain⟨ρ',H',h⟩:=loop scr m (bX 0 m).n 0 [some .scr,none,none,none,none,none,none,none,none] [] rfl rfl;refine⟨H',?_⟩;show bV (zI scr [some .scr,none,none,none,none,none,none,none,none] [])=_;unfold zI N7;rw[bT ((sC hi).trans h)];rfl
open PySem.Calls PySem.W
theorem mk_of{l:OpenLaw}{w:cb}{K:Frag}{h:cq}{mg:Str->Option af}{fa:ai}(hob:ob K=obE)(hnt:noTabs K=true)(X:K.In h)(G:h.Ns du mg)(hfa:mg "law"=some (.ref fa)):
  ∃(fd:bq)(c P:ai),(∀(s:ag)(u:af),yh s fd ⟨[u],[]⟩ [("_law_script",u)])/\tabIn K "law"=some (c,P)/\noTabs K=true/\
   ∀(base:cq)(a:ai)(ns:y'),ns.length<=63->K.In base->base.Ns du mg->CodeHd base c P->mI mg base->Lawful l.prog w K mg base 16 fa fd "_law_script" [P] a ns:=by
 have hc:obF.all (λf=>f K)=true:=congrArg bw hob;have hf:AY K=AZ:=congrArg gz hob;have e:=hfa.symm.trans (mg_of X G (v:=.ref 405) (dB hc 33));cases e;refine(λ(z:∀R:Prop,(_->R)->R)=>z _ id) λR hR=>?_;obtain⟨g0,U0,B0,C0,D0⟩:=eI hf hc 202 E1 "is_whole" 201 ["thing"] 0 65 99 λ_ _ _ _ _ _=>jE λ_=>rfl;obtain⟨g1,U1,B1,C1,D1⟩:=eI hf hc 209 E2 "is_between" 208 ["thing","low","high"] 1 66 100 λ_ _ _ _ _ _=>LF λ_ _ _=>rfl;obtain⟨g2,U2,B2,C2,D2⟩:=eI hf hc 214 zK "is_rising" 213 ["parts"] 2 67 101 λ_ _ _ _ _ _=>jE λ_=>rfl;obtain⟨g3,U3,B3,C3,D3⟩:=eI hf hc 221 E3 "is_thing" 220 ["many","thing"] 3 68 102 λ_ _ _ _ _ _=>iQ λ_ _=>rfl;obtain⟨g4,U4,B4,C4,D4⟩:=eI hf hc 226 zM "are_things" 225 ["many","thing"] 4 69 103 λ_ _ _ _ _ _=>iQ λ_ _=>rfl;obtain⟨g5,U5,B5,C5,D5⟩:=eI hf hc 233 E4 "is_pair" 232 ["many","thing"] 5 70 104 λ_ _ _ _ _ _=>iQ λ_ _=>rfl;obtain⟨g6,U6,B6,C6,D6⟩:=eI hf hc 238 zN "are_pairs" 237 ["many","things"] 6 71 105 λ_ _ _ _ _ _=>iQ λ_ _=>rfl;obtain⟨g7,U7,B7,C7,D7⟩:=eI hf hc 243 zO "has_alike" 242 ["pairs"] 7 72 106 λ_ _ _ _ _ _=>jE λ_=>rfl;obtain⟨g8,U8,B8,C8,D8⟩:=eI hf hc 248 zP "is_complete" 247 ["pairs"] 8 73 107 λ_ _ _ _ _ _=>jE λ_=>rfl;obtain⟨g9,U9,B9,C9,D9⟩:=eI hf hc 255 E5 "is_order" 254 ["thing"] 9 74 108 λ_ _ _ _ _ _=>jE λ_=>rfl;obtain⟨g10,U10,B10,C10,D10⟩:=eI hf hc 262 E6 "need_order" 261 ["order"] 10 75 109 λ_ _ _ _ _ _=>jE λ_=>rfl;obtain⟨g11,U11,B11,C11,D11⟩:=eI hf hc 269 E7 "need_thing" 268 ["order","thing"] 11 76 110 λ_ _ _ _ _ _=>iQ λ_ _=>rfl;obtain⟨g12,U12,B12,C12,D12⟩:=eI hf hc 274 zQ "ahead_of" 273 ["order","thing"] 12 77 111 λ_ _ _ _ _ _=>iQ λ_ _=>rfl;obtain⟨g13,U13,B13,C13,D13⟩:=eI hf hc 281 E8 "are_loose" 280 ["order","one","other"] 13 78 112 λ_ _ _ _ _ _=>LF λ_ _ _=>rfl;obtain⟨g14,U14,B14,C14,D14⟩:=eI hf hc 288 E9 "is_bar" 287 ["order","a","b","c"] 14 79 113 λ_ _ _ _ _ _=>YX λ_ _ _ _=>rfl;obtain⟨g15,U15,B15,C15,D15⟩:=eI hf hc 293 vH "levels_of" 292 ["order"] 15 80 114 λ_ _ _ _ _ _=>jE λ_=>rfl;obtain⟨g16,U16,B16,C16,D16⟩:=eI hf hc 298 zR "levels_or_bar" 297 ["order"] 16 81 115 λ_ _ _ _ _ _=>jE λ_=>rfl;obtain⟨g17,U17,B17,C17,D17⟩:=eI hf hc 305 FA "_law_take" 304 ["_law_state_here","_law_many"] 17 82 116 λ_ _ _ _ _ _=>iQ λ_ _=>rfl;obtain⟨g18,U18,B18,C18,D18⟩:=eI hf hc 312 FC "_law_mixed" 311 ["_law_state_here","_law_many"] 18 83 117 λ_ _ _ _ _ _=>iQ λ_ _=>rfl;obtain⟨g19,U19,B19,C19,D19⟩:=eI hf hc 319 FD "_law_closed" 318 ["_law_many","_law_pairs"] 19 84 118 λ_ _ _ _ _ _=>iQ λ_ _=>rfl;obtain⟨g20,U20,B20,C20,D20⟩:=eI hf hc 326 FE "_law_whole" 325 ["_law_thing"] 20 85 119 λ_ _ _ _ _ _=>jE λ_=>rfl;obtain⟨g21,U21,B21,C21,D21⟩:=eI hf hc 333 FF "_law_cell_at" 332 ["_law_script","_law_k"] 21 86 120 λ_ _ _ _ _ _=>iQ λ_ _=>rfl;obtain⟨g22,U22,B22,C22,D22⟩:=eI hf hc 340 FG "_law_state" 339 ["_law_script","_law_k"] 22 87 121 λ_ _ _ _ _ _=>iQ λ_ _=>rfl;obtain⟨g23,U23,B23,C23,D23⟩:=eI hf hc 347 FH "_law_sizes" 346 ["_law_state_here"] 23 88 122 λ_ _ _ _ _ _=>jE λ_=>rfl;obtain⟨g24,U24,B24,C24,D24⟩:=eI hf hc 352 zS "_law_order" 351 ["_law_state_here","_law_most"] 24 89 123 λ_ _ _ _ _ _=>iQ λ_ _=>rfl;obtain⟨g25,U25,B25,C25,D25⟩:=eI hf hc 359 FI "_law_numbered" 358 ["_law_sizes_here"] 25 90 124 λ_ _ _ _ _ _=>jE λ_=>rfl;obtain⟨g26,U26,B26,C26,D26⟩:=eI hf hc 366 FJ "_law_of_sizes" 365 ["_law_sizes_here","_law_chains"] 26 91 125 λ_ _ _ _ _ _=>iQ λ_ _=>rfl;obtain⟨g27,U27,B27,C27,D27⟩:=eI hf hc 371 zT "_law_same" 370 ["_law_found","_law_due"] 27 92 126 λ_ _ _ _ _ _=>iQ λ_ _=>rfl;obtain⟨g28,U28,B28,C28,D28⟩:=eI hf hc 378 FK "_law_bad_order" 377 ["_law_state_here"] 28 93 127 λ_ _ _ _ _ _=>jE λ_=>rfl;obtain⟨g29,U29,B29,C29,D29⟩:=eI hf hc 383 qN "_law_refused" 382 ["_law_call"] 29 94 128 λ_ _ _ _ _ _=>jE λ_=>rfl;obtain⟨g30,U30,B30,C30,D30⟩:=eI hf hc 388 zU "_law_renamed" 387 ["_law_state_here","_law_order_here"] 30 95 129 λ_ _ _ _ _ _=>iQ λ_ _=>rfl;obtain⟨g31,U31,B31,C31,D31⟩:=eI hf hc 393 zV "_law_bar" 392 ["_law_order_here"] 31 96 130 λ_ _ _ _ _ _=>jE λ_=>rfl;obtain⟨g32,U32,B32,C32,D32⟩:=eI hf hc 398 sW "_law_are_levels" 397 ["_law_order_here","_law_thing"] 32 97 131 λ_ _ _ _ _ _=>iQ λ_ _=>rfl;obtain⟨g33,U33,B33,C33,D33⟩:=eI hf hc 405 zW "law" 404 ["_law_script"] 33 98 132 λ_ _ _ _ _ _=>jE λ_=>rfl;obtain⟨t_MOST_THINGS,c_MOST_THINGS⟩:=QL (n:="MOST_THINGS") (v:=6) (qU hc 133 rfl);have ex_NoOrder:Ef K 37:=⟨dB hc 164,dB hc 165,dB hc 166,dB hc 167,dB hc 168,dB hc 169,QK (qU hc 170 rfl)⟩
 refine hR ⟨g33,404,400,λs v=>.of_eq (D33 [v] rfl),dB hc 134,hnt,λbase a ns hlen _ _ hC hB=>⟨?_⟩⟩;obtain⟨hh,hl⟩:=z6x ns;refine⟨{K:=K,cl:=λc=>match c with|0=>37|1=>49|2=>61|3=>73|4=>85|5=>97|6=>145|7=>157|8=>169|9=>181|10=>193|11=>109|12=>121|13=>133|_=>24,scr:=ns,sa:=a,tabs:=λb=>if b=400 then some ((("law":Str)++".<locals>.")++"<lambda>")else none,lq:=(("law":Str)++".<locals>.")++"<lambda>"},zJ ns,hh,rfl,rfl,rfl,Y1,hl,?_⟩;refine z35 (A:=⟨202,g0,209,g1,214,g2,221,g3,226,g4,233,g5,238,g6,243,g7,248,g8,255,g9,262,g10,269,g11,274,g12,281,g13,288,g14,293,g15,298,g16,305,g17,312,g18,319,g19,326,g20,333,g21,340,g22,347,g23,352,g24,359,g25,366,g26,371,g27,378,g28,383,g29,388,g30,393,g31,398,g32,405,g33,37,49,61,73,85,97,145,157,169,181,193,109,121,133,t_MOST_THINGS,24,404,400⟩) ?_ (λ_ _ _ _ _ _ _=>trivial) ⟨rfl,hC,hB⟩;exact⟨rfl,⟨U0,B0,cS X G hc 0⟩,⟨U1,B1,cS X G hc 1⟩,⟨U2,B2,cS X G hc 2⟩,⟨U3,B3,cS X G hc 3⟩,⟨U4,B4,cS X G hc 4⟩,⟨U5,B5,cS X G hc 5⟩,⟨U6,B6,cS X G hc 6⟩,⟨U7,B7,cS X G hc 7⟩,⟨U8,B8,cS X G hc 8⟩,⟨U9,B9,cS X G hc 9⟩,⟨U10,B10,cS X G hc 10⟩,⟨U11,B11,cS X G hc 11⟩,⟨U12,B12,cS X G hc 12⟩,⟨U13,B13,cS X G hc 13⟩,⟨U14,B14,cS X G hc 14⟩,⟨U15,B15,cS X G hc 15⟩,⟨U16,B16,cS X G hc 16⟩,⟨U17,B17,cS X G hc 17⟩,⟨U18,B18,cS X G hc 18⟩,⟨U19,B19,cS X G hc 19⟩,⟨U20,B20,cS X G hc 20⟩,⟨U21,B21,cS X G hc 21⟩,⟨U22,B22,cS X G hc 22⟩,⟨U23,B23,cS X G hc 23⟩,⟨U24,B24,cS X G hc 24⟩,⟨U25,B25,cS X G hc 25⟩,⟨U26,B26,cS X G hc 26⟩,⟨U27,B27,cS X G hc 27⟩,⟨U28,B28,cS X G hc 28⟩,⟨U29,B29,cS X G hc 29⟩,⟨U30,B30,cS X G hc 30⟩,⟨U31,B31,cS X G hc 31⟩,⟨U32,B32,cS X G hc 32⟩,⟨U33,B33,cS X G hc 33⟩,mg_none_of X G (dB hc 49),mg_none_of X G (dB hc 50),mg_none_of X G (dB hc 51),mg_none_of X G (dB hc 52),mg_none_of X G (dB hc 53),mg_none_of X G (dB hc 54),mg_none_of X G (dB hc 55),mg_none_of X G (dB hc 56),mg_none_of X G (dB hc 57),mg_none_of X G (dB hc 58),mg_none_of X G (dB hc 59),mg_none_of X G (dB hc 60),mg_none_of X G (dB hc 61),mg_none_of X G (dB hc 62),mg_none_of X G (dB hc 63),mg_none_of X G (dB hc 64),mg_of X G c_MOST_THINGS,cS X G hc 34,cS X G hc 35,cS X G hc 36,cS X G hc 37,cS X G hc 38,cS X G hc 39,cS X G hc 40,cS X G hc 41,cS X G hc 42,cS X G hc 43,cS X G hc 44,cS X G hc 45,cS X G hc 46,cS X G hc 47,dB hc 34,qU hc 135 rfl,rfl,jG ⟨dB hc 171,ex_NoOrder⟩ jF,jG ⟨dB hc 150,ex_NoOrder⟩ jF,jG ⟨dB hc 151,ex_NoOrder⟩ jF,jG ⟨dB hc 152,ex_NoOrder⟩ jF,jG ⟨dB hc 153,ex_NoOrder⟩ jF,jG ⟨dB hc 154,ex_NoOrder⟩ jF,jG ⟨dB hc 155,ex_NoOrder⟩ jF,jG ⟨dB hc 156,ex_NoOrder⟩ jF,jG ⟨dB hc 157,ex_NoOrder⟩ jF,jG ⟨dB hc 158,ex_NoOrder⟩ jF,jG ⟨dB hc 159,ex_NoOrder⟩ jF,jG ⟨dB hc 160,ex_NoOrder⟩ jF,jG ⟨dB hc 161,ex_NoOrder⟩ jF,jG ⟨dB hc 162,ex_NoOrder⟩ jF,jG ⟨dB hc 163,ex_NoOrder⟩ jF,cS X G hc 48,dB hc 172,dB hc 173,dB hc 174,jO (dB hc 136) (jO (dB hc 137) (jO (dB hc 138) (jO (dB hc 139) (jO (dB hc 140) (jO (dB hc 141) (jO (dB hc 142) (jO (dB hc 143) (jO (dB hc 144) (jO (dB hc 145) (jO (dB hc 146) (jO (dB hc 147) (jO (dB hc 148) (jO (dB hc 149) YY))))))))))))),C33⟩
end L2.Mr.K72
open PySem PySem.W PyProof.Rows
set_option maxRecDepth 100000 in
set_option maxHeartbeats 0 in
theorem PySem.Challenge.cw_nearorders_k72_levels_or_what_bars_them_holds : PySem.Challenge.rw_nearorders_k72_levels_or_what_bars_them.Holds := by
  w_on
  refine holds_law L2.Mr.K72.ws fun said=> ?_
  refine holds_open (XP:=XL L2.Mr.K72.vw []) (YP:=L2.Mr.Ys L2.Mr.K72.ob L2.Mr.K72.obE) L2.Mr.K72.left L2.Mr.ys_of L2.Mr.ys_keeps (fun s e=> xl_of s (Bool.and_eq_true_iff.mp e).1) XL.keeps (by rfl) (by rfl) (by rfl) (fun s e=> recFacts_of (Bool.and_eq_true_iff.mp e).2) (by rfl) (by first| assumption| decide+kernel) (by decide+kernel) ⟨rfl,rfl,rfl,rfl,rfl,by decide+kernel⟩ ?hw ?hc
  case hw=> w_witness2
  case hc=> exact L2.Mr.walkK2 (l:=PySem.Challenge.rw_nearorders_k72_levels_or_what_bars_them) (n:=63) (k:=16) (x:="_law_script") "law" rfl (by decide) rfl ⟨rfl,by decide,by decide⟩ ⟨_,rfl,rfl⟩ (fun K w mg fa h hob hnt X G hmg=> L2.Mr.K72.mk_of hob hnt X G hmg)