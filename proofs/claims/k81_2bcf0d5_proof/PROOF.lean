import PyProof.Rows.All
import Wide.All
import OpenK.AllK
import Wide.FinOn
import Lean
import PyProof.EqAt
import PyProof.EqKinds
import PyProof.TupleCall
import PyProof.NeKinds
import PyProof.StationsW
import PyProof.ExcClass3
import PyProof.ExcBaseAll.ValueError
import PyProof.ExcArgsOwn
import KE.KIsAll
import PyProof.ZipIter
import PyProof.RulesAs
import KE.KLam
import PyProof.NsDelKeeps
import PyProof.Rows.Range3
import PyProof.SumWalkG
import PyProof.EnumMake
import PyProof.EnumFor
import PyProof.WalkInts
import PyProof.Rows.SortWalk
import KE.KSortAsk
import PySem.SetOps
import KE.KSortTup
import PySem.Challenge.RW_nearorders_k81_a_thing_taken_away
set_option Elab.async false
set_option linter.all false
set_option maxRecDepth 100000
set_option maxHeartbeats 4000000
namespace L2.Mr
open PySem PySem.Spec PySem.Calls PyProof.Rows PySem.W
def zof (o:Obj):Bool:=match o.cls,o.data with
  | .none,.fields _=>false
  | _,_=>true
def frgL (h:Heap):List Addr→Frag
  | []=>[]
  | a::as=>match h.get? a with
    | some o=>match zof o with
      | true=>(a,o)::frgL h as
      | false=>frgL h as
    | none=>frgL h as
def frg (h:Heap):Frag:=frgL h (List.range h.objs.size)
theorem z63 (h:Heap):∀ as,(frgL h as).In h
  | [],_,_,e=>nomatch e
  | a::as,b,o,e=>by
    unfold frgL at e
    split at e
    · rename_i o' q
      split at e
      · rw [List.lookup_cons] at e
        cases z:b==a with
        | true=>rw [z] at e;cases e;rw [eq_of_beq z];exact q
        | false=>rw [z] at e;exact z63 h as b o e
      · exact z63 h as b o e
    · exact z63 h as b o e
theorem z64 (h:Heap):∀ as,noTabs (frgL h as)=true
  | []=>rfl
  | a::as=>by
    unfold frgL
    split
    · split
      · rename_i q
        show (_&&_)=true
        rw [Bool.and_eq_true]
        refine ⟨?_,z64 h as⟩
        exact q
      · exact z64 h as
    · exact z64 h as
def fob (K:Frag) (f:Addr):Option FuncData:=match K.lookup f with
  | some o=>match o.data with
    | .func fd=>some { fd with kwdefaults:=.none,doc:=.none,pyModule:=.none,annotations:=none,closureTuple:=.none }
    | _=>none
  | none=>none
theorem zlc {K:Frag} {f:Addr} {n q:Str} {A:Arguments} {B:List Stmt} {S:Scope} {dV cd:Value} (h:fob K f=some (fnOf n q A B S dV .none .none .none none cd .none)):
    ∃ (oc:Value) (od:Option Addr) (kV dc pm:Value) (an:Option Addr) (ct:Value) (sl:Array (Option Value)),K.lookup f=some ⟨oc,od,.func (fnOf n q A B S dV kV dc pm an cd ct),sl⟩:=by
  unfold fob at h
  split at h
  · rename_i o e
    split at h
    · rename_i fd q
      obtain ⟨oc,od,dt,sl⟩:=o
      cases fd
      simp only [Option.some.injEq,FuncData.mk.injEq] at h
      obtain ⟨rfl,rfl,rfl,rfl,rfl,rfl,rfl,rfl,_,_,_,_,rfl,_,rfl⟩:=h
      simp only at q
      subst q
      exact ⟨_,_,_,_,_,_,_,_,e⟩
    · cases h
  · cases h
theorem z0p {F:List (Frag→Bool)} {K:Frag} (h:F.all (fun f=>f K)=true) (i:Nat) {f:Frag→Bool} (e:F[i]?=some f):f K=true:=List.all_eq_true.mp h f (List.mem_of_getElem? e)
theorem fnAt {l m:List (Option FuncData)} (h:l=m) (i:Nat) {a b:Option FuncData} (e:l[i]?=some a) (e':m[i]?=some b):a=b:=by subst h;rw [e] at e';exact Option.some.inj e'
def clsB (K:Frag) (q:Addr):Bool:=match K.lookup q with
  | some ⟨_,_,.cls _,_⟩=>true
  | _=>false
theorem z8b {K:Frag} {q:Addr} (h:clsB K q=true):∃ lo ld lc ls,K.lookup q=some ⟨lo,ld,.cls lc,ls⟩:=by
  unfold clsB at h
  split at h
  · exact ⟨_,_,_,_,by assumption⟩
  · cases h
def intB (K:Frag) (n:Str) (v:Int):Bool:=match nsIn K mainGlobals n with
  | some (some (.int i _))=>i==v
  | _=>false
theorem zim {K:Frag} {n:Str} {v:Int} (h:intB K n v=true):∃ t,nsIn K mainGlobals n=some (some (.int v t)):=by
  unfold intB at h
  split at h
  · rename_i i t e;rw [eq_of_beq h] at e;exact ⟨t,e⟩
  · cases h
theorem zin (p:Program) (w:World) (N:Nat) {α:Type} (f:Shared→α):(openEnds treeTable p w N).map f=(((Fast.tw10274390034422433532 Fast.tw14364793385576792824 (opening p) w N (PySem.start (opening p)).1 (PySem.start (opening p)).2).bind (Fast.tw14289696077712309145 p)).bind fun s₀=>match s₀.heap.isNs mainGlobals&&s₀.gens.size==0 with
  | true=>(Fast.tw14082659384304107361 Fast.tw14364793385576792824 p w s₀.heap.objs.size (s₀.heap.nsMap mainGlobals "__annotations__") N s₀ (topStub p)).bind fun s₁=>match staticsOk (importedModules p.main.body) s₀.heap s₁.heap&&namesBound p s₁.heap&&gensDone s₁&&laidKept s₀.heap s₁.heap with
      | true=>some s₁
      | false=>none
  | false=>none).map f:=by
  rw [← Fast.te10274390034422433532,← Fast.te14364793385576792824,← Fast.te14289696077712309145,← Fast.te14082659384304107361];rfl
abbrev bmW:List Value:=[.type "ValueError",.type "Exception",.type "BaseException",.type "object"]
def fnS (s:Stmt) (cd:Addr):Option FuncData:=match s with
  | .FunctionDef n a b _ _ _ sc _ _ _=>some (fnOf n n a b sc .none .none .none .none none (.ref cd) .none)
  | _=>none
def fE (p:Program) (i:Nat) (cd:Addr):Option FuncData:=fnS (p.main.body.getD i (.Pass ⟨0,0,0,0⟩)) cd
def nR (K:Frag) (n:Str) (a:Addr):Bool:=decide (nsIn K mainGlobals n=some (some (.ref a)))
def nN (K:Frag) (n:Str):Bool:=decide (nsIn K mainGlobals n=some none)
def sI (K:Frag) (a b:Value) (v:Bool):Bool:=decide (subIn K a b=some v)
def kI (K:Frag) (a b:Addr) (v:Bool):Bool:=decide (kitOne K (.ref a) (.ref b)=some v)
theorem dA {F:List (Frag→Bool)} {K:Frag} (h:F.all (fun f=>f K)=true) (i:Nat) {g:Frag→Prop} [∀ K,Decidable (g K)] (e:F[i]?=some (fun K=>decide (g K))):g K:=of_decide_eq_true (z0p h i e)
end L2.Mr
namespace L2.Mr.K81
open PySem PySem.Spec PySem.Calls PySem.W PyProof.Rows L2.Mr
def vw:Program:={ PySem.Challenge.pw_nearorders_k81_a_thing_taken_away with main:={ PySem.Challenge.pw_nearorders_k81_a_thing_taken_away.main with body:=List.filterMap (fun i=>PySem.Challenge.pw_nearorders_k81_a_thing_taken_away.main.body[i]?) [1,2,3,4,5,6,7,8,9,10,11,12,14,15,16,18,19,20,21,22,23,24,25,26,27,29,31,32,33,34,35,36,37,38,39,40] } }
def Xw:Shared→Bool:=fun s=>xlAt vw [] s&&recOk (RowW.records (OpenRow.toRowW PySem.Challenge.rw_nearorders_k81_a_thing_taken_away.row)) s
def obF:List (Frag→Bool):=[(nR · "is_whole" 166),(nR · "is_between" 173),(nR · "is_rising" 178),(nR · "is_thing" 185),(nR · "are_things" 190),(nR · "is_pair" 197),(nR · "are_pairs" 202),(nR · "has_alike" 207),(nR · "is_complete" 212),(nR · "is_order" 219),(nR · "need_order" 226),(nR · "need_thing" 233),(nR · "without" 238),(nR · "_law_cell_at" 245),(nR · "_law_state" 252),(nR · "_law_take" 259),(nR · "_law_mixed_row" 266),(nR · "_law_closed" 271),(nR · "_law_order" 276),(nR · "_law_bad_order" 283),(nR · "_law_same" 288),(nR · "_law_refused" 293),(nR · "law" 298),(nR · "NoOrder" 37),(nR · "NoNumber" 49),(nR · "NoPairs" 61),(nR · "Round" 73),(nR · "NoThing" 85),(nR · "NoRow" 97),(nR · "TooMany" 109),(nR · "TooFew" 121),(nR · "NoText" 133),(nR · "NoLine" 145),(nR · "NoDeed" 157),(nR · "NearError" 24),(nN · "ValueError"),(nN · "all"),(nN · "any"),(nN · "bool"),(nN · "int"),(nN · "isinstance"),(nN · "len"),(nN · "list"),(nN · "max"),(nN · "min"),(nN · "range"),(nN · "set"),(nN · "sorted"),(nN · "tuple"),(nN · "zip"),(codeIn · (.ref 165) "is_whole"),(codeIn · (.ref 172) "is_between"),(codeIn · (.ref 177) "is_rising"),(codeIn · (.ref 184) "is_thing"),(codeIn · (.ref 189) "are_things"),(codeIn · (.ref 196) "is_pair"),(codeIn · (.ref 201) "are_pairs"),(codeIn · (.ref 206) "has_alike"),(codeIn · (.ref 211) "is_complete"),(codeIn · (.ref 218) "is_order"),(codeIn · (.ref 225) "need_order"),(codeIn · (.ref 232) "need_thing"),(codeIn · (.ref 237) "without"),(codeIn · (.ref 244) "_law_cell_at"),(codeIn · (.ref 251) "_law_state"),(codeIn · (.ref 258) "_law_take"),(codeIn · (.ref 265) "_law_mixed_row"),(codeIn · (.ref 270) "_law_closed"),(codeIn · (.ref 275) "_law_order"),(codeIn · (.ref 282) "_law_bad_order"),(codeIn · (.ref 287) "_law_same"),(codeIn · (.ref 292) "_law_refused"),(codeIn · (.ref 297) "law"),(keepIn · (.ref 166)),(keepIn · (.ref 173)),(keepIn · (.ref 178)),(keepIn · (.ref 185)),(keepIn · (.ref 190)),(keepIn · (.ref 197)),(keepIn · (.ref 202)),(keepIn · (.ref 207)),(keepIn · (.ref 212)),(keepIn · (.ref 219)),(keepIn · (.ref 226)),(keepIn · (.ref 233)),(keepIn · (.ref 238)),(keepIn · (.ref 245)),(keepIn · (.ref 252)),(keepIn · (.ref 259)),(keepIn · (.ref 266)),(keepIn · (.ref 271)),(keepIn · (.ref 276)),(keepIn · (.ref 283)),(keepIn · (.ref 288)),(keepIn · (.ref 293)),(keepIn · (.ref 298)),(intB · "MOST_THINGS" 6),fun K=>decide (tabIn K "law" = some (297,295)),(sI · (.ref 37) (.ref 24) true),(sI · (.ref 49) (.ref 24) true),(sI · (.ref 61) (.ref 24) true),(sI · (.ref 73) (.ref 24) true),(sI · (.ref 85) (.ref 24) true),(sI · (.ref 97) (.ref 24) true),(sI · (.ref 109) (.ref 24) true),(sI · (.ref 121) (.ref 24) true),(sI · (.ref 133) (.ref 24) true),(sI · (.ref 145) (.ref 24) true),(sI · (.ref 157) (.ref 24) true),(kI · 37 37 true),(kI · 37 49 false),(kI · 37 61 false),(kI · 37 73 false),(kI · 37 85 false),(kI · 37 97 false),(kI · 37 109 false),(kI · 37 121 false),(kI · 37 133 false),(kI · 37 145 false),(kI · 37 157 false),(kI · 85 37 false),(kI · 85 49 false),(kI · 85 61 false),(kI · 85 73 false),(kI · 85 85 true),(kI · 85 97 false),(kI · 85 109 false),(kI · 85 121 false),(kI · 85 133 false),(kI · 85 145 false),(kI · 85 157 false),(kI · 121 37 false),(kI · 121 49 false),(kI · 121 61 false),(kI · 121 73 false),(kI · 121 85 false),(kI · 121 97 false),(kI · 121 109 false),(kI · 121 121 true),(kI · 121 133 false),(kI · 121 145 false),(kI · 121 157 false),fun K=>decide (findIn K (.ref 37) "__getattribute__" = some (some (.builtin "BaseException.__getattribute__"))),fun K=>decide (findIn K (.ref 37) "__getattr__" = some none),fun K=>decide (findIn K (.ref 37) "__class__" = some (some (.builtin "object.__class__"))),fun K=>decide (mroIn K 37 (.type "object")=some true),(sI · (.ref 37) (.type "BaseException") true),fun K=>decide (kitCls K (.ref 37) (.ref 37)=some true),(clsB · 37),fun K=>decide (findIn K (.ref 85) "__getattribute__" = some (some (.builtin "BaseException.__getattribute__"))),fun K=>decide (findIn K (.ref 85) "__getattr__" = some none),fun K=>decide (findIn K (.ref 85) "__class__" = some (some (.builtin "object.__class__"))),fun K=>decide (mroIn K 85 (.type "object")=some true),(sI · (.ref 85) (.type "BaseException") true),fun K=>decide (kitCls K (.ref 85) (.ref 85)=some true),(clsB · 85),fun K=>decide (findIn K (.ref 121) "__getattribute__" = some (some (.builtin "BaseException.__getattribute__"))),fun K=>decide (findIn K (.ref 121) "__getattr__" = some none),fun K=>decide (findIn K (.ref 121) "__class__" = some (some (.builtin "object.__class__"))),fun K=>decide (mroIn K 121 (.type "object")=some true),(sI · (.ref 121) (.type "BaseException") true),fun K=>decide (kitCls K (.ref 121) (.ref 121)=some true),(clsB · 121),(excIn · 37 bmW "ValueError.__new__"),(excIn · 85 bmW "ValueError.__new__"),(excIn · 121 bmW "ValueError.__new__"),fun K=>decide (kitOne K (.ref 37) (.type "ValueError")=some true),fun K=>decide (kitOne K (.ref 85) (.type "ValueError")=some true),fun K=>decide (kitOne K (.ref 121) (.type "ValueError")=some true),(sI · (.ref 24) (.type "BaseException") true),(sI · (.type "type") (.type "tuple") false),fun K=>decide (kitCls K (.ref 24) (.ref 24)=some true)]
def obN (K:Frag):List (Option FuncData):=[fob K 166,fob K 173,fob K 178,fob K 185,fob K 190,fob K 197,fob K 202,fob K 207,fob K 212,fob K 219,fob K 226,fob K 233,fob K 238,fob K 245,fob K 252,fob K 259,fob K 266,fob K 271,fob K 276,fob K 283,fob K 288,fob K 293,fob K 298]
def obX:List (Option FuncData):=[fE PySem.Challenge.pw_nearorders_k81_a_thing_taken_away 14 165,fE PySem.Challenge.pw_nearorders_k81_a_thing_taken_away 15 172,fE PySem.Challenge.pw_nearorders_k81_a_thing_taken_away 16 177,fE PySem.Challenge.pw_nearorders_k81_a_thing_taken_away 19 184,fE PySem.Challenge.pw_nearorders_k81_a_thing_taken_away 20 189,fE PySem.Challenge.pw_nearorders_k81_a_thing_taken_away 21 196,fE PySem.Challenge.pw_nearorders_k81_a_thing_taken_away 22 201,fE PySem.Challenge.pw_nearorders_k81_a_thing_taken_away 23 206,fE PySem.Challenge.pw_nearorders_k81_a_thing_taken_away 24 211,fE PySem.Challenge.pw_nearorders_k81_a_thing_taken_away 25 218,fE PySem.Challenge.pw_nearorders_k81_a_thing_taken_away 26 225,fE PySem.Challenge.pw_nearorders_k81_a_thing_taken_away 27 232,fE PySem.Challenge.pw_nearorders_k81_a_thing_taken_away 29 237,fE PySem.Challenge.pw_nearorders_k81_a_thing_taken_away 31 244,fE PySem.Challenge.pw_nearorders_k81_a_thing_taken_away 32 251,fE PySem.Challenge.pw_nearorders_k81_a_thing_taken_away 33 258,fE PySem.Challenge.pw_nearorders_k81_a_thing_taken_away 34 265,fE PySem.Challenge.pw_nearorders_k81_a_thing_taken_away 35 270,fE PySem.Challenge.pw_nearorders_k81_a_thing_taken_away 36 275,fE PySem.Challenge.pw_nearorders_k81_a_thing_taken_away 37 282,fE PySem.Challenge.pw_nearorders_k81_a_thing_taken_away 38 287,fE PySem.Challenge.pw_nearorders_k81_a_thing_taken_away 39 292,fE PySem.Challenge.pw_nearorders_k81_a_thing_taken_away 40 297]
def ob (K:Frag):Bool×List (Option FuncData):=(obF.all (fun f=>f K),obN K)
abbrev obE:Bool×List (Option FuncData):=(true,obX)
theorem left:LeftO PySem.Challenge.pw_nearorders_k81_a_thing_taken_away vw [] Xw (fun s=>ob (frg s.heap)) (fun _=>obE) 8000:=fun w=>by
  rw [zin,Fast.te4187177175401517315];kernel_rfl
end L2.Mr.K81
namespace L2
open PySem PySem.Spec PyProof.Rows
abbrev Key:=Sum Int Str
def zld:Key→Value→Bool
  | .inl k,v=>Value.isInt k v
  | .inr x,v=>Value.isStrOf x v
def keyH (w:World):Key→Int
  | .inl k=>hashInt k
  | .inr x=>hashStr w x
theorem z10:∀ {k:Key} {v:Value},zld k v=true→(∃ i t,k=Sum.inl i∧v=Value.int i t)∨(∃ x t,k=Sum.inr x∧v=Value.str x t)
  | .inl i,v,h=>by
    obtain ⟨t,e⟩:=Value.isInt_shape (k:=i) (v:=v) h
    exact .inl ⟨i,t,rfl,e⟩
  | .inr x,v,h=>by
    obtain ⟨t,e⟩:=Value.isStrOf_shape (x:=x) (v:=v) h
    exact .inr ⟨x,t,rfl,e⟩
theorem zle (a b:Int):decide ((Sum.inl a:Key)=Sum.inl b)=(a==b):=by
  by_cases e:a=b
  · subst e;simp
  · have h:¬ (Sum.inl a:Key)=Sum.inl b:=fun q=>e (Sum.inl.inj q)
    rw [decide_eq_false h]
    exact (beq_eq_false_iff_ne.mpr e).symm
theorem zlf (a b:Str):decide ((Sum.inr a:Key)=Sum.inr b)=decide (a=b):=by
  by_cases e:a=b
  · subst e;simp
  · have h:¬ (Sum.inr a:Key)=Sum.inr b:=fun q=>e (Sum.inr.inj q)
    rw [decide_eq_false h,decide_eq_false e]
theorem zlg (a:Int) (b:Str):decide ((Sum.inl a:Key)=Sum.inr b)=false:=decide_eq_false (fun q=>nomatch q)
theorem zlh (a:Str) (b:Int):decide ((Sum.inr a:Key)=Sum.inl b)=false:=decide_eq_false (fun q=>nomatch q)
def z8c (prog:Program) (w:World):PySem.KeyKind prog w Key where
  is:=zld
  hash:=keyH w
  inj:=fun v a b ha hb=>by
    rcases z10 ha with ⟨i,t,rfl,rfl⟩ | ⟨x,t,rfl,rfl⟩
    · rcases z10 hb with ⟨j,u,rfl,e⟩ | ⟨y,u,rfl,e⟩
      · injection e with e1 _;rw [e1]
      · exact nomatch e
    · rcases z10 hb with ⟨j,u,rfl,e⟩ | ⟨y,u,rfl,e⟩
      · exact nomatch e
      · injection e with e1 _;rw [e1]
  byValue:=fun k v h=>by
    rcases z10 h with ⟨i,t,rfl,rfl⟩ | ⟨x,t,rfl,rfl⟩ <;> rfl
  pyHash:=fun hv h=>by
    rcases z10 hv with ⟨i,t,rfl,rfl⟩ | ⟨x,t,rfl,rfl⟩
    · exact wpAny_pyHash_int h
    · exact wpAny_pyHash_str h
  eqBool:=fun hu hv h=>by
    rcases z10 hu with ⟨i,t,rfl,rfl⟩ | ⟨x,t,rfl,rfl⟩
    · rcases z10 hv with ⟨j,u,rfl,rfl⟩ | ⟨y,u,rfl,rfl⟩
      · rw [zle] at h;exact wpAny_eqBool_int h
      · rw [zlg] at h;exact SeqAt.EqAt.int_str i t y u _ _ _ _ h
    · rcases z10 hv with ⟨j,u,rfl,rfl⟩ | ⟨y,u,rfl,rfl⟩
      · rw [zlh] at h;exact SeqAt.EqAt.str_int x t j u _ _ _ _ h
      · rw [zlf] at h;exact wpAny_eqBool_str h
  «strs»:=fun k x t v h=>by
    rcases z10 h with ⟨i,u,rfl,e⟩ | ⟨y,u,rfl,e⟩
    · exact nomatch e
    · injection e with e1 _
      subst e1
      cases v <;> rfl
inductive V where
  | non | bl (b:Bool) | int (i:Int) | str (x:Str) | byt (b:Array UInt8) | flt (b:UInt64) | ref (a:Addr) | ty (n:String)
  deriving DecidableEq
def RelV:V→Value→Prop
  | .non,u=>u=Value.none
  | .bl b,u=>u=Value.bool b
  | .int i,u=>∃ t,u=Value.int i t
  | .str x,u=>∃ t,u=Value.str x t
  | .byt b,u=>∃ t,u=Value.bytes b t
  | .flt b,u=>∃ t,u=Value.float b t
  | .ref a,u=>u=Value.ref a
  | .ty n,u=>u=Value.type n
abbrev Vals:List V→List Value→Prop:=Paired RelV
theorem Vals.length {xs:List V} {us:List Value} (r:Vals xs us):xs.length=us.length:=Paired.length r
theorem Vals.get:∀ {xs:List V} {us:List Value} {i:Nat} {x:V},Vals xs us→xs[i]?=some x→∃ u,us[i]?=some u∧RelV x u
  | _,_,_,_,.nil,e=>by simp at e
  | _,_,0,_,.cons r _,e=>by simp at e;subst e;exact ⟨_,rfl,r⟩
  | _,_,i+1,x,.cons _ t,e=>by
    obtain ⟨u,h1,h2⟩:=Vals.get (i:=i) (x:=x) t (by simpa using e)
    exact ⟨u,by simpa using h1,h2⟩
theorem Vals.set {x:V} {u:Value} (r:RelV x u):∀ {xs:List V} {us:List Value} (i:Nat),Vals xs us→Vals (xs.set i x) (us.set i u)
  | _,_,_,.nil=>.nil
  | _,_,0,.cons _ t=>.cons r t
  | _,_,i+1,.cons q t=>.cons q (Vals.set r i t)
theorem Vals.append:∀ {xs ys:List V} {us ws:List Value},Vals xs us→Vals ys ws→Vals (xs++ys) (us++ws)
  | _,_,_,_,.nil,s=>s
  | _,_,_,_,.cons r t,s=>.cons r (Vals.append t s)
theorem Vals.take:∀ {xs:List V} {us:List Value} (n:Nat),Vals xs us→Vals (xs.take n) (us.take n)
  | _,_,0,_=>.nil
  | _,_,_+1,.nil=>.nil
  | _,_,n+1,.cons r t=>.cons r (Vals.take n t)
theorem Vals.drop:∀ {xs:List V} {us:List Value} (n:Nat),Vals xs us→Vals (xs.drop n) (us.drop n)
  | _,_,0,r=>r
  | _,_,_+1,.nil=>.nil
  | _,_,n+1,.cons _ t=>Vals.drop n t
def RelO:Option V→Option Value→Prop
  | some v,some u=>RelV v u
  | none,none=>True
  | _,_=>False
def KV {κ:Type}:List (κ×V)→List (κ×Value)→Prop:=Paired fun (p:κ×V) (q:κ×Value)=>p.1=q.1∧RelV p.2 q.2
def kV:Key→V
  | .inl i=>.int i
  | .inr x=>.str x
inductive HO where
  | lst (xs:List V)
  | tup (xs:List V)
  | dK (kvs:List (Key×V)) | dT (kvs:List (List Key×V))
  | set (S:Int→Bool) (n:Nat)
  | ins (C dx:Addr) (fs:List (Str×V))
  | own (x:Addr)
  | xd (fs:List (Str×V))
  | met (f x:Addr)
  | rng (lo hi:Int)
  | frz (o:Obj) (u:HO)
  | tbl (ps:Array Value)
  | ext (φ:Heap→Prop)
abbrev Hp:=Addr→Option HO
def upd (H:Hp) (a:Addr) (o:HO):Hp:=fun b=>if b=a then some o else H b
theorem z0b {H:Hp} {a:Addr} {o:HO}:upd H a o a=some o:=by unfold upd;rw [if_pos rfl]
theorem z0d {H:Hp} {a b:Addr} {o:HO} (h:b≠a):upd H a o b=H b:=by unfold upd;rw [if_neg h]
theorem z72 {H:Hp} {a b:Addr} {o u:HO} (h:H a=some o) (h':H b=some u) (d:o≠u):a≠b:=by
  intro e;subst e;rw [h] at h';exact d (Option.some.inj h')
theorem z0h {H:Hp} {a b:Addr} {o:HO} (h:H a=some o) (h':H b=none):a≠b:=by
  intro e;subst e;rw [h] at h';cases h'
def IsTupX (h:Heap) (a:Addr) (items:Array Value):Prop:=∃ o,h.get? a=some o∧o.cls=.type "tuple"∧o.dict=none∧∃ n,o.data=.seq items n
theorem IsTupX.tup {h:Heap} {a:Addr} {items:Array Value} (x:IsTupX h a items):IsTup h a items:=let ⟨o,e,c,_,d⟩:=x;⟨o,e,c,d⟩
theorem IsTupX.lt {h:Heap} {a:Addr} {items:Array Value} (x:IsTupX h a items):a<h.objs.size:=let ⟨_,e,_⟩:=x;Heap.lt_size e
theorem IsTupX.new (h:Heap) (items:Array Value):IsTupX (h.push { cls:=.type "tuple",data:=.seq items }) h.objs.size items:=⟨_,Heap.get?_push_size _ rfl,rfl,rfl,_,rfl⟩
section
variable (P:Program) (w:World)
def ObjOk (H:Hp) (h:Heap) (a:Addr):HO→Prop
  | .lst xs=>xs.length≤sizeLine∧∃ (its:List Value) (n:Nat),Vals xs its∧h.get? a=some { cls:=.type "list",data:=.seq its.toArray n }
  | .tup xs=>xs.length≤sizeLine∧∃ its:List Value,Vals xs its∧IsTupX h a its.toArray
  | .dK kvs=>kvs.length≤sizeLine∧(a==sysModules)=false∧∃ vs,KV kvs vs∧h.DictOf (z8c P w) a vs
  | .dT kvs=>kvs.length≤sizeLine∧(a==sysModules)=false∧∃ xs:List (List Key×Addr×Value),
      Paired (fun (p:List Key×V) (q:List Key×Addr×Value)=>p.1=q.1∧H q.2.1=some (.tup (p.1.map kV))∧RelV p.2 q.2.2) kvs xs ∧
      ∃ o es ep,h.get? a=some o∧o.ExactDict∧o.data=.dict es ep∧es.toList=xs.map (entryOfKey (tupleKind (z8c P w)))∧(xs.map (·.1)).Nodup
  | .set S n=>h.SetOf (intKind P w) a S n
  | .ins C dx fs=>H dx=some (.own a)∧fs.length≤1000∧dx≠a∧h.get? a=some (PySem.W.instObj C dx) ∧
      ∃ mA,h.Ns1 dx mA∧(∀ f,RelO (fs.lookup f) (mA f))∧PySem.Within mA (fs.map (·.1))
  | .own _=>∃ o,h.get? a=some o
  | .xd fs=>∃ mA,h.Ns1 a mA∧∀ f,RelO (fs.lookup f) (mA f)
  | .rng lo hi=>∃ t u v,h.get? a=some { cls:=.type "range",data:=.fields #[.int lo t,.int hi u,.int 1 v] }
  | .frz o u=>h.get? a=some o∧ObjOk H h a u
  | .tbl ps=>h.get? a=some { cls:=.none,data:=.fields ps }
  | .met f x=>h.get? a=some (PySem.W.methodObj (.ref f) (.ref x))
  | .ext φ=>φ h∧(∃ o,h.get? a=some o)∧∀ h1 h2:Heap,φ h1→(∀ o,h1.get? a=some o→h2.get? a=some o)→φ h2
def HOk (H:Hp) (h:Heap):Prop:=∀ a o,H a=some o→ObjOk P w H h a o
end
section
variable {P:Program} {w:World} {H H':Hp} {h h':Heap} {a:Addr} {o:HO}
theorem ObjOk.lt (x:ObjOk P w H h a o):a<h.objs.size:=by
  cases o with
  | lst xs=>obtain ⟨_,_,_,_,e⟩:=x;exact Heap.lt_size e
  | tup xs=>obtain ⟨_,_,_,p⟩:=x;exact p.lt
  | dK kvs=>obtain ⟨_,_,_,_,o,_,_,e,_⟩:=x;exact Heap.lt_size e
  | dT kvs=>obtain ⟨_,_,_,_,o,_,_,e,_⟩:=x;exact Heap.lt_size e
  | set S n=>obtain ⟨o,_,_,_,e,_⟩:=x;exact Heap.lt_size e
  | ins C dx fs=>obtain ⟨_,_,_,e,_⟩:=x;exact Heap.lt_size e
  | own y=>obtain ⟨_,e⟩:=x;exact Heap.lt_size e
  | xd fs=>obtain ⟨_,⟨_,_,_,e,_⟩,_⟩:=x;exact Heap.lt_size e
  | rng lo hi=>obtain ⟨_,_,_,e⟩:=x;exact Heap.lt_size e
  | frz ob u=>obtain ⟨e,_⟩:=x;exact Heap.lt_size e
  | tbl ps=>exact Heap.lt_size (show h.get? a=some _ from x)
  | met f y=>exact Heap.lt_size (show h.get? a=some _ from x)
  | ext φ=>obtain ⟨_,⟨_,e⟩,_⟩:=x;exact Heap.lt_size e
theorem Paired.mapP {α β:Type} {F G:α→β→Prop}:∀ {l₁:List α} {l₂:List β},Paired F l₁ l₂→(∀ a b,F a b→G a b)→Paired G l₁ l₂
  | _,_,.nil,_=>.nil
  | _,_,.cons r t,f=>.cons (f _ _ r) (Paired.mapP t f)
theorem ObjOk.stay (x:ObjOk P w H h a o) (k:∀ b u,(b=a∨H b=some (.own a))→h.get? b=some u→h'.get? b=some u)
    (ho:∀ b,H b=some (.own a)→H' b=some (.own a)) (ht:∀ b xs,H b=some (.tup xs)→H' b=some (.tup xs)):ObjOk P w H' h' a o:=by
  induction o with
  | lst xs=>obtain ⟨z,its,n,r,e⟩:=x;exact ⟨z,its,n,r,k _ _ (.inl rfl) e⟩
  | tup xs=>obtain ⟨z,its,r,ob,e,c⟩:=x;exact ⟨z,its,r,ob,k _ _ (.inl rfl) e,c⟩
  | dK kvs=>obtain ⟨z,y,vs,r,ob,es,ep,e,c⟩:=x;exact ⟨z,y,vs,r,ob,es,ep,k _ _ (.inl rfl) e,c⟩
  | dT kvs=>
    obtain ⟨z,y,xs,r,ob,es,ep,e,c⟩:=x
    exact ⟨z,y,xs,Paired.mapP r fun p q z=>⟨z.1,ht _ _ z.2.1,z.2.2⟩,ob,es,ep,k _ _ (.inl rfl) e,c⟩
  | set S n=>obtain ⟨ob,es,ep,t,e,c⟩:=x;exact ⟨ob,es,ep,t,k _ _ (.inl rfl) e,c⟩
  | ins C dx fs=>
    obtain ⟨d,z,ne,e,mA,⟨od,es,ep,e2,c⟩,r⟩:=x
    exact ⟨ho _ d,z,ne,k _ _ (.inl rfl) e,mA,⟨od,es,ep,k _ _ (.inr d) e2,c⟩,r⟩
  | own y=>obtain ⟨ob,e⟩:=x;exact ⟨ob,k _ _ (.inl rfl) e⟩
  | xd fs=>obtain ⟨mA,⟨od,es,ep,e,c⟩,r⟩:=x;exact ⟨mA,⟨od,es,ep,k _ _ (.inl rfl) e,c⟩,r⟩
  | rng lo hi=>obtain ⟨t,u,v,e⟩:=x;exact ⟨t,u,v,k _ _ (.inl rfl) e⟩
  | frz ob u ih=>obtain ⟨e,q⟩:=x;exact ⟨k _ _ (.inl rfl) e,ih q⟩
  | tbl ps=>
    have e:h.get? a=some { cls:=.none,data:=.fields ps }:=x
    show h'.get? a=some { cls:=.none,data:=.fields ps }
    exact k a _ (.inl rfl) e
  | met f y=>
    have e:h.get? a=some (PySem.W.methodObj (.ref f) (.ref y)):=x
    show h'.get? a=some (PySem.W.methodObj (.ref f) (.ref y))
    exact k a _ (.inl rfl) e
  | ext φ=>obtain ⟨p,⟨o,e⟩,st⟩:=x;exact ⟨st _ _ p fun o q=>k _ _ (.inl rfl) q,⟨o,k _ _ (.inl rfl) e⟩,st⟩
theorem HOk.lt (x:HOk P w H h) (e:H a=some o):a<h.objs.size:=(x a o e).lt
theorem HOk.fresh (x:HOk P w H h) (e:h.objs.size≤a):H a=none:=by
  cases q:H a with
  | none=>rfl
  | some u=>exact absurd (Nat.lt_of_lt_of_le (x.lt q) e) (Nat.lt_irrefl _)
theorem HOk.kept (x:HOk P w H h) (k:∀ b u,h.get? b=some u→h'.get? b=some u):HOk P w H h':=fun a o e=>
  (x a o e).stay (fun b u _ q=>k b u q) (fun _ q=>q) fun _ _ q=>q
theorem HOk.laid (x:HOk P w H h) (k:∀ b u,h.get? b=some u→h'.get? b=some u) (hp:h.objs.size≤a) (new:ObjOk P w (upd H a o) h' a o):HOk P w (upd H a o) h':=fun b u e=>by
  have hn:=x.fresh hp
  by_cases hb:b=a
  · subst hb;rw [z0b] at e;cases e;exact new
  · rw [z0d hb] at e
    exact (x b u e).stay (fun c v _ q=>k c v q) (fun c q=>by rw [z0d (z0h q hn)];exact q) fun c xs q=>by rw [z0d (z0h q hn)];exact q
end
def Rd (H:Hp) (a:Addr) (u:HO):Prop:=H a=some u∨∃ o,H a=some (.frz o u)
theorem Rd.of {H:Hp} {a:Addr} {u:HO} (h:H a=some u):Rd H a u:=.inl h
theorem Rd.ok {P:Program} {w:World} {H:Hp} {h:Heap} {a:Addr} {u:HO} (r:Rd H a u) (x:HOk P w H h):ObjOk P w H h a u:=by
  rcases r with r | ⟨o,r⟩
  · exact x a u r
  · obtain ⟨_,q⟩:=x a _ r
    exact q
def Mut:Option HO→Prop
  | some (.lst _)=>True
  | some (.dK _)=>True
  | some (.dT _)=>True
  | some (.set _ _)=>True
  | some (.ins _ _ _)=>True
  | some (.ext _)=>True
  | _=>False
section
variable {P:Program} {w:World} {H:Hp} {h h':Heap} {x e:Addr} {o':HO}
theorem HOk.write (ok:HOk P w H h) (mu:Mut (H x)) (he:e=x∨H e=some (.own x)) (k:∀ b u,b≠e→h.get? b=some u→h'.get? b=some u) (heo:∃ u,h'.get? e=some u)
    (new:ObjOk P w (upd H x o') h' x o'):HOk P w (upd H x o') h':=fun b u q=>by
  have nown:∀ c y,H c=some (.own y)→c≠x:=fun c y r z=>by subst z;rw [r] at mu;exact mu
  have ntup:∀ c xs,H c=some (.tup xs)→c≠x:=fun c xs r z=>by subst z;rw [r] at mu;exact mu
  by_cases hb:b=x
  · subst hb;rw [z0b] at q;cases q;exact new
  · rw [z0d hb] at q
    by_cases hbe:b=e
    · have q':H b=some (.own x):=by
        rcases he with z | z
        · exact absurd (hbe.trans z) hb
        · rw [hbe];exact z
      rw [q] at q';cases q'
      obtain ⟨v,hv⟩:=heo
      exact ⟨v,by rw [hbe];exact hv⟩
    · refine (ok b u q).stay (fun c v hc r=>k c v ?_ r) (fun c r=>by rw [z0d (nown c b r)];exact r) fun c xs r=>by rw [z0d (ntup c xs r)];exact r
      rcases hc with rfl | hc
      · exact hbe
      · rintro rfl
        rcases he with z | z
        · exact nown c b hc z
        · rw [hc] at z;cases z;exact hb rfl
end
structure Un (fs ex:List Addr) (H H':Hp) (h h':Heap):Prop where
  keep:∀ b o,h.get? b=some o→H b=none→b∉fs→b∉ex→h'.get? b=some o
  slot:∀ b o,h.get? b=some o→H b=none→b∈fs→b∉ex→∃ sl,h'.get? b=some { o with slots:=sl }
  free:∀ b o,h.get? b=some o→H b=none→b∉ex→H' b=none
  there:∀ b o,h.get? b=some o→b∉ex→∃ o',h'.get? b=some o'
  tups:∀ b xs,H b=some (.tup xs)→H' b=some (.tup xs)
  frzs:∀ b o u,H b=some (.frz o u)→H' b=some (.frz o u)
  tbls:∀ b ps,H b=some (.tbl ps)→∃ more,H' b=some (.tbl (ps++more))
section
variable {fs fs' ex ex':List Addr} {H H1 H2:Hp} {h h1 h2 h':Heap} {a x e:Addr} {o:HO}
theorem Un.any (u:Un fs ex H H1 h h1) {b:Addr} {ob:Obj} (q:h.get? b=some ob) (n:H b=none) (hx:b∉ex):∃ sl,h1.get? b=some { ob with slots:=sl }:=by
  by_cases hb:b∈fs
  · exact u.slot b ob q n hb hx
  · exact ⟨ob.slots,u.keep b ob q n hb hx⟩
theorem Un.trans (a:Un fs ex H H1 h h1) (b:Un fs ex H1 H2 h1 h2):Un fs ex H H2 h h2 where
  keep:=fun c ob q n hc hx=>b.keep c ob (a.keep c ob q n hc hx) (a.free c ob q n hx) hc hx
  slot:=fun c ob q n hc hx=>by
    obtain ⟨sl,e1⟩:=a.slot c ob q n hc hx
    obtain ⟨sl',e2⟩:=b.slot c _ e1 (a.free c ob q n hx) hc hx
    exact ⟨sl',e2⟩
  free:=fun c ob q n hx=>by
    obtain ⟨o',e1⟩:=a.there c ob q hx
    exact b.free c o' e1 (a.free c ob q n hx) hx
  there:=fun c ob q hx=>by
    obtain ⟨o',e1⟩:=a.there c ob q hx
    exact b.there c o' e1 hx
  tups:=fun c xs q=>b.tups c xs (a.tups c xs q)
  frzs:=fun c ob xs q=>b.frzs c ob xs (a.frzs c ob xs q)
  tbls:=fun c ps q=>by
    obtain ⟨m1,e1⟩:=a.tbls c ps q
    obtain ⟨m2,e2⟩:=b.tbls c _ e1
    exact ⟨m1++m2,by rw [e2,Array.append_assoc]⟩
theorem Un.kept (k:∀ b u,h.get? b=some u→h'.get? b=some u):Un fs ex H H h h':=
  ⟨fun b ob q _ _ _=>k b ob q,fun b ob q _ _ _=>⟨ob.slots,k b ob q⟩,fun _ _ _ n _=>n,fun b ob q _=>⟨ob,k b ob q⟩,fun _ _ q=>q,fun _ _ _ q=>q,fun _ ps q=>⟨#[],by rw [q];simp⟩⟩
theorem Un.refl:Un fs ex H H h h:=Un.kept fun _ _ q=>q
theorem Un.laid (k:∀ b u,h.get? b=some u→h'.get? b=some u) (hp:h.objs.size≤a) (hn:H a=none):Un fs ex H (upd H a o) h h' where
  keep:=fun b u q _ _ _=>k b u q
  slot:=fun b u q _ _ _=>⟨u.slots,k b u q⟩
  free:=fun b u q n _=>by rw [z0d (Nat.ne_of_lt (Nat.lt_of_lt_of_le (Heap.lt_size q) hp))];exact n
  there:=fun b u q _=>⟨u,k b u q⟩
  tups:=fun b xs q=>by rw [z0d (z0h q hn)];exact q
  frzs:=fun b u xs q=>by rw [z0d (z0h q hn)];exact q
  tbls:=fun b ps q=>⟨#[],by rw [z0d (z0h q hn),q];simp⟩
theorem Un.write (mu:Mut (H x)) (he:e=x∨H e=some (.own x)) (k:∀ b u,b≠e→h.get? b=some u→h'.get? b=some u) (heo:∃ u,h'.get? e=some u):Un fs ex H (upd H x o) h h':=by
  have hx:∀ b,H b=none→b≠x:=fun b n z=>by subst z;rw [n] at mu;exact mu
  have hb:∀ b,H b=none→b≠e:=fun b n z=>by
    subst z
    rcases he with r | r
    · exact hx b n r
    · rw [n] at r;cases r
  have hm:∀ b u,H b=some u→¬ Mut (some u)→b≠x:=fun b u q nm z=>by subst z;rw [q] at mu;exact nm mu
  refine ⟨fun b u q n _ _=>k b u (hb b n) q,fun b u q n _ _=>⟨u.slots,k b u (hb b n) q⟩,fun b u q n _=>by rw [z0d (hx b n)];exact n,fun b u q _=>?_,
    fun b xs q=>by rw [z0d (hm b _ q fun z=>z)];exact q,fun b u xs q=>by rw [z0d (hm b _ q fun z=>z)];exact q,fun b ps q=>⟨#[],by rw [z0d (hm b _ q fun z=>z),q];simp⟩⟩
  by_cases hbe:b=e
  · subst hbe;exact heo
  · exact ⟨u,k b u hbe q⟩
theorem Un.mono (u:Un fs ex H H1 h h1) (hs:∀ b∈fs,b∈fs') (hx:∀ b∈ex,b∈ex'):Un fs' ex' H H1 h h1:=
  ⟨fun b ob q n hb he=>u.keep b ob q n (fun z=>hb (hs b z)) fun z=>he (hx b z),fun _ _ q n _ he=>u.any q n fun z=>he (hx _ z),fun b ob q n he=>u.free b ob q n fun z=>he (hx b z),fun b ob q he=>u.there b ob q fun z=>he (hx b z),u.tups,u.frzs,u.tbls⟩
end
def trk (h:Heap) (H:Hp):List Addr:=(List.range h.objs.size).filter fun a=>(H a).isSome
def hidT (h:Heap) (H:Hp):Heap:=PySem.W.hideAll h (trk h H)
theorem zbh (h:Heap) (H:Hp):(hidT h H).objs.size=h.objs.size:=PySem.W.hideAll_size _ _
theorem zet {h:Heap} {H:Hp} {b:Addr} {o:Obj} (e:h.get? b=some o) (n:H b=none):(hidT h H).get? b=some o:=
  PySem.W.hideAll_get _ e fun hm=>by
    have q:(H b).isSome=true:=(List.mem_filter.mp hm).2
    rw [n] at q;simp at q
theorem zio {h:Heap} {H:Hp} {b:Addr} {o:Obj} (e:(hidT h H).get? b=some o):h.get? b=some o∧H b=none:=by
  have e':h.get? b=some o:=PySem.W.of_hideAll (trk h H) e
  refine ⟨e', ?_⟩
  cases q:H b with
  | none=>rfl
  | some x=>
    have hm:b∈trk h H:=List.mem_filter.mpr ⟨List.mem_range.mpr (Heap.lt_size e'),by simp [q]⟩
    have z:(hidT h H).get? b=none:=PySem.W.hideAll_none (trk h H) hm
    rw [z] at e;cases e
structure Mod (K:PySem.W.Frag) (mg:Str→Option Value) (base:Heap):Prop where
  kin:K.In base
  glob:base.Ns mainGlobals mg
  blt:∃ mb,base.Ns builtinsNs mb∧∀ x:Str,x ≠ "__name__"→mb x=bootBuiltins x
  nolimit:base.NoLimit
structure Cx where
  prog:Program
  w:World
  K:PySem.W.Frag
  mg:Str→Option Value
  base:Heap
  A:Around
  N:List Str
  s₀:Shared
  H₀:Hp
  env:Env
  outer:List Env
  stack:List Env
  ex:List Addr
  fn:Str→Bool
  calm:Bool
  pn:List (Addr×Obj)
  xe:Value→Shared→Prop
def frs (l:List Env):List Addr:=l.filterMap (·.frame)
abbrev Cx.fs (X:Cx):List Addr:=frs X.outer
def Vis (sc:Scope) (x:Str):Prop:=sc.names.lookup x=some .local∨sc.names.lookup x=some .cell∨sc.names.lookup x=some .free
def Loc (sc:Scope) (x:Str):Prop:=sc.names.lookup x=some .local∨sc.names.lookup x=some .cell
def Look (env:Env) (h:Heap) (m:Str→Option Value) (x:Str) (u:Value):Prop:=
  (env.kindOf x=some .local∧m x=some u)∨((env.kindOf x=some .cell∨env.kindOf x=some .free)∧∃ c,env.cells.lookup x=some c∧h.IsCell c (some u))
structure Cx.Ok (X:Cx):Prop where
  mod:Mod X.K X.mg X.base
  kind:X.env.scope.kind=.function
  glob:X.env.globals=mainGlobals
  blt:X.env.builtins=builtinsNs
  above:X.s₀.heap.objs.size≤X.env.locals
  inj:∀ x y c,X.env.cells.lookup x=some c→X.env.cells.lookup y=some c→x=y
  has:∀ x,(X.env.kindOf x=some .cell∨X.env.kindOf x=some .free)→∃ c,X.env.cells.lookup x=some c
  cab:∀ x c,X.fn x=true→X.env.cells.lookup x=some c→X.s₀.heap.objs.size≤c
  hd:X.calm=true→X.A.handled=none
  frames:X.A.frames=some X.stack
  stk:X.stack=X.outer∨(X.stack=X.env::X.outer∧X.env.frame=some X.env.locals)
  exf:∀ b∈X.ex,b≠X.env.locals∧∀ x c,X.env.cells.lookup x=some c→c≠b
  bs:∀ b o,X.base.get? b=some o→X.s₀.heap.get? b=some o∧X.H₀ b=none
  bsz:X.base.objs.size≤X.s₀.heap.objs.size
  noex:∀ b o,X.base.get? b=some o→b∉X.ex
  exfs:∀ b∈X.ex,b∉X.fs
  funs:X.s₀.heap.FunFrames X.base X.outer
  frf:∀ b∈X.fs,X.H₀ b=none
structure Inv (X:Cx) (pins:List (Addr×Obj)) (σ:List (Option V)) (H:Hp) (s:Shared):Prop where
  ok:X.Ok
  os:s.os=X.s₀.os
  bare:AllBare s.gens
  base:Un X.fs X.ex X.H₀ H X.s₀.heap s.heap
  loc:∃ m,s.heap.Ns X.env.locals m∧∀ (i:Nat) (x:Str) (v:V),X.N[i]?=some x→σ[i]?=some (some v)→Vis X.env.scope x→∃ u,RelV v u∧Look X.env s.heap m x u
  cell:∀ x c,X.env.cells.lookup x=some c→∃ v,s.heap.IsCell c v
  free:H X.env.locals=none
  freeC:∀ x c,X.env.cells.lookup x=some c→H c=none
  pin:∀ p∈X.pn++pins,s.heap.get? p.1=some p.2∧H p.1=none∧p.1≠X.env.locals∧p.1∉X.fs∧∀ v,p.2.data≠.cell v
  hok:HOk X.prog X.w H s.heap
  len:σ.length=X.N.length
section
variable {X:Cx} {pins:List (Addr×Obj)} {σ:List (Option V)} {H H':Hp} {s:Shared} {h':Heap}
theorem Cx.Ok.nofr (ok:X.Ok) {b:Addr} {o:Obj} (e:X.base.get? b=some o):b∉X.fs:=fun hb=>by
  have:=(ok.funs.mem hb).1
  rw [e] at this;cases this
theorem Inv.bs (I:Inv X pins σ H s):∀ b o,X.base.get? b=some o→s.heap.get? b=some o∧H b=none:=fun b o e=>
  ⟨I.base.keep b o (I.ok.bs b o e).1 (I.ok.bs b o e).2 (I.ok.nofr e) (I.ok.noex b o e),I.base.free b o (I.ok.bs b o e).1 (I.ok.bs b o e).2 (I.ok.noex b o e)⟩
theorem Inv.bk (I:Inv X pins σ H s):∀ b o,X.base.get? b=some o→s.heap.get? b=some o:=fun b o e=>(I.bs b o e).1
theorem Inv.mod (I:Inv X pins σ H s):Mod X.K X.mg X.base:=I.ok.mod
theorem Inv.kIn (I:Inv X pins σ H s):X.K.In s.heap:=I.ok.mod.kin.keeps I.bk
theorem Inv.lt (I:Inv X pins σ H s):X.env.locals<s.heap.objs.size:=let ⟨_,hn,_⟩:=I.loc;hn.lt
theorem Inv.sz (I:Inv X pins σ H s):X.s₀.heap.objs.size≤s.heap.objs.size:=Nat.le_trans I.ok.above (Nat.le_of_lt I.lt)
theorem Inv.nofs (I:Inv X pins σ H s) {a:Addr} (h:s.heap.objs.size≤a):a∉X.fs:=fun hb=>by
  obtain ⟨_,o,ho,_⟩:=I.ok.funs.mem hb
  exact absurd (Nat.lt_of_lt_of_le (Heap.lt_size ho) (Nat.le_trans I.sz h)) (Nat.lt_irrefl _)
theorem Inv.cne (I:Inv X pins σ H s):∀ x c,X.env.cells.lookup x=some c→c≠X.env.locals:=fun x c e z=>by
  obtain ⟨v,o,ho,hd⟩:=I.cell x c e
  obtain ⟨m,⟨o',es,ep,ho',hd',_⟩,_⟩:=I.loc
  rw [z,ho'] at ho;cases ho;rw [hd'] at hd;cases hd
theorem Inv.funs (I:Inv X pins σ H s):s.heap.FunFrames X.base X.outer:=by
  have all:∀ (l:List Env),(∀ b∈frs l,b∈X.fs)→X.s₀.heap.FunFrames X.base l→s.heap.FunFrames X.base l:=by
    intro l
    induction l with
    | nil=>intro _ _;trivial
    | cons env r ih=>
      intro hs hl
      obtain ⟨hk,⟨L,o,hf,hn,ho,hd⟩,hr⟩:=hl
      have hL:L∈X.fs:=hs L (by unfold frs;rw [List.filterMap_cons,hf];exact List.mem_cons_self)
      obtain ⟨sl,e⟩:=I.base.slot L o ho (I.ok.frf L hL) hL fun z=>I.ok.exfs L z hL
      exact ⟨hk,⟨L,_,hf,hn,e,hd⟩,ih (fun b hb=>hs b (by unfold frs;rw [List.filterMap_cons,hf];exact List.mem_cons_of_mem _ hb)) hr⟩
  exact all X.outer (fun _ hb=>hb) I.ok.funs
theorem Inv.stack (I:Inv X pins σ H s):s.heap.FunFrames X.base X.stack:=by
  rcases I.ok.stk with e | ⟨e,hf⟩
  · rw [e];exact I.funs
  · rw [e]
    obtain ⟨m,hn,_⟩:=I.loc
    refine .cons (by rw [I.ok.kind];decide) hf hn ?_ I.funs
    exact Heap.get?_none_of_le (Nat.le_trans I.ok.bsz I.ok.above)
theorem Inv.stkSub (I:Inv X pins σ H s):∀ b∈frs X.stack,b∈X.env.locals::X.fs:=fun b hb=>by
  rcases I.ok.stk with e | ⟨e,hf⟩
  · rw [e] at hb;exact List.mem_cons_of_mem _ hb
  · rw [e] at hb
    unfold frs at hb
    rw [List.filterMap_cons,hf] at hb
    exact hb
theorem Inv.stkFree (I:Inv X pins σ H s):∀ b∈frs X.stack,H b=none:=fun b hb=>by
  rcases List.mem_cons.mp (I.stkSub b hb) with e | hb
  · rw [e];exact I.free
  · obtain ⟨_,o,ho,_⟩:=I.ok.funs.mem hb
    exact I.base.free b o ho (I.ok.frf b hb) fun z=>I.ok.exfs b z hb
theorem Inv.step {g':Array GenState} {t':Nat} {d':Drawn} {ch:List Addr} (I:Inv X pins σ H s)
    (hch:∀ b∈ch,(b∈X.ex∨X.s₀.heap.objs.size≤b)∧b≠X.env.locals∧(∀ x c,X.env.cells.lookup x=some c→c≠b)∧∀ p∈X.pn++pins,p.1≠b)
    (keep:∀ b o,b≠X.env.locals→b∉X.fs→b∉ch→s.heap.get? b=some o→H b=none→h'.get? b=some o)
    (slot:∀ b o,b≠X.env.locals→b∈X.fs→b∉ch→s.heap.get? b=some o→H b=none→∃ sl,h'.get? b=some { o with slots:=sl }) (free:∀ b o,b∉ch→s.heap.get? b=some o→H b=none→H' b=none)
    (there:∀ b o,b∉ch→s.heap.get? b=some o→∃ o',h'.get? b=some o')
    (tups:∀ b xs,H b=some (.tup xs)→H' b=some (.tup xs)) (frzs:∀ b o u,H b=some (.frz o u)→H' b=some (.frz o u)) (tbls:∀ b ps,H b=some (.tbl ps)→∃ more,H' b=some (.tbl (ps++more)))
    (ns:∀ m,s.heap.Ns X.env.locals m→h'.Ns X.env.locals m) (hok:HOk X.prog X.w H' h') (hg:AllBare g'):
    Inv X pins σ H' { s with heap:=h',gens:=g',drawn:=d',toks:=t' }:=by
  have neL:∀ b o,X.s₀.heap.get? b=some o→b≠X.env.locals:=fun b o e=>Nat.ne_of_lt (Nat.lt_of_lt_of_le (Heap.lt_size e) I.ok.above)
  have neC:∀ b o,X.s₀.heap.get? b=some o→b∉X.ex→b∉ch:=fun b o e hx hb=>by
    rcases (hch b hb).1 with z | z
    · exact hx z
    · exact absurd (Nat.lt_of_lt_of_le (Heap.lt_size e) z) (Nat.lt_irrefl _)
  have cellK:∀ x c,X.env.cells.lookup x=some c→∀ v,s.heap.IsCell c v→h'.IsCell c v:=fun x c e v ⟨o,ho,hd⟩=>by
    have nch:c∉ch:=fun z=>(hch c z).2.2.1 x c e rfl
    by_cases hc:c∈X.fs
    · obtain ⟨sl,q⟩:=slot c o (I.cne x c e) hc nch ho (I.freeC x c e)
      exact ⟨_,q,hd⟩
    · exact ⟨o,keep c o (I.cne x c e) hc nch ho (I.freeC x c e),hd⟩
  refine ⟨I.ok,I.os,hg,⟨fun b o e n hb hx=>?_,fun b o e n hb hx=>?_,fun b o e n hx=>?_,fun b o e hx=>?_,fun b xs e=>tups b xs (I.base.tups b xs e),fun b o xs e=>frzs b o xs (I.base.frzs b o xs e),fun b ps e=>?_⟩, ?_,fun x c e=>?_, ?_,fun x c e=>?_,fun p hp=>?_,hok,I.len⟩
  · exact keep b o (neL b o e) hb (neC b o e hx) (I.base.keep b o e n hb hx) (I.base.free b o e n hx)
  · obtain ⟨sl,e1⟩:=I.base.slot b o e n hb hx
    obtain ⟨sl',e2⟩:=slot b _ (neL b o e) hb (neC b o e hx) e1 (I.base.free b o e n hx)
    exact ⟨sl',e2⟩
  · obtain ⟨o',e1⟩:=I.base.there b o e hx
    exact free b o' (neC b o e hx) e1 (I.base.free b o e n hx)
  · obtain ⟨o',e1⟩:=I.base.there b o e hx
    exact there b o' (neC b o e hx) e1
  · obtain ⟨m1,e1⟩:=I.base.tbls b ps e
    obtain ⟨m2,e2⟩:=tbls b _ e1
    exact ⟨m1++m2,by rw [e2,Array.append_assoc]⟩
  · obtain ⟨m,hn,hl⟩:=I.loc
    refine ⟨m,ns m hn,fun i x v e1 e2 e3=>?_⟩
    obtain ⟨u,r,l⟩:=hl i x v e1 e2 e3
    refine ⟨u,r, ?_⟩
    rcases l with l | ⟨k,c,e,z⟩
    · exact .inl l
    · exact .inr ⟨k,c,e,cellK x c e _ z⟩
  · obtain ⟨v,z⟩:=I.cell x c e
    exact ⟨v,cellK x c e v z⟩
  · obtain ⟨m,⟨o,_,_,ho,_⟩,_⟩:=I.loc
    exact free _ o (fun z=>(hch _ z).2.1 rfl) ho I.free
  · obtain ⟨v,o,ho,hd⟩:=I.cell x c e
    exact free c o (fun z=>(hch c z).2.2.1 x c e rfl) ho (I.freeC x c e)
  · obtain ⟨e,n,ne,nf,d⟩:=I.pin p hp
    have nch:p.1∉ch:=fun z=>(hch p.1 z).2.2.2 p hp rfl
    exact ⟨keep p.1 p.2 ne nf nch e n,free p.1 p.2 nch e n,ne,nf,d⟩
theorem Inv.un {t':Nat} (I:Inv X pins σ H s) (u:Un X.fs [] H H' s.heap h') (hok:HOk X.prog X.w H' h'):Inv X pins σ H' { s with heap:=h',toks:=t' }:=by
  obtain ⟨m,⟨o,es,ep,ho,r⟩,_⟩:=id I.loc
  obtain ⟨sl,hL⟩:=u.any ho I.free (by simp)
  exact I.step (g':=s.gens) (d':=s.drawn) (ch:=[]) (fun _ z=>nomatch z) (fun b o _ hb _ e n=>u.keep b o e n hb (by simp)) (fun b o _ hb _ e n=>u.slot b o e n hb (by simp)) (fun b o _ e n=>u.free b o e n (by simp)) (fun b o _ e=>u.there b o e (by simp)) u.tups u.frzs u.tbls (fun m' hm=>by
    obtain ⟨o',es',ep',ho',r'⟩:=hm
    rw [ho] at ho';cases ho'
    exact ⟨_,es',ep',hL,r'⟩) hok I.bare
theorem Inv.call {g':Array GenState} {t':Nat} {d':Drawn} {ch:List Addr} (I:Inv X pins σ H s) (u:Un (frs X.stack) ch H H' s.heap h') (hok:HOk X.prog X.w H' h') (hg:AllBare g')
    (hch:∀ b∈ch,(b∈X.ex∨X.s₀.heap.objs.size≤b)∧b≠X.env.locals∧(∀ x c,X.env.cells.lookup x=some c→c≠b)∧∀ p∈X.pn++pins,p.1≠b):
    Inv X pins σ H' { s with heap:=h',gens:=g',drawn:=d',toks:=t' }:=by
  obtain ⟨m,⟨o,es,ep,ho,r⟩,_⟩:=id I.loc
  obtain ⟨sl,hL⟩:=u.any ho I.free fun z=>(hch _ z).2.1 rfl
  exact I.step (ch:=ch) hch (fun b o hL hb hc e n=>u.keep b o e n (fun z=>(List.mem_cons.mp (I.stkSub b z)).elim hL hb) hc) (fun b o _ _ hc e n=>u.any e n hc) (fun b o hc e n=>u.free b o e n hc) (fun b o hc e=>u.there b o e hc) u.tups u.frzs u.tbls (fun m' hm=>by
    obtain ⟨o',es',ep',ho',r'⟩:=hm
    rw [ho] at ho';cases ho'
    exact ⟨_,es',ep',hL,r'⟩) hok hg
theorem Inv.turned {t':Nat} {it:Addr} (I:Inv X pins σ H s) (k:∀ b o,b≠it→s.heap.get? b=some o→h'.get? b=some o) (hn:H it=none) (hL:it≠X.env.locals)
    (h1:it∈X.ex∨X.s₀.heap.objs.size≤it) (h2:∀ x c,X.env.cells.lookup x=some c→c≠it) (h3:∀ p∈X.pn++pins,p.1≠it):Inv X pins σ H { s with heap:=h',toks:=t' }:=by
  have nit:∀ b u,H b=some u→b≠it:=fun b u e z=>by rw [z,hn] at e;cases e
  refine I.step (g':=s.gens) (d':=s.drawn) (ch:=[it]) (fun b hb=>?_) (fun b o _ _ hc e _=>k b o (fun z=>hc (by simp [z])) e) (fun b o _ _ hc e _=>⟨o.slots,k b o (fun z=>hc (by simp [z])) e⟩) (fun _ _ _ _ n=>n)
    (fun b o hc e=>⟨o,k b o (fun z=>hc (by simp [z])) e⟩) (fun _ _ e=>e) (fun _ _ _ e=>e) (fun b ps e=>⟨#[],by rw [e];simp⟩) (fun m hm=>?_) (fun b u e=>?_) I.bare
  · have e:b=it:=by simpa using hb
    subst e
    exact ⟨h1,hL,h2,h3⟩
  · obtain ⟨o,es,ep,ho,r⟩:=hm
    exact ⟨o,es,ep,k _ o (Ne.symm hL) ho,r⟩
  · refine (I.hok b u e).stay (fun c v hc q=>k c v ?_ q) (fun _ q=>q) fun _ _ q=>q
    rcases hc with z | z
    · rw [z];exact nit b u e
    · exact nit c _ z
theorem Inv.tok (I:Inv X pins σ H s) (t:Nat):Inv X pins σ H { s with toks:=t }:=I.un (h':=s.heap) (t':=t) Un.refl I.hok
theorem Inv.kept {t':Nat} (I:Inv X pins σ H s) (k:∀ b u,s.heap.get? b=some u→h'.get? b=some u):Inv X pins σ H { s with heap:=h',toks:=t' }:=I.un (Un.kept k) (I.hok.kept k)
theorem Inv.laid {a:Addr} {o:HO} {t':Nat} (I:Inv X pins σ H s) (k:∀ b u,s.heap.get? b=some u→h'.get? b=some u) (hp:s.heap.objs.size≤a) (new:ObjOk X.prog X.w (upd H a o) h' a o):
    Inv X pins σ (upd H a o) { s with heap:=h',toks:=t' }:=I.un (Un.laid k hp (I.hok.fresh hp)) (I.hok.laid k hp new)
theorem Inv.write {x e:Addr} {o:HO} {t':Nat} (I:Inv X pins σ H s) (mu:Mut (H x)) (he:e=x∨H e=some (.own x)) (k:∀ b u,b≠e→s.heap.get? b=some u→h'.get? b=some u) (heo:∃ u,h'.get? e=some u)
    (new:ObjOk X.prog X.w (upd H x o) h' x o):Inv X pins σ (upd H x o) { s with heap:=h',toks:=t' }:=I.un (Un.write mu he k heo) (I.hok.write mu he k heo new)
theorem Inv.pins_of {pins':List (Addr×Obj)} (I:Inv X pins σ H s) (h:∀ p∈pins',s.heap.get? p.1=some p.2∧H p.1=none∧p.1≠X.env.locals∧p.1∉X.fs∧∀ v,p.2.data≠.cell v):Inv X pins' σ H s:=
  ⟨I.ok,I.os,I.bare,I.base,I.loc,I.cell,I.free,I.freeC,fun p hp=>(List.mem_append.mp hp).elim (fun z=>I.pin p (List.mem_append_left _ z)) (h p),I.hok,I.len⟩
theorem z65 {N:List Str} (hN:N.Nodup) {i j:Nat} {x:Str} (a:N[i]?=some x) (b:N[j]?=some x):i=j:=by
  obtain ⟨h1,e1⟩:=List.getElem?_eq_some_iff.mp a
  obtain ⟨h2,e2⟩:=List.getElem?_eq_some_iff.mp b
  exact (List.getElem_inj hN).mp (e1.trans e2.symm)
theorem z73 {M:Model} {A:Around} {E:Value→Shared→Prop} {i:Nat} {x:Str} {v:V} {u:Value} {Q:Unit→Shared→Prop} (I:Inv X pins σ H s) (hN:X.N.Nodup) (hi:X.N[i]?=some x) (hx:Loc X.env.scope x) (r:RelV v u)
    (h:∀ s',Inv X pins (σ.set i (some v)) H s'→(∃ a,Heap.SameBut a s.heap s'.heap∧(a=X.env.locals∨X.env.cells.lookup x=some a))→Q () s') (hf:X.fn x=true∨X.env.scope.names.lookup x=some .local:=by first | exact .inl rfl | exact .inr rfl | assumption):wpAny M A (storeName X.env x u) Q E s:=by
  obtain ⟨m,hn,hl⟩:=id I.loc
  have hcls:(X.env.scope.kind==.class||(X.env.scope.kind==.module&&X.env.locals != X.env.globals))=false:=by rw [I.ok.kind];rfl
  have hiσ:i<σ.length:=by rw [I.len];exact (List.getElem?_eq_some_iff.mp hi).1
  have cne:=I.cne
  have tracked:∀ {a:Addr} {h':Heap},(∃ o,s.heap.get? a=some o∧H a=none)→Heap.SameBut a s.heap h'→HOk X.prog X.w H h':=fun {a h'} ha hs b ob e=>by
    obtain ⟨_,_,hfree⟩:=ha
    refine (I.hok b ob e).stay (fun c w' hc q=>(hs.2 c ?_).trans q) (fun _ q=>q) fun _ _ q=>q
    rintro rfl
    rcases hc with rfl | hc
    · rw [hfree] at e;cases e
    · rw [hfree] at hc;cases hc
  rcases hx with hk | hk
  · refine wpAny_storeName_local hk hn (fun h' hn' hs=>?_) hcls
    obtain ⟨oL,_,_,hoL,_⟩:=id hn
    refine h _ ⟨I.ok,I.os,I.bare,⟨fun b o e n hb hx=>?_,fun b o e n hb hx=>?_,I.base.free,fun b o e hx=>?_,I.base.tups,I.base.frzs,I.base.tbls⟩,⟨_,hn',fun j y v' e1 e2 e3=>?_⟩,fun y c e=>?_,I.free,I.freeC,fun p hp=>?_,tracked ⟨oL,hoL,I.free⟩ hs,by simpa using I.len⟩ ⟨_,hs,.inl rfl⟩
    · exact (hs.2 b (Nat.ne_of_lt (Nat.lt_of_lt_of_le (Heap.lt_size e) I.ok.above))).trans (I.base.keep b o e n hb hx)
    · obtain ⟨sl,e1⟩:=I.base.slot b o e n hb hx
      exact ⟨sl,(hs.2 b (Nat.ne_of_lt (Nat.lt_of_lt_of_le (Heap.lt_size e) I.ok.above))).trans e1⟩
    · obtain ⟨o',e1⟩:=I.base.there b o e hx
      exact ⟨o',(hs.2 b (Nat.ne_of_lt (Nat.lt_of_lt_of_le (Heap.lt_size e) I.ok.above))).trans e1⟩
    · by_cases hj:j=i
      · subst hj
        rw [hi] at e1;cases e1
        rw [List.getElem?_set_self hiσ] at e2
        cases e2
        exact ⟨u,r,.inl ⟨hk,by simp⟩⟩
      · rw [List.getElem?_set_ne (Ne.symm hj)] at e2
        obtain ⟨u',r',q⟩:=hl j y v' e1 e2 e3
        refine ⟨u',r', ?_⟩
        rcases q with ⟨k,e⟩ | ⟨k,c,e,z⟩
        · refine .inl ⟨k, ?_⟩
          have:y≠x:=fun e=>hj (z65 hN e1 (e▸hi))
          simp [this,e]
        · exact .inr ⟨k,c,e,z.sameBut hs (cne y c e)⟩
    · obtain ⟨w',z⟩:=I.cell y c e
      exact ⟨w',z.sameBut hs (cne y c e)⟩
    · obtain ⟨e,n,ne,nf,d⟩:=I.pin p hp
      exact ⟨(hs.2 p.1 ne).trans e,n,ne,nf,d⟩
  · have hfn:X.fn x=true:=by
      rcases hf with z | z
      · exact z
      · rw [z] at hk;cases hk
    obtain ⟨c,hc⟩:=I.ok.has x (.inl hk)
    obtain ⟨w',z⟩:=I.cell x c hc
    refine wpAny_storeName_cell I.ok.kind hk hc z (fun h' hc' hs=>?_)
    obtain ⟨oc,hoc,hocd⟩:=id z
    refine h { s with heap:=h' } ⟨I.ok,I.os,I.bare,⟨fun b o e n hb hx=>?_,fun b o e n hb hx=>?_,I.base.free,fun b o e hx=>?_,I.base.tups,I.base.frzs,I.base.tbls⟩,⟨m,hn.sameBut hs (Ne.symm (cne x c hc)),fun j y v' e1 e2 e3=>?_⟩,fun y c' e=>?_,I.free,I.freeC,fun p hp=>?_,tracked ⟨oc,hoc,I.freeC x c hc⟩ hs,by simpa using I.len⟩ ⟨c,hs,.inr hc⟩
    · exact (hs.2 b (Nat.ne_of_lt (Nat.lt_of_lt_of_le (Heap.lt_size e) (I.ok.cab x c hfn hc)))).trans (I.base.keep b o e n hb hx)
    · obtain ⟨sl,e1⟩:=I.base.slot b o e n hb hx
      exact ⟨sl,(hs.2 b (Nat.ne_of_lt (Nat.lt_of_lt_of_le (Heap.lt_size e) (I.ok.cab x c hfn hc)))).trans e1⟩
    · obtain ⟨o',e1⟩:=I.base.there b o e hx
      exact ⟨o',(hs.2 b (Nat.ne_of_lt (Nat.lt_of_lt_of_le (Heap.lt_size e) (I.ok.cab x c hfn hc)))).trans e1⟩
    · by_cases hj:j=i
      · subst hj
        rw [hi] at e1;cases e1
        rw [List.getElem?_set_self hiσ] at e2
        cases e2
        exact ⟨u,r,.inr ⟨.inl hk,c,hc,hc'⟩⟩
      · rw [List.getElem?_set_ne (Ne.symm hj)] at e2
        obtain ⟨u',r',q⟩:=hl j y v' e1 e2 e3
        refine ⟨u',r', ?_⟩
        rcases q with q | ⟨k,c',e,z'⟩
        · exact .inl q
        · refine .inr ⟨k,c',e,z'.sameBut hs ?_⟩
          rintro rfl
          exact hj (z65 hN e1 (I.ok.inj _ _ _ e hc▸hi))
    · by_cases hcc:c'=c
      · subst hcc;exact ⟨_,hc'⟩
      · obtain ⟨w2,z2⟩:=I.cell y c' e
        exact ⟨w2,z2.sameBut hs hcc⟩
    · obtain ⟨e,n,ne,nf,d⟩:=I.pin p hp
      refine ⟨(hs.2 p.1 ?_).trans e,n,ne,nf,d⟩
      intro q
      rw [q,hoc] at e
      have q':oc=p.2:=Option.some.inj e
      exact d w' (by rw [← q'];exact hocd)
theorem z66 {M:Model} {A:Around} {E:Value→Shared→Prop} {i:Nat} {x:Str} {v:V} {u:Value} {Q:Unit→Shared→Prop} (I:Inv X pins σ H s) (hN:X.N.Nodup) (hi:X.N[i]?=some x) (hx:Loc X.env.scope x) (r:RelV v u)
    (h:∀ s',Inv X pins (σ.set i (some v)) H s'→Q () s') (hf:X.fn x=true∨X.env.scope.names.lookup x=some .local:=by first | exact .inl rfl | exact .inr rfl | assumption):wpAny M A (storeName X.env x u) Q E s:=
  z73 I hN hi hx r (fun s' I' _=>h s' I') hf
theorem Inv.call' {s':Shared} {ch:List Addr} (I:Inv X pins σ H s) (ho:s'.os=s.os) (u:Un (frs X.stack) ch H H' s.heap s'.heap) (hok:HOk X.prog X.w H' s'.heap) (hg:AllBare s'.gens)
    (hch:∀ b∈ch,(b∈X.ex∨X.s₀.heap.objs.size≤b)∧b≠X.env.locals∧(∀ x c,X.env.cells.lookup x=some c→c≠b)∧∀ p∈X.pn++pins,p.1≠b):Inv X pins σ H' s':=by
  obtain ⟨h',g',d',t',o'⟩:=s'
  have e:o'=s.os:=ho
  subst e
  exact I.call (g':=g') (t':=t') (d':=d') u hok hg hch
end
abbrev XK:=Value→Option Addr→Hp→Prop
abbrev St:=List (Option V)
abbrev VK:=V→Hp→Prop
abbrev TE:=St→Hp→VK→Prop
abbrev TT:=St→Hp→(Bool→Hp→Prop)→Prop
abbrev TA:=St→Hp→(List V→Hp→Prop)→Prop
structure Ends where
  nx:St→Hp→Prop
  rt:VK
  bk:St→Hp→Prop:=fun _ _=>False
  ct:St→Hp→Prop:=fun _ _=>False
abbrev TS:=Ends→St→Hp→Prop
def EP (X:Cx) (pins:List (Addr×Obj)) (σ:St) (Q:VK) (u:Value) (s':Shared):Prop:=∃ v H',Inv X pins σ H' s'∧RelV v u∧Q v H'
def TP (X:Cx) (pins:List (Addr×Obj)) (σ:St) (Q:Bool→Hp→Prop) (b:Bool) (s':Shared):Prop:=∃ H',Inv X pins σ H' s'∧Q b H'
def AP (X:Cx) (pins:List (Addr×Obj)) (σ:St) (Q:List V→Hp→Prop) (us:List Value) (s':Shared):Prop:=∃ vs H',Inv X pins σ H' s'∧Vals vs us∧Q vs H'
def SP (X:Cx) (pins:List (Addr×Obj)) (D:Ends) (f:Flow) (s':Shared):Prop:=
  match f with
  | .next=>∃ σ' H',Inv X pins σ' H' s'∧D.nx σ' H'
  | .brk=>∃ σ' H',Inv X pins σ' H' s'∧D.bk σ' H'
  | .cont=>∃ σ' H',Inv X pins σ' H' s'∧D.ct σ' H'
  | .ret u=>∃ v σ' H',Inv X pins σ' H' s'∧RelV v u∧D.rt v H'
def PE (X:Cx) (e:Expr) (t:TE):Prop:=
  ∀ (pins:List (Addr×Obj)) (s:Shared) (σ:St) (H:Hp) (Q:VK),Inv X pins σ H s→t σ H Q→wpAny (model X.prog X.w) X.A (eval e X.env) (EP X pins σ Q) X.xe s
def PT (X:Cx) (e:Expr) (t:TT):Prop:=
  ∀ (pins:List (Addr×Obj)) (s:Shared) (σ:St) (H:Hp) (Q:Bool→Hp→Prop),Inv X pins σ H s→t σ H Q→wpAny (model X.prog X.w) X.A (isTrue e X.env (eval e X.env)) (TP X pins σ Q) X.xe s
def PW (X:Cx) (e:Expr) (t:TT):Prop:=
  ∀ (whole:Sem Value) (pins:List (Addr×Obj)) (s:Shared) (σ:St) (H:Hp) (Q:Bool→Hp→Prop),Inv X pins σ H s→t σ H Q→wpAny (model X.prog X.w) X.A (isTrue e X.env whole) (TP X pins σ Q) X.xe s
theorem PW.pt {X:Cx} {e:Expr} {t:TT} (h:PW X e t):PT X e t:=h _
def PA (X:Cx) (es:List Expr) (t:TA):Prop:=
  ∀ (pos:Pos) (pins:List (Addr×Obj)) (s:Shared) (σ:St) (H:Hp) (Q:List V→Hp→Prop),Inv X pins σ H s→t σ H Q→wpAny (model X.prog X.w) X.A (spliced (backTo pos (starEach es X.env))) (AP X pins σ Q) X.xe s
def PS (X:Cx) (st:Stmt) (t:TS):Prop:=
  ∀ (pins:List (Addr×Obj)) (s:Shared) (σ:St) (H:Hp) (D:Ends),Inv X pins σ H s→t D σ H→wpAny (model X.prog X.w) X.A (exec st X.env) (SP X pins D) X.xe s
def PSs (X:Cx) (st:List Stmt) (t:TS):Prop:=
  ∀ (pins:List (Addr×Obj)) (s:Shared) (σ:St) (H:Hp) (D:Ends),Inv X pins σ H s→t D σ H→wpAny (model X.prog X.w) X.A (execs st X.env) (SP X pins D) X.xe s
theorem thn {α:Type} {t:Sem α} {Q Q':α→Shared→Prop} {M:Model} {A:Around} {E:Value→Shared→Prop} {s:Shared} (h:wpAny M A t Q E s) (hQ:∀ a s,Q a s→Q' a s):wpAny M A t Q' E s:=wpAny_mono h hQ fun _ _ x=>x
section
variable {X:Cx}
theorem bin {a b:Expr} {ta tb:TE} (ha:PE X a ta) (hb:PE X b tb) {pins:List (Addr×Obj)} {s:Shared} {σ:St} {H:Hp} {R:V→V→Hp→Prop} (I:Inv X pins σ H s) (h:ta σ H fun x H1=>tb σ H1 fun y H2=>R x y H2)
    {α:Type} {Q:α→Shared→Prop} {f:Value→Value→Sem α}
    (hf:∀ v u s2 x y H2,Inv X pins σ H2 s2→RelV x v→RelV y u→R x y H2→wpAny (model X.prog X.w) X.A (f v u) Q X.xe s2):
    wpAny (model X.prog X.w) X.A (eval a X.env) (fun v s₁=>wpAny (model X.prog X.w) X.A (eval b X.env) (fun u s₂=>wpAny (model X.prog X.w) X.A (f v u) Q X.xe s₂) X.xe s₁) X.xe s:=by
  refine thn (ha pins s σ H _ I h) fun v s1 ⟨x,H1,I1,r1,q1⟩=>?_
  refine thn (hb pins s1 σ H1 _ I1 q1) fun u s2 ⟨y,H2,I2,r2,q2⟩=>?_
  exact hf v u s2 x y H2 I2 r1 r2 q2
def tVar (i:Nat):TE:=fun σ H Q=>∃ v,σ[i]?=some (some v)∧Q v H
def tC (v:V):TE:=fun _ H Q=>Q v H
theorem zbi {i:Nat} {x:Str} {pos:Pos} (hN:X.N[i]?=some x) (hv:Vis X.env.scope x) (hd:(x==("__debug__" : Str))=false:=by decide) (hcd:(x==("__classdict__" : Str))=false:=by decide):PE X (.Name x pos) (tVar i):=by
  intro pins s σ H Q I h
  obtain ⟨v,e,h⟩:=h
  obtain ⟨m,hn,hl⟩:=I.loc
  obtain ⟨u,r,l⟩:=hl i x v hN e hv
  have fin:EP X pins σ Q u s:=⟨v,H,I,r,h⟩
  rcases l with ⟨hk,hm⟩ | ⟨hk,c,hc,hcell⟩
  · exact wpAny_Name (wpAny_loadName_local I.ok.kind hk hn hm fin) hd
  · rcases hk with hk | hk
    · exact wpAny_Name (wpAny_loadName_cell I.ok.kind hk hc hcell fin) hd
    · exact wpAny_Name (wpAny_loadName_free I.ok.kind hk hc hcell fin hcd) hd
theorem zli {i j pos}:PE X (.Constant (.int i) j pos) (tC (.int i)):=fun _ _ _ H _ I h=>wpAny_Constant_int ⟨.int i,H,I.tok _,⟨_,rfl⟩,h⟩
theorem zog {b j pos}:PE X (.Constant (.bool b) j pos) (tC (.bl b)):=fun _ _ _ H _ I h=>Constant_bool ⟨.bl b,H,I,rfl,h⟩
theorem zhj {j pos}:PE X (.Constant .none j pos) (tC .non):=fun _ _ _ H _ I h=>Constant_none ⟨.non,H,I,rfl,h⟩
theorem zlj {x j pos}:PE X (.Constant (.str x) j pos) (tC (.str x)):=fun _ _ _ H _ I h=>Calls.Constant_str ⟨.str x,H,I.tok _,⟨_,rfl⟩,h⟩
def Gl (X:Cx) (x:Str):Prop:=X.env.kindOf x=some .globalImplicit
theorem z4b {E:Value→Shared→Prop} {pins:List (Addr×Obj)} {s:Shared} {σ:St} {H:Hp} {x:Str} {u:Value} {pos:Pos} {Q:Value→Shared→Prop} (I:Inv X pins σ H s) (hg:Gl X x) (hm:X.mg x=some u) (h:Q u s)
    (hd:(x==("__debug__" : Str))=false:=by decide):wpAny (model X.prog X.w) X.A (eval (.Name x pos) X.env) Q E s:=
  Calls.Name_function_global I.ok.kind hg (Calls.loadGlobal_global (by rw [I.ok.glob];exact I.mod.glob.keeps I.bk) hm h) hd
theorem z5h {E:Value→Shared→Prop} {pins:List (Addr×Obj)} {s:Shared} {σ:St} {H:Hp} {x:Str} {u:Value} {pos:Pos} {Q:Value→Shared→Prop} (I:Inv X pins σ H s) (hg:Gl X x) (hm:X.mg x=none) (hv:bootBuiltins x=some u) (h:Q u s)
    (hn:x ≠ "__name__" := by decide) (hd:(x==("__debug__" : Str))=false:=by decide):wpAny (model X.prog X.w) X.A (eval (.Name x pos) X.env) Q E s:=by
  obtain ⟨mb,h1,h2⟩:=I.mod.blt
  exact Calls.Name_function_global I.ok.kind hg (Calls.loadGlobal_builtin (by rw [I.ok.glob];exact I.mod.glob.keeps I.bk) hm (by rw [I.ok.blt];exact h1.keeps I.bk) ((h2 x hn).trans hv) h) hd
theorem zbj {x:Str} {v:V} {u:Value} {pos:Pos} (hg:Gl X x) (hm:X.mg x=some u) (r:RelV v u) (hd:(x==("__debug__" : Str))=false:=by decide):PE X (.Name x pos) (tC v):=
  fun _ _ _ H _ I h=>z4b I hg hm ⟨v,H,I,r,h⟩ hd
variable {a b:Expr} {ta tb:TE} {pos:Pos}
def tB (t:TE):TT:=fun σ H Q=>t σ H fun x H1=>∃ c,x=.bl c∧Q c H1
variable {tA tB':TT} {rest:List Expr}
def tOr (t u:TT):TT:=fun σ H Q=>t σ H fun c H1=>if c=true then Q true H1 else u σ H1 Q
def tNot (t:TT):TT:=fun σ H Q=>t σ H fun c H1=>Q (!c) H1
theorem zlk (ha:PT X a tA):PW X (.BoolOp .Or [a] pos) tA:=by
  intro wh pins s σ H Q I h
  refine isTrue_or (thn (ha pins s σ H Q I h) fun c s1 e=>?_)
  cases c with
  | false=>exact isTrue_or_nil e
  | true=>exact e
theorem zoh (ha:PT X a tA) (hb:PW X (.BoolOp .Or (b::rest) pos) tB'):PW X (.BoolOp .Or (a::b::rest) pos) (tOr tA tB'):=by
  intro wh pins s σ H Q I h
  refine isTrue_or (thn (ha pins s σ H _ I h) fun c s1 ⟨H1,I1,q1⟩=>?_)
  cases c with
  | true=>exact ⟨H1,I1,q1⟩
  | false=>exact hb wh pins s1 σ H1 Q I1 q1
theorem zll (ha:PT X a tA):PT X (.UnaryOp .Not a pos) (tNot tA):=by
  intro pins s σ H Q I h
  exact isTrue_not (ha pins s σ H (fun c H1=>Q (!c) H1) I h)
def zoi (ta tb:TE):TE:=fun σ H Q=>ta σ H fun x H1=>∃ c,x=.bl c∧if c=true then tb σ H1 Q else Q (.bl false) H1
def zoj (ta:TE):TE:=fun σ H Q=>ta σ H fun x H1=>∃ c,x=.bl c∧Q (.bl (!c)) H1
theorem zlm {op} {t:TE} (h:PE X a t):PE X (.BoolOp op [a] pos) t:=fun pins s σ H Q I hw=>BoolOp_one (h pins s σ H Q I hw)
theorem zln (ha:PE X a ta) (hb:PE X (.BoolOp .And (b::rest) pos) tb):PE X (.BoolOp .And (a::b::rest) pos) (zoi ta tb):=by
  intro pins s σ H Q I h
  refine BoolOp_and (thn (ha pins s σ H _ I h) fun v s1 ⟨x,H1,I1,r1,q1⟩=>?_)
  obtain ⟨c,rfl,q1⟩:=q1
  cases r1
  refine wpAny_truthy_bool ?_
  cases c with
  | true=>exact hb pins s1 σ H1 Q I1 q1
  | false=>exact ⟨.bl false,H1,I1,rfl,q1⟩
theorem zlo (ha:PE X a ta):PE X (.UnaryOp .Not a pos) (zoj ta):=by
  intro pins s σ H Q I h
  refine UnaryOp_ (thn (ha pins s σ H _ I h) fun v s1 ⟨x,H1,I1,r1,q1⟩=>?_)
  obtain ⟨c,rfl,q1⟩:=q1
  cases r1
  exact not_of (wpAny_truthy_bool ⟨.bl (!c),H1,I1,rfl,q1⟩)
end
def SqL (K:PySem.W.Frag) (H:Hp) (a:Addr) (xs:List V):Prop:=
  Rd H a (.lst xs) ∨
    ∃ (o:Obj) (its:Array Value) (n:Nat),K.lookup a=some o∧o.cls=.type "list"∧o.dict=none∧o.data=.seq its n∧its.size≤sizeLine∧Vals xs its.toList
def SqT (K:PySem.W.Frag) (H:Hp) (a:Addr) (xs:List V):Prop:=
  Rd H a (.tup xs) ∨
    ∃ (o:Obj) (its:Array Value) (n:Nat),K.lookup a=some o∧o.cls=.type "tuple"∧o.data=.seq its n∧its.size≤sizeLine∧Vals xs its.toList
def absV:Value→Option V
  | .none=>some .non
  | .bool b=>some (.bl b)
  | .int i _=>some (.int i)
  | .str x _=>some (.str x)
  | .bytes b _=>some (.byt b)
  | .float b _=>some (.flt b)
  | .ref a=>some (.ref a)
  | .type n=>some (.ty n)
  | _=>none
theorem RelV.abs {x:V} {u:Value} (r:RelV x u):absV u=some x:=by
  cases x with
  | non=>cases r;rfl
  | bl _=>cases r;rfl
  | int _=>obtain ⟨t,rfl⟩:=r;rfl
  | str _=>obtain ⟨t,rfl⟩:=r;rfl
  | byt _=>obtain ⟨t,rfl⟩:=r;rfl
  | flt _=>obtain ⟨t,rfl⟩:=r;rfl
  | ref _=>cases r;rfl
  | ty _=>cases r;rfl
theorem RelV.inj {x y:V} {u:Value} (r:RelV x u) (q:RelV y u):x=y:=Option.some.inj (r.abs.symm.trans q.abs)
theorem Vals.inj:∀ {xs ys:List V} {us:List Value},Vals xs us→Vals ys us→xs=ys
  | _,_,_,.nil,.nil=>rfl
  | _,_,_,.cons r t,.cons r' t'=>by rw [r.inj r',Vals.inj t t']
section
variable {X:Cx} {pins:List (Addr×Obj)} {σ:St} {H:Hp} {s:Shared} {a:Addr} {xs ys:List V}
theorem SqL.of {K:PySem.W.Frag} (h:H a=some (.lst xs)):SqL K H a xs:=.inl (.inl h)
theorem SqT.of {K:PySem.W.Frag} (h:H a=some (.tup xs)):SqT K H a xs:=.inl (.inl h)
theorem Inv.list (I:Inv X pins σ H s) (h:SqL X.K H a xs):∃ its:List Value,Vals xs its∧PlainL s.heap a its.toArray∧xs.length≤sizeLine:=by
  rcases h with h | ⟨o,its,n,hk,hc,hd,hs,hz,r⟩
  · obtain ⟨z,its,n,r,e⟩:=h.ok I.hok
    exact ⟨its,r,⟨_,n,e,rfl,rfl,rfl⟩,z⟩
  · refine ⟨its.toList,r,⟨o,n,I.kIn a o hk,hc,hd,by simpa using hs⟩, ?_⟩
    have e:=r.length
    simp only [Array.length_toList] at e
    omega
theorem Inv.tuple (I:Inv X pins σ H s) (h:SqT X.K H a xs):∃ its:List Value,Vals xs its∧IsTup s.heap a its.toArray∧xs.length≤sizeLine:=by
  rcases h with h | ⟨o,its,n,hk,hc,hs,hz,r⟩
  · obtain ⟨z,its,r,p⟩:=h.ok I.hok
    exact ⟨its,r,p.tup,z⟩
  · refine ⟨its.toList,r,⟨o,I.kIn a o hk,hc,n,by simpa using hs⟩, ?_⟩
    have e:=r.length
    simp only [Array.length_toList] at e
    omega
theorem Inv.list_inj (I:Inv X pins σ H s) (h:SqL X.K H a xs) (h':SqL X.K H a ys):xs=ys:=by
  obtain ⟨its,r,⟨o,n,e,_,_,d⟩,_⟩:=I.list h
  obtain ⟨its',r',⟨o',n',e',_,_,d'⟩,_⟩:=I.list h'
  rw [e] at e';cases e'
  rw [d] at d'
  injection d' with d1 _
  have:its=its':=by simpa using congrArg Array.toList d1
  subst this
  exact r.inj r'
theorem Inv.tuple_inj (I:Inv X pins σ H s) (h:SqT X.K H a xs) (h':SqT X.K H a ys):xs=ys:=by
  obtain ⟨its,r,⟨o,e,_,n,d⟩,_⟩:=I.tuple h
  obtain ⟨its',r',⟨o',e',_,n',d'⟩,_⟩:=I.tuple h'
  rw [e] at e';cases e'
  rw [d] at d'
  injection d' with d1 _
  have:its=its':=by simpa using congrArg Array.toList d1
  subst this
  exact r.inj r'
end
abbrev Cx.wish (X:Cx) (E:Value→Shared→Prop):Cx:={ X with xe:=E }
abbrev Cx.nox (X:Cx):Cx:=X.wish fun _ _=>False
theorem Cx.Ok.wish {X:Cx} (ok:X.Ok) (E:Value→Shared→Prop):(X.wish E).Ok:=
  ⟨ok.mod,ok.kind,ok.glob,ok.blt,ok.above,ok.inj,ok.has,ok.cab,ok.hd,ok.frames,ok.stk,ok.exf,ok.bs,ok.bsz,ok.noex,ok.exfs,ok.funs,ok.frf⟩
theorem Cx.Ok.unwish {X:Cx} {E:Value→Shared→Prop} (ok:(X.wish E).Ok):X.Ok:=
  ⟨ok.mod,ok.kind,ok.glob,ok.blt,ok.above,ok.inj,ok.has,ok.cab,ok.hd,ok.frames,ok.stk,ok.exf,ok.bs,ok.bsz,ok.noex,ok.exfs,ok.funs,ok.frf⟩
section
variable {X:Cx} {pins:List (Addr×Obj)} {σ:St} {H:Hp} {s:Shared} {E:Value→Shared→Prop}
theorem Inv.wish (I:Inv X pins σ H s) (E:Value→Shared→Prop):Inv (X.wish E) pins σ H s:=⟨I.ok.wish E,I.os,I.bare,I.base,I.loc,I.cell,I.free,I.freeC,I.pin,I.hok,I.len⟩
theorem Inv.unwish (I:Inv (X.wish E) pins σ H s):Inv X pins σ H s:=⟨I.ok.unwish,I.os,I.bare,I.base,I.loc,I.cell,I.free,I.freeC,I.pin,I.hok,I.len⟩
theorem SP.unwish {D:Ends} {f:Flow} {s':Shared} (h:SP (X.wish E) pins D f s'):SP X pins D f s':=by
  cases f with
  | next=>obtain ⟨σ',H',I,q⟩:=h;exact ⟨σ',H',I.unwish,q⟩
  | brk=>obtain ⟨σ',H',I,q⟩:=h;exact ⟨σ',H',I.unwish,q⟩
  | cont=>obtain ⟨σ',H',I,q⟩:=h;exact ⟨σ',H',I.unwish,q⟩
  | ret u=>obtain ⟨v,σ',H',I,r,q⟩:=h;exact ⟨v,σ',H',I.unwish,r,q⟩
theorem PE.nox {e:Expr} {t:TE} (h:PE X.nox e t):PE X e t:=fun pins s σ H Q I hw=>
  wpAny_mono (h pins s σ H Q (I.wish _) hw) (fun _ _ ⟨v,H',I',r,q⟩=>⟨v,H',I'.unwish,r,q⟩) fun _ _ z=>False.elim z
theorem PT.nox {e:Expr} {t:TT} (h:PT X.nox e t):PT X e t:=fun pins s σ H Q I hw=>
  wpAny_mono (h pins s σ H Q (I.wish _) hw) (fun _ _ ⟨H',I',q⟩=>⟨H',I'.unwish,q⟩) fun _ _ z=>False.elim z
theorem PSs.nox {st:List Stmt} {t:TS} (h:PSs X.nox st t):PSs X st t:=fun pins s σ H D I hw=>
  wpAny_mono (h pins s σ H D (I.wish _) hw) (fun _ _ q=>q.unwish) fun _ _ z=>False.elim z
end
section
variable {X:Cx} {st:Stmt} {rest:List Stmt} {t u:TS} {e:Expr} {te:TE} {pos:Pos}
def zok:TS:=fun D σ H=>D.nx σ H
def tSeq (t u:TS):TS:=fun D σ H=>t { D with nx:=u D } σ H
theorem ziq:PSs X [] zok:=fun _ _ σ H _ I h=>wpAny_execs_nil ⟨σ,H,I,h⟩
theorem zeu (h1:PS X st t) (h2:PSs X rest u):PSs X (st::rest) (tSeq t u):=by
  intro pins s σ H D I h
  refine wpAny_execs_cons (thn (h1 pins s σ H { D with nx:=u D } I h) fun f s1 q=>?_)
  cases f with
  | next=>
    obtain ⟨σ',H',I',q⟩:=q
    exact h2 pins s1 σ' H' D I' q
  | ret v=>exact q
  | brk=>exact q
  | cont=>exact q
theorem zbk (h1:PS X st t):PSs X [st] t:=by
  intro pins s σ H D I h
  refine wpAny_execs_cons (thn (h1 pins s σ H D I h) fun f s1 q=>?_)
  cases f with
  | next=>exact wpAny_execs_nil q
  | ret v=>exact q
  | brk=>exact q
  | cont=>exact q
theorem Inv.quiet {pins:List (Addr×Obj)} {σ:St} {H:Hp} {s:Shared} (I:Inv X pins σ H s):interactive X.env=false:=by simp [interactive,I.ok.kind]
def zol (te:TE):TS:=fun D σ H=>te σ H fun _ H1=>D.nx σ H1
theorem zir (he:PE X e te) (hs:swapsWith e none pos.line X.env=pure false:=by rfl):PS X (.Expr e pos) (zol te):=by
  intro pins s σ H D I h
  exact wpAny_Expr_any (thn (he pins s σ H _ I h) fun v s1 ⟨x,H1,I1,r1,q1⟩=>⟨σ,H1,I1,q1⟩) I.quiet hs
def tRet (te:TE):TS:=fun D σ H=>te σ H D.rt
theorem zlp (he:PE X e te):PS X (.Return (some e) pos) (tRet te):=by
  intro pins s σ H D I h
  exact wpAny_Return_some (thn (he pins s σ H _ I h) fun v s1 ⟨x,H1,I1,r1,q1⟩=>⟨x,σ,H1,I1,r1,q1⟩)
def tIfS (c:TT) (t u:TS):TS:=fun D σ H=>c σ H fun b H1=>if b=true then t D σ H1 else u D σ H1
theorem zom {c:Expr} {a b:List Stmt} {tc:TT} (hc:PT X c tc) (ha:PSs X a t) (hb:PSs X b u):PS X (.If c a b pos) (tIfS tc t u):=by
  intro pins s σ H D I h
  refine wpAny_If (thn (hc pins s σ H _ I h) fun d s1 ⟨H1,I1,q1⟩=>?_)
  cases d with
  | true=>exact ha pins s1 σ H1 D I1 q1
  | false=>exact hb pins s1 σ H1 D I1 q1
end
abbrev TG:=V→St→Hp→(St→Hp→Prop)→Prop
abbrev TGs:=List V→St→Hp→(St→Hp→Prop)→Prop
def PG (X:Cx) (target:Expr) (t:TG):Prop:=
  ∀ (pins:List (Addr×Obj)) (s:Shared) (σ:St) (H:Hp) (v:V) (u:Value) (Q:St→Hp→Prop),Inv X pins σ H s→RelV v u→t v σ H Q→
    wpAny (model X.prog X.w) X.A (assign target X.env u) (fun _ s'=>∃ σ' H',Inv X pins σ' H' s'∧Q σ' H') X.xe s
def PGs (X:Cx) (ts:List Expr) (t:TGs):Prop:=
  ∀ (pins:List (Addr×Obj)) (s:Shared) (σ:St) (H:Hp) (vs:List V) (us:List Value) (Q:St→Hp→Prop),Inv X pins σ H s→Vals vs us→t vs σ H Q→
    wpAny (model X.prog X.w) X.A (assignInOrder ((assignEach ts X.env).map (·.2)) us) (fun _ s'=>∃ σ' H',Inv X pins σ' H' s'∧Q σ' H') X.xe s
abbrev TSet:=V→V→V→Hp→(Hp→Prop)→Prop
def PSet (X:Cx) (t:TSet):Prop:=
  ∀ (pins:List (Addr×Obj)) (s:Shared) (σ:St) (H:Hp) (o i v:V) (ov iv u:Value) (Q:Hp→Prop),Inv X pins σ H s→RelV o ov→RelV i iv→RelV v u→t o i v H Q→
    wpAny (model X.prog X.w) X.A (setItem ov iv u) (fun _ s'=>∃ H',Inv X pins σ H' s'∧Q H') X.xe s
section
variable {X:Cx} {pos:Pos}
def zis (i:Nat):TG:=fun v σ H Q=>Q (σ.set i (some v)) H
theorem zit {i:Nat} {x:Str} (hN:X.N.Nodup) (hi:X.N[i]?=some x) (hx:Loc X.env.scope x) (hf:X.fn x=true∨X.env.scope.names.lookup x=some .local:=by first | exact .inl rfl | exact .inr rfl | assumption):PG X (.Name x pos) (zis i):=by
  intro pins s σ H v u Q I r h
  exact wpAny_assign_Name (z66 I hN hi hx r (fun s' I'=>⟨_,H,I',h⟩) hf)
def gNil:TGs:=fun vs σ H Q=>vs=[]∧Q σ H
def zon (t:TG) (u:TGs):TGs:=fun vs σ H Q=>∃ v r,vs=v::r∧t v σ H fun σ' H'=>u r σ' H' Q
theorem ziu:PGs X [] gNil:=by
  intro pins s σ H vs us Q I r h
  obtain ⟨e,h⟩:=h
  subst e
  cases r
  exact assignInOrder_nil ⟨σ,H,I,h⟩
theorem zev {e:Expr} {es:List Expr} {t:TG} {u:TGs} (h1:PG X e t) (h2:PGs X es u)
    (hs:(assignEach (e::es) X.env).map (·.2)=assign e X.env::(assignEach es X.env).map (·.2):=by rfl):PGs X (e::es) (zon t u):=by
  intro pins s σ H vs us Q I r h
  obtain ⟨v,vr,e1,h⟩:=h
  subst e1
  cases r with
  | cons r rr=>
    rw [hs]
    refine assignInOrder_cons (thn (h1 pins s σ H _ _ _ I r h) fun _ s1 ⟨σ1,H1,I1,q1⟩=>?_)
    exact h2 pins s1 σ1 H1 _ _ Q I1 rr q1
def gTup (K:PySem.W.Frag) (n:Nat) (t:TGs):TG:=fun v σ H Q=>∃ a xs,v=.ref a∧SqT K H a xs∧xs.length=n∧t xs σ H Q
theorem zlq {es:List Expr} {k:Nat} {t:TGs} {n:Nat} (hc:X.calm=true) (h:PGs X es t)
    (hn:(assignEach es X.env).length=n:=by rfl) (hst:(assignEach es X.env).findIdx? (·.1)=none:=by rfl):PG X (.Tuple es k pos) (gTup X.K n t):=by
  intro pins s σ H v u Q I r hw
  obtain ⟨a,xs,e1,hq,hl,hw⟩:=hw
  subst e1
  cases r
  obtain ⟨its,rv,ht,hz⟩:=I.tuple hq
  refine assign_Tuple_tuple (I.ok.hd hc) ht (by simp [hn,← hl,rv.length]) hst fun h' hx=>?_
  have I1:Inv X pins σ H { s with heap:=h' }:=I.kept (t':=s.toks) fun b o e=>hx b o (Nat.ne_of_lt (Heap.lt_size e)) e
  exact h pins _ σ H xs _ Q I1 (by simpa using rv) hw
def gSub (to ti:TE) (t:TSet):TG:=fun v σ H Q=>to σ H fun o H1=>ti σ H1 fun i H2=>t o i v H2 fun H3=>Q σ H3
theorem zlr {o i:Expr} {to ti:TE} {t:TSet} (ho:PE X o to) (hi:PE X i ti) (hs:PSet X t)
    (ha:∀ v,assign (.Subscript o i pos) X.env v=(do
      let ov ← holding [v] (eval o X.env)
      let iv ← holding [v,ov] (eval i X.env)
      standAt pos
      holding [v,ov,iv] (setItem ov iv v)
      release [v,ov,iv] []):=by intro _;rfl):PG X (.Subscript o i pos) (gSub to ti t):=by
  intro pins s σ H v u Q I r h
  rw [ha]
  refine wpAny_bind (wpAny_holding (thn (ho pins s σ H _ I h) fun ov s1 ⟨x,H1,I1,r1,q1⟩=>?_))
  refine wpAny_bind (wpAny_holding (thn (hi pins s1 σ H1 _ I1 q1) fun iv s2 ⟨y,H2,I2,r2,q2⟩=>?_))
  refine wpAny_bind (wpAny_standAt (wpAny_bind (wpAny_holding (thn (hs pins s2 σ H2 x y v ov iv u _ I2 r1 r2 r q2) fun _ s3 ⟨H3,I3,q3⟩=>?_))))
  exact wpAny_release ⟨σ,H3,I3,q3⟩
def tAsg (te:TE) (g:TG):TS:=fun D σ H=>te σ H fun x H1=>g x σ H1 D.nx
theorem zhk {tg e:Expr} {te:TE} {g:TG} (he:PE X e te) (hg:PG X tg g) (hs:swapsWithSole [tg] e pos.line X.env=pure false:=by rfl) (hw:swappedStores [tg] e X.env=pure none:=by rfl)
    (h1:(assignEach [tg] X.env).map (·.2)=[assign tg X.env]:=by rfl):PS X (.Assign [tg] e pos) (tAsg te g):=by
  intro pins s σ H D I h
  refine wpAny_Assign_stores (thn (he pins s σ H _ I h) fun v s1 ⟨x,H1,I1,r1,q1⟩=>?_) hs hw
  rw [h1]
  exact thn (hg pins s1 σ H1 x v _ I1 r1 q1) fun _ s2 q=>q
theorem zbl {i:Nat} {x:Str} {e:Expr} {te:TE} {pos':Pos} (hN:X.N.Nodup) (hi:X.N[i]?=some x) (hx:Loc X.env.scope x) (he:PE X e te) (hs:swapsWith e (some (.Name x pos')) pos.line X.env=pure false:=by rfl) (hf:X.fn x=true∨X.env.scope.names.lookup x=some .local:=by first | exact .inl rfl | exact .inr rfl | assumption):
    PS X (.Assign [.Name x pos'] e pos) (tAsg te (zis i)):=by
  intro pins s σ H D I h
  refine wpAny_Assign_Name (thn (he pins s σ H _ I h) fun v s1 ⟨y,H1,I1,r1,q1⟩=>?_) hs
  exact z66 I1 hN hi hx r1 (fun s2 I2=>⟨_,H1,I2,q1⟩) hf
end
section
variable {X:Cx} {pos:Pos}
def zls (c:TT) (tb:TS):TS:=fun D σ H=>∃ W:Nat→St→Hp→Prop,(∃ m,W m σ H)∧∀ m σ H,W m σ H→
  c σ H fun b H1=>if b=true then ∃ N:St→Hp→Prop,(∀ σ' H',N σ' H'→∃ m',m'<m∧W m' σ' H')∧tb { D with nx:=N,ct:=N,bk:=D.nx } σ H1 else D.nx σ H1
theorem zew {c:Expr} {body:List Stmt} {tc:TT} {tb:TS} (hp:PassesOwn (model X.prog X.w) X.A X.env X.xe) (hc:PT X c tc) (hb:PSs X body tb):PS X (.While c body [] pos) (zls tc tb):=by
  intro pins s σ H D I h
  obtain ⟨W,⟨m0,w0⟩,turn⟩:=h
  refine wpAny_While (codeAny_whileLoop (fun n s'=>∃ σ' H',Inv X pins σ' H' s'∧W n σ' H') ?_ m0 ⟨σ,H,I,w0⟩)
  rintro n s1 ⟨σ1,H1,I1,w1⟩
  refine wpAny_passesOwn hp (thn (hc pins s1 σ1 H1 _ I1 (turn n σ1 H1 w1)) fun b s2 ⟨H2,I2,q2⟩=>?_)
  cases b with
  | true=>
    obtain ⟨N,hN,q2⟩:=q2
    rw [if_pos rfl]
    refine wpAny_passesOwn hp (thn (hb pins s2 σ1 H2 _ I2 q2) fun f s3 q3=>?_)
    cases f with
    | next=>
      obtain ⟨σ3,H3,I3,n3⟩:=q3
      obtain ⟨m',hm,w3⟩:=hN σ3 H3 n3
      exact ⟨m',hm,σ3,H3,I3,w3⟩
    | cont=>
      obtain ⟨σ3,H3,I3,n3⟩:=q3
      obtain ⟨m',hm,w3⟩:=hN σ3 H3 n3
      exact ⟨m',hm,σ3,H3,I3,w3⟩
    | brk=>exact q3
    | ret v=>exact q3
  | false=>
    rw [if_neg Bool.false_ne_true]
    exact wpAny_execs_nil ⟨σ1,H2,I2,q2⟩
end
structure It where
  go:Nat→Hp→Prop
  yld:Nat→Hp→V→Hp→Prop
  stop:Nat→Hp→Prop
def FpOk (X:Cx) (pins:List (Addr×Obj)) (H:Hp) (b:Addr):Prop:=
  H b=none∧b≠X.env.locals∧b∉X.fs∧(b∈X.ex∨X.s₀.heap.objs.size≤b)∧(∀ x c,X.env.cells.lookup x=some c→c≠b)∧∀ p∈X.pn++pins,p.1≠b
theorem Inv.fpOk {X:Cx} {pins:List (Addr×Obj)} {σ:St} {H H':Hp} {s:Shared} {b:Addr} (I:Inv X pins σ H s) (hb:s.heap.objs.size≤b) (hn:H' b=none):FpOk X pins H' b:=by
  refine ⟨hn,Nat.ne_of_gt (Nat.lt_of_lt_of_le I.lt hb),I.nofs hb,.inr (Nat.le_trans I.sz hb),fun x c e z=>?_,fun p hp z=>?_⟩
  · obtain ⟨v,q⟩:=I.cell x c e
    exact absurd (Nat.lt_of_lt_of_le q.lt (by rw [z];exact hb)) (Nat.lt_irrefl _)
  · exact absurd (Nat.lt_of_lt_of_le (Heap.lt_size (I.pin p hp).1) (by rw [z];exact hb)) (Nat.lt_irrefl _)
structure Turn (P:Program) (w:World) (K:PySem.W.Frag) (tg:Expr) (J:It) (fp:List Addr) (it:Addr) (tn:Nat→Heap→Prop):Prop where
  mem:it∈fp
  obj:∀ i h,tn i h→∀ b∈fp,∃ o,h.get? b=some o∧∀ v,o.data≠.cell v
  keep:∀ i h h',tn i h→(∀ b∈fp,∀ o,h.get? b=some o→h'.get? b=some o)→tn i h'
  item:∀ (X:Cx),X.prog=P→X.w=w→X.K=K→X.calm=true→∀ (i:Nat) (pins:List (Addr×Obj)) (s:Shared) (σ:St) (H:Hp) (E:Value→Shared→Prop),Inv X pins σ H s→(∀ b∈fp,FpOk X pins H b)→tn i s.heap→J.go i H→
    wpAny (model P w) X.A (pyNext (.ref it)) (fun r s1=>∃ u,r=some u ∧
      wpAny (model P w) X.A (letOwnedTupleGo tg (.ref it) u) (fun _ s2=>∃ x H',Inv X pins σ H' s2∧RelV x u∧J.yld i H x H'∧tn (i+1) s2.heap∧∀ b∈fp,H' b=none) E s1) E s
  done:∀ (X:Cx),X.prog=P→X.w=w→X.K=K→X.calm=true→∀ (i:Nat) (pins:List (Addr×Obj)) (s:Shared) (σ:St) (H:Hp) (E:Value→Shared→Prop),Inv X pins σ H s→(∀ b∈fp,FpOk X pins H b)→tn i s.heap→J.stop i H→
    wpAny (model P w) X.A (pyNext (.ref it)) (fun r s1=>r=none∧Inv X pins σ H s1) E s
  self:∀ (A:Around) (i:Nat) (s:Shared) (Q:Value→Shared→Prop) (E:Value→Shared→Prop),tn i s.heap→Q (.ref it) s→wpAny (model P w) A (pyIter (.ref it)) Q E s
abbrev TI:=St→Hp→(It→Hp→Prop)→Prop
def PIE (X:Cx) (pins:List (Addr×Obj)) (σ:St) (tg:Expr) (R:It→Hp→Prop) (itv:Value) (s2:Shared):Prop:=
  ∃ (it:Addr) (fp:List Addr) (tn:Nat→Heap→Prop) (J:It) (H':Hp),itv=.ref it∧Inv X pins σ H' s2∧Turn X.prog X.w X.K tg J fp it tn∧tn 0 s2.heap∧(∀ b∈fp,FpOk X pins H' b)∧R J H'
def PI (X:Cx) (tg iter:Expr) (wi:TI):Prop:=
  ∀ (pins:List (Addr×Obj)) (s:Shared) (σ:St) (H:Hp) (R:It→Hp→Prop),Inv X pins σ H s→wi σ H R→
    wpAny (model X.prog X.w) X.A (eval iter X.env) (fun v s1=>wpAny (model X.prog X.w) X.A (pyIter v) (PIE X pins σ tg R) X.xe s1) X.xe s
theorem ziv {M:Model} {A:Around} {E:Value→Shared→Prop} {s:Shared} {tg:Expr} {it:Addr} {u:Value} {o:Obj} {n:String} {vs:Array Value} {Q:Unit→Shared→Prop} (ho:s.heap.get? it=some o) (hc:o.cls=.type n) (hd:o.data=.fields vs)
    (hn:["enumerate","zip","dict_itemiterator","dict_reverseitemiterator","odict_iterator","itertools.zip_longest","itertools.pairwise"].contains n=false) (hQ:Q () s):wpAny M A (letOwnedTupleGo tg (.ref it) u) Q E s:=by
  unfold letOwnedTupleGo
  cases tg <;> first
    | exact wpAny_pure hQ
    | (cases u <;> first
        | exact wpAny_pure hQ
        | (refine wpAny_bind (wpAny_load ho ?_)
           rw [hc,hd]
           show wpAny M A (if (["enumerate","zip","dict_itemiterator","dict_reverseitemiterator","odict_iterator","itertools.zip_longest","itertools.pairwise"].contains n&&vs[0]?==some (rawInt _))=true then _ else _) Q E s
           rw [if_neg (by intro h;rw [hn,Bool.false_and] at h;cases h)]
           exact wpAny_pure hQ))
def Itl (K:PySem.W.Frag) (a:Addr):It:=
  ⟨fun i H=>∃ xs x,SqL K H a xs∧xs[i]?=some x,fun i H x H'=>H'=H∧∀ xs,SqL K H a xs→xs[i]?=some x,fun i H=>∃ xs,SqL K H a xs∧xs.length≤i⟩
def Itt (K:PySem.W.Frag) (a:Addr):It:=
  ⟨fun i H=>∃ xs x,SqT K H a xs∧xs[i]?=some x,fun i H x H'=>H'=H∧∀ xs,SqT K H a xs→xs[i]?=some x,fun i H=>∃ xs,SqT K H a xs∧xs.length≤i⟩
def Itr (lo:Int) (n:Nat):It:=⟨fun i _=>i<n,fun i H x H'=>H'=H∧x=.int (lo+i),fun i _=>n≤i⟩
theorem zbm {P:Program} {w:World} {K:PySem.W.Frag} {tg:Expr} (a it:Addr):Turn P w K tg (Itl K a) [it] it (fun i h=>h.IsListIter it a i) where
  mem:=by simp
  obj:=fun i h st b hb=>by
    have e:b=it:=by simpa using hb
    subst e
    obtain ⟨o,e,c,d⟩:=st
    exact ⟨o,e,fun v z=>by rw [d] at z;cases z⟩
  keep:=fun i h h' st k=>st.at fun o e=>k it (by simp) o e
  item:=by
    intro X hP hw hK hc i pins s σ H E I hf st hg
    subst hP hw hK
    obtain ⟨xs,x,hq,hx⟩:=hg
    obtain ⟨its,rv,p,hz⟩:=I.list hq
    obtain ⟨u,hu,ru⟩:=rv.get hx
    obtain ⟨f0,f1,f2,f3,f4,f5⟩:=hf it (by simp)
    refine wpAny_pyNext_list_item st p.isList (x:=u) (by simpa using hu) fun h' st' sb=>?_
    have I1:Inv X pins σ H { s with heap:=h' }:=I.turned (t':=s.toks) (fun b o hb e=>(sb.2 b hb).trans e) f0 f1 f3 f4 f5
    obtain ⟨o,e,c,d⟩:=id st'
    exact ⟨u,rfl,ziv (s:={ s with heap:=h' }) e c d (by decide) ⟨x,H,I1,ru,⟨rfl,fun ys hy=>by rw [I.list_inj hy hq];exact hx⟩,st',fun b hb=>(hf b hb).1⟩⟩
  done:=by
    intro X hP hw hK hc i pins s σ H E I hf st hg
    subst hP hw hK
    obtain ⟨xs,hq,hx⟩:=hg
    obtain ⟨its,rv,p,hz⟩:=I.list hq
    obtain ⟨f0,f1,f2,f3,f4,f5⟩:=hf it (by simp)
    have hl:=rv.length
    exact wpAny_pyNext_list_end (I.ok.hd hc) st p.isList (by simp;omega) fun h' eb=>⟨rfl,I.turned (t':=s.toks) (fun b o hb e=>eb b o hb e) f0 f1 f3 f4 f5⟩
  self:=fun _ _ _ _ _ st h=>wpAny_pyIter_listiter st h
theorem zao {P:Program} {w:World} {K:PySem.W.Frag} {tg:Expr} (a it:Addr):Turn P w K tg (Itt K a) [it] it (fun i h=>h.IsTupleIter it a i) where
  mem:=by simp
  obj:=fun i h st b hb=>by
    have e:b=it:=by simpa using hb
    subst e
    obtain ⟨o,e,c,d⟩:=st
    exact ⟨o,e,fun v z=>by rw [d] at z;cases z⟩
  keep:=fun i h h' st k=>st.at fun o e=>k it (by simp) o e
  item:=by
    intro X hP hw hK hc i pins s σ H E I hf st hg
    subst hP hw hK
    obtain ⟨xs,x,hq,hx⟩:=hg
    obtain ⟨its,rv,p,hz⟩:=I.tuple hq
    obtain ⟨u,hu,ru⟩:=rv.get hx
    obtain ⟨f0,f1,f2,f3,f4,f5⟩:=hf it (by simp)
    refine wpAny_pyNext_tuple_item st (show s.heap.IsTuple a its.toArray from p) (x:=u) (by simpa using hu) fun h' st' sb=>?_
    have I1:Inv X pins σ H { s with heap:=h' }:=I.turned (t':=s.toks) (fun b o hb e=>(sb.2 b hb).trans e) f0 f1 f3 f4 f5
    obtain ⟨o,e,c,d⟩:=id st'
    exact ⟨u,rfl,ziv (s:={ s with heap:=h' }) e c d (by decide) ⟨x,H,I1,ru,⟨rfl,fun ys hy=>by rw [I.tuple_inj hy hq];exact hx⟩,st',fun b hb=>(hf b hb).1⟩⟩
  done:=by
    intro X hP hw hK hc i pins s σ H E I hf st hg
    subst hP hw hK
    obtain ⟨xs,hq,hx⟩:=hg
    obtain ⟨its,rv,p,hz⟩:=I.tuple hq
    obtain ⟨f0,f1,f2,f3,f4,f5⟩:=hf it (by simp)
    have hl:=rv.length
    exact wpAny_pyNext_tuple_end (I.ok.hd hc) st (show s.heap.IsTuple a its.toArray from p) (by simp;omega) fun h' eb=>⟨rfl,I.turned (t':=s.toks) (fun b o hb e=>eb b o hb e) f0 f1 f3 f4 f5⟩
  self:=fun _ _ _ _ _ st h=>wpAny_pyIter_tupleiter st h
theorem zap {P:Program} {w:World} {K:PySem.W.Frag} {tg:Expr} (it:Addr) (lo:Int) (n:Nat):Turn P w K tg (Itr lo n) [it] it (fun i h=>IsRangeIter h it (lo+(i:Nat)*1) ((n:Int) - (i:Nat)) 1) where
  mem:=by simp
  obj:=fun i h st b hb=>by
    have e:b=it:=by simpa using hb
    subst e
    exact ⟨_,st,fun v z=>by
      have z':Data.fields _=Data.cell v:=z
      cases z'⟩
  keep:=fun i h h' st k=>k it (by simp) _ st
  item:=by
    intro X hP hw hK hc i pins s σ H E I hf st hg
    subst hP hw hK
    obtain ⟨f0,f1,f2,f3,f4,f5⟩:=hf it (by simp)
    have W:=Walks.range (prog:=X.prog) (w:=X.w) (I.ok.hd hc) it lo 1 n
    refine W.item i s _ _ hg st fun v h' tk hv st' kk=>?_
    obtain ⟨t,rfl⟩:=hv
    have I1:Inv X pins σ H { s with heap:=h',toks:=tk }:=I.turned (fun b o hb e=>kk b o (by simpa using hb) e) f0 f1 f3 f4 f5
    refine ⟨_,rfl,ziv (s:={ s with heap:=h',toks:=tk }) (n := "range_iterator") st' rfl rfl (by decide) ⟨.int (lo+i),H,I1,⟨t, ?_⟩,⟨rfl,rfl⟩,st',fun b hb=>(hf b hb).1⟩⟩
    rw [Int.mul_one]
  done:=by
    intro X hP hw hK hc i pins s σ H E I hf st hg
    subst hP hw hK
    obtain ⟨f0,f1,f2,f3,f4,f5⟩:=hf it (by simp)
    exact wpAny_pyNext_range_end (I.ok.hd hc) st (by have:n≤i:=hg;omega) fun h' eb=>⟨rfl,I.turned (t':=s.toks) (fun b o hb e=>eb b o hb e) f0 f1 f3 f4 f5⟩
  self:=fun _ _ _ _ _ st h=>wpAny_pyIter_rangeiter st h
section
variable {X:Cx} {tg:Expr}
def zoo (K:PySem.W.Frag) (tl:TE):TI:=fun σ H R=>tl σ H fun x H1=>∃ a,x=.ref a∧(∃ xs,SqL K H1 a xs)∧R (Itl K a) H1
def iTup (K:PySem.W.Frag) (tl:TE):TI:=fun σ H R=>tl σ H fun x H1=>∃ a,x=.ref a∧(∃ xs,SqT K H1 a xs)∧R (Itt K a) H1
theorem ziw {l:Expr} {tl:TE} (hl:PE X l tl):PI X tg l (zoo X.K tl):=by
  intro pins s σ H R I h
  refine thn (hl pins s σ H _ I h) fun v s1 ⟨x,H1,I1,r1,q1⟩=>?_
  obtain ⟨a,e,⟨xs,hq⟩,q⟩:=q1
  subst e
  cases r1
  obtain ⟨its,rv,p,hz⟩:=I1.list hq
  refine wpAny_pyIter_list p.isList ?_
  refine ⟨s1.heap.objs.size,[s1.heap.objs.size],_,_,H1,rfl,I1.kept (t':=s1.toks) fun b o e=>Heap.get?_push_of_some _ e,zbm a _,⟨_,Heap.get?_push_size _ rfl,rfl,rfl⟩,fun b hb=>?_,q⟩
  have e:b=s1.heap.objs.size:=by simpa using hb
  subst e
  exact I1.fpOk (Nat.le_refl _) (I1.hok.fresh (Nat.le_refl _))
theorem zlt {l:Expr} {tl:TE} (hl:PE X l tl):PI X tg l (iTup X.K tl):=by
  intro pins s σ H R I h
  refine thn (hl pins s σ H _ I h) fun v s1 ⟨x,H1,I1,r1,q1⟩=>?_
  obtain ⟨a,e,⟨xs,hq⟩,q⟩:=q1
  subst e
  cases r1
  obtain ⟨its,rv,p,hz⟩:=I1.tuple hq
  refine wpAny_pyIter_tuple (show s1.heap.IsTuple a its.toArray from p) ?_
  refine ⟨s1.heap.objs.size,[s1.heap.objs.size],_,_,H1,rfl,I1.kept (t':=s1.toks) fun b o e=>Heap.get?_push_of_some _ e,zao a _,⟨_,Heap.get?_push_size _ rfl,rfl,rfl⟩,fun b hb=>?_,q⟩
  have e:b=s1.heap.objs.size:=by simpa using hb
  subst e
  exact I1.fpOk (Nat.le_refl _) (I1.hok.fresh (Nat.le_refl _))
theorem z9d {pins:List (Addr×Obj)} {σ:St} {H:Hp} {s:Shared} {R:It→Hp→Prop} {E:Value→Shared→Prop} {lo hi:Int} {t u v:Tok} {tk:Nat} (I:Inv X pins σ H s) (h1 : -(2 ^ 62)≤lo) (h2:lo<2 ^ 62) (h3 : -(2 ^ 62)≤hi) (h4:hi<2 ^ 62)
    (q:R (Itr lo (hi - lo).toNat) H):wpAny (model X.prog X.w) X.A (pyIter (.ref s.heap.objs.size)) (PIE X pins σ tg R) E { s with heap:=s.heap.push { cls:=.type "range",data:=.fields #[.int lo t,.int hi u,.int 1 v] },toks:=tk }:=by
  refine wpAny_pyIter_range (IsRange.new ..) (small_one h1 h2 h3 h4) ?_
  have I1:Inv X pins σ H { s with heap:=s.heap.push { cls:=.type "range",data:=.fields #[.int lo t,.int hi u,.int 1 v] },toks:=tk }:=I.kept fun b o e=>Heap.get?_push_of_some _ e
  refine ⟨(s.heap.push { cls:=.type "range",data:=.fields #[.int lo t,.int hi u,.int 1 v] }).objs.size,[(s.heap.push { cls:=.type "range",data:=.fields #[.int lo t,.int hi u,.int 1 v] }).objs.size],_,_,H,rfl,
    I1.kept (t':=tk) fun b o e=>Heap.get?_push_of_some _ e,zap _ lo (hi - lo).toNat, ?_,fun b hb=>?_,q⟩
  · have e1:lo+((0:Nat):Int)*1=lo:=by simp
    have e2:(((hi - lo).toNat:Nat):Int) - ((0:Nat):Int)=Builtin.Range.rangeSize lo hi 1:=by rw [rangeSize_one];split <;> omega
    show IsRangeIter _ _ (lo+((0:Nat):Int)*1) ((((hi - lo).toNat:Nat):Int) - ((0:Nat):Int)) 1
    rw [e1,e2]
    exact Heap.get?_push_size _ rfl
  · have e:b=(s.heap.push { cls:=.type "range",data:=.fields #[.int lo t,.int hi u,.int 1 v] }).objs.size:=by simpa using hb
    subst e
    exact I1.fpOk (Nat.le_refl _) (I1.hok.fresh (Nat.le_refl _))
def zop (ta:TA):TI:=fun σ H R=>ta σ H fun vs H1=>∃ j:Int,vs=[.int j]∧-(2 ^ 62)≤j∧j<2 ^ 62∧R (Itr 0 j.toNat) H1
def zoq (ta:TA):TI:=fun σ H R=>ta σ H fun vs H1=>∃ i j:Int,vs=[.int i,.int j]∧(-(2 ^ 62)≤i∧i<2 ^ 62∧-(2 ^ 62)≤j∧j<2 ^ 62)∧R (Itr i (j - i).toNat) H1
theorem zbn {a:Expr} {ta:TA} {p pos:Pos} (hg:Gl X "range") (hm:X.mg "range" = none) (ha:PA X [a] ta) (hs:starEach [a] X.env=[(false,eval a X.env)]:=by rfl):PI X tg (.Call (.Name "range" p) [a] [] pos) (zop ta):=by
  intro pins s σ H R I h
  refine Call_ (z5h I hg hm boot_range (PyProof.Rows.callWith_type1 (thn (ha pos pins s σ H _ I h) fun us s1 ⟨vs,H1,I1,r1,q1⟩=>?_) hs rfl))
  obtain ⟨j,e,q1,q2,q⟩:=q1
  subst e
  cases r1 with
  | cons r rr=>
    cases rr
    obtain ⟨t,rfl⟩:=r
    exact call_range_1 (z9d I1 (by omega) (by omega) q1 q2 (by simpa using q))
theorem zbo {a b:Expr} {ta:TA} {p pos:Pos} (hg:Gl X "range") (hm:X.mg "range" = none) (ha:PA X [a,b] ta) (hs:starEach [a,b] X.env=[(false,eval a X.env),(false,eval b X.env)]:=by rfl) (hs2:starEach [b] X.env=[(false,eval b X.env)]:=by rfl):
    PI X tg (.Call (.Name "range" p) [a,b] [] pos) (zoq ta):=by
  intro pins s σ H R I h
  refine Call_ (z5h I hg hm boot_range (PyProof.Rows.callWith_type1 (thn (ha pos pins s σ H _ I h) fun us s1 ⟨vs,H1,I1,r1,q1⟩=>?_) (by rw [hs,hs2]) (by rw [hs2];rfl)))
  obtain ⟨i,j,e,⟨q1,q2,q3,q4⟩,q⟩:=q1
  subst e
  cases r1 with
  | cons r rr=>
    cases rr with
    | cons r' rr=>
      cases rr
      obtain ⟨t,rfl⟩:=r
      obtain ⟨t',rfl⟩:=r'
      exact call_range_2 (z9d I1 q1 q2 q3 q4 q)
def tFor (wi:TI) (g:TG) (tb:TS):TS:=fun D σ H=>wi σ H fun J H1=>∃ W:Nat→Nat→St→Hp→Prop,(∃ m,W 0 m σ H1)∧∀ i m σ H,W i m σ H→
  (J.stop i H∧D.nx σ H)∨(J.go i H∧∃ N:St→Hp→Prop,(∀ σ' H',N σ' H'→∃ m',m'<m∧W (i+1) m' σ' H')∧∀ x H',J.yld i H x H'→g x σ H' fun σ2 H2=>tb { D with nx:=N,ct:=N,bk:=D.nx } σ2 H2)
def z2j (fp:List Addr) (h:Heap):List (Addr×Obj):=fp.filterMap fun b=>(h.get? b).map fun o=>(b,o)
theorem z1t {fp:List Addr} {h:Heap} {b:Addr} {o:Obj} (hb:b∈fp) (e:h.get? b=some o):(b,o)∈z2j fp h:=List.mem_filterMap.mpr ⟨b,hb,by rw [e];rfl⟩
theorem z4c {fp:List Addr} {h:Heap} {p:Addr×Obj} (hp:p∈z2j fp h):p.1∈fp∧h.get? p.1=some p.2:=by
  obtain ⟨b,hb,e⟩:=List.mem_filterMap.mp hp
  cases q:h.get? b with
  | none=>rw [q] at e;cases e
  | some o=>
    rw [q] at e
    have e':(b,o)=p:=Option.some.inj e
    subst e'
    exact ⟨hb,q⟩
theorem Inv.pinned {pins:List (Addr×Obj)} {σ:St} {H:Hp} {s:Shared} {fp:List Addr} (I:Inv X pins σ H s) (hf:∀ b∈fp,FpOk X pins H b) (ho:∀ b∈fp,∃ o,s.heap.get? b=some o∧∀ v,o.data≠.cell v):Inv X (pins++z2j fp s.heap) σ H s:=
  I.pins_of fun p hp=>(List.mem_append.mp hp).elim (fun z=>I.pin p (List.mem_append_right _ z)) fun z=>by
    obtain ⟨hb,e⟩:=z4c z
    obtain ⟨f0,f1,f2,_⟩:=hf p.1 hb
    obtain ⟨o,e',d⟩:=ho p.1 hb
    rw [e] at e';cases e'
    exact ⟨e,f0,f1,f2,d⟩
theorem Inv.unpinned {pins pl:List (Addr×Obj)} {σ:St} {H:Hp} {s:Shared} (I:Inv X (pins++pl) σ H s):Inv X pins σ H s:=I.pins_of fun p hp=>I.pin p (List.mem_append_right _ (List.mem_append_left _ hp))
theorem zlu {iter:Expr} {body:List Stmt} {wi:TI} {g:TG} {tb:TS} {pos:Pos} (hp:PassesOwn (model X.prog X.w) X.A X.env X.xe) (hc:X.calm=true) (hi:PI X tg iter wi) (hg:PG X tg g) (hb:PSs X body tb)
    (hs:∀ x,foldedSetIterable iter X.env x=pure x:=by intro _;rfl):PS X (.For tg iter body [] pos) (tFor wi g tb):=by
  intro pins s σ H D I h
  refine wpAny_For (thn (hi pins s σ H _ I h) fun v s1 h1=>thn h1 fun itv s2 h2=>?_) hs
  obtain ⟨it,fp,tn,J,H2,e,I2,T,st2,f2,W,⟨m0,w0⟩,turn⟩:=h2
  subst e
  have stat:∀ {H':Hp},(∀ b∈fp,H' b=none)→∀ b∈fp,FpOk X pins H' b:=fun hn b hb=>⟨hn b hb,(f2 b hb).2⟩
  refine codeAny_forLoop_any (fun n s'=>∃ i σ' H',Inv X pins σ' H' s'∧tn i s'.heap∧(∀ b∈fp,H' b=none)∧W i n σ' H') ?_ m0 ⟨0,σ,H2,I2,st2,fun b hb=>(f2 b hb).1,w0⟩
  rintro n s3 ⟨i,σ3,H3,I3,st3,fr3,w3⟩
  rcases turn i n σ3 H3 w3 with ⟨stop,qn⟩ | ⟨go,N,hN,step⟩
  · refine wpAny_passesOwn hp (thn (T.done X rfl rfl rfl hc i pins s3 σ3 H3 X.xe I3 (stat fr3) st3 stop) fun r s4 ⟨hr,I4⟩=>?_)
    subst hr
    exact wpAny_execs_nil ⟨σ3,H3,I4,qn⟩
  · refine wpAny_passesOwn hp (thn (T.item X rfl rfl rfl hc i pins s3 σ3 H3 X.xe I3 (stat fr3) st3 go) fun r s4 ⟨u,hr,h4⟩=>?_)
    subst hr
    refine wpAny_passesOwn hp (thn h4 fun _ s5 ⟨x,H5,I5,r5,y5,st5,fr5⟩=>?_)
    have I5':=I5.pinned (stat fr5) (T.obj _ _ st5)
    refine wpAny_passesOwn hp (thn (hg _ s5 σ3 H5 x u _ I5' r5 (step x H5 y5)) fun _ s6 ⟨σ6,H6,I6,q6⟩=>?_)
    refine wpAny_passesOwn hp (thn (hb _ s6 σ6 H6 _ I6 q6) fun f s7 q7=>?_)
    have again:∀ {σ7:St} {H7:Hp},Inv X (pins++z2j fp s5.heap) σ7 H7 s7→N σ7 H7→∃ m,m<n∧∃ i σ' H',Inv X pins σ' H' s7∧tn i s7.heap∧(∀ b∈fp,H' b=none)∧W i m σ' H':=fun {σ7 H7} I7 n7=>by
      obtain ⟨m',hm,w7⟩:=hN σ7 H7 n7
      refine ⟨m',hm,i+1,σ7,H7,I7.unpinned,T.keep _ _ _ st5 fun b hb o e=>(I7.pin (b,o) (List.mem_append_right _ (List.mem_append_right _ (z1t hb e)))).1,fun b hb=>?_,w7⟩
      obtain ⟨o,e,d⟩:=T.obj _ _ st5 b hb
      exact (I7.pin (b,o) (List.mem_append_right _ (List.mem_append_right _ (z1t hb e)))).2.1
    cases f with
    | next=>obtain ⟨σ7,H7,I7,n7⟩:=q7;exact again I7 n7
    | cont=>obtain ⟨σ7,H7,I7,n7⟩:=q7;exact again I7 n7
    | brk=>obtain ⟨σ7,H7,I7,q7⟩:=q7;exact ⟨σ7,H7,I7.unpinned,q7⟩
    | ret v=>obtain ⟨x7,σ7,H7,I7,r7,q7⟩:=q7;exact ⟨x7,σ7,H7,I7.unpinned,r7,q7⟩
end
abbrev R2:=V→V→Hp→VK→Prop
def OpR (X:Cx) (f:Value→Value→Sem Value) (r:R2):Prop:=
  ∀ (pins:List (Addr×Obj)) (s:Shared) (σ:St) (H:Hp) (x y:V) (v u:Value) (Q:VK),Inv X pins σ H s→RelV x v→RelV y u→r x y H Q→
    wpAny (model X.prog X.w) X.A (f v u) (EP X pins σ Q) X.xe s
def UnR (X:Cx) (f:Value→Sem Value) (r:V→Hp→VK→Prop):Prop:=
  ∀ (pins:List (Addr×Obj)) (s:Shared) (σ:St) (H:Hp) (x:V) (v:Value) (Q:VK),Inv X pins σ H s→RelV x v→r x H Q→
    wpAny (model X.prog X.w) X.A (f v) (EP X pins σ Q) X.xe s
def CallR (X:Cx) (f:Value) (r:List V→Hp→VK→Prop):Prop:=
  ∀ (pins:List (Addr×Obj)) (s:Shared) (σ:St) (H:Hp) (xs:List V) (us:List Value) (Q:VK),Inv X pins σ H s→Vals xs us→r xs H Q→
    wpAny (model X.prog X.w) X.A (call f us) (EP X pins σ Q) X.xe s
def TruR (X:Cx) (r:V→Hp→(Bool→Hp→Prop)→Prop):Prop:=
  ∀ (pins:List (Addr×Obj)) (s:Shared) (σ:St) (H:Hp) (x:V) (v:Value) (Q:Bool→Hp→Prop),Inv X pins σ H s→RelV x v→r x H Q→
    wpAny (model X.prog X.w) X.A (truthy v) (TP X pins σ Q) X.xe s
def tOp (r:R2) (ta tb:TE):TE:=fun σ H Q=>ta σ H fun x H1=>tb σ H1 fun y H2=>r x y H2 Q
def tUn (r:V→Hp→VK→Prop) (ta:TE):TE:=fun σ H Q=>ta σ H fun x H1=>r x H1 Q
def rI (C:Int→Int→Prop) (g:Int→Int→V):R2:=fun x y H Q=>∃ i j,x=.int i∧y=.int j∧C i j∧Q (g i j) H
def rI0 (g:Int→Int→V):R2:=fun x y H Q=>∃ i j,x=.int i∧y=.int j∧Q (g i j) H
def rU (g:Int→V):V→Hp→VK→Prop:=fun x H Q=>∃ i,x=.int i∧Q (g i) H
section
variable {X:Cx} {a b c:Expr} {ta tb tc:TE} {pos:Pos}
theorem binT (ha:PE X a ta) (hb:PE X b tb) {pins:List (Addr×Obj)} {s:Shared} {σ:St} {H:Hp} {R:V→V→Hp→Prop} (I:Inv X pins σ H s)
    (h:ta σ H fun x H1=>tb σ H1 fun y H2=>R x y H2) {Q:Value→Shared→Prop} {f:Value→Value→Sem Value}
    (hf:∀ v u s2 x y H2,Inv X pins σ H2 s2→RelV x v→RelV y u→R x y H2→wpAny (model X.prog X.w) X.A (f v u) Q X.xe s2):
    wpAny (model X.prog X.w) X.A (eval a X.env) (fun v s₁=>wpAny (model X.prog X.w) X.A (eval b X.env) (fun u s₂=>wpAny (model X.prog X.w) X.A (f v u) Q X.xe s₂) X.xe s₁) X.xe s:=by
  refine thn (ha pins s σ H _ I h) fun v s1 ⟨x,H1,I1,r1,q1⟩=>?_
  refine thn (hb pins s1 σ H1 _ I1 q1) fun u s2 ⟨y,H2,I2,r2,q2⟩=>?_
  exact hf v u s2 x y H2 I2 r1 r2 q2
theorem zor {op:Operator} {r:R2} (ho:OpR X (binaryOp op) r) (ha:PE X a ta) (hb:PE X b tb):PE X (.BinOp a op b pos) (tOp r ta tb):=by
  intro pins s σ H Q I h
  exact wpAny_BinOp (binT ha hb I h fun v u s2 x y H2 I2 rx ry q=>ho pins s2 σ H2 x y v u Q I2 rx ry q)
theorem zos {op:UnaryOp} {r:V→Hp→VK→Prop} (ho:UnR X (unaryOp op) r) (ha:PE X a ta):PE X (.UnaryOp op a pos) (tUn r ta):=by
  intro pins s σ H Q I h
  exact UnaryOp_ (thn (ha pins s σ H _ I h) fun v s1 ⟨x,H1,I1,r1,q1⟩=>ho pins s1 σ H1 x v Q I1 r1 q1)
theorem opI {f:Value→Value→Sem Value} {C:Int→Int→Prop} {g:Int→Int→Int}
    (rule:∀ (i j:Int) (t u:Tok) (s:Shared) (Q:Value→Shared→Prop) (E:Value→Shared→Prop),C i j→Q (.int (g i j) s.toks) { s with toks:=s.toks+1 }→wpAny (model X.prog X.w) X.A (f (.int i t) (.int j u)) Q E s):
    OpR X f (rI C fun i j=>.int (g i j)):=by
  intro pins s σ H x y v u Q I rx ry h
  obtain ⟨i,j,rfl,rfl,hc,q⟩:=h
  obtain ⟨t,rfl⟩:=rx
  obtain ⟨t',rfl⟩:=ry
  exact rule i j t t' s _ _ hc ⟨.int (g i j),H,I.tok _,⟨_,rfl⟩,q⟩
theorem opI0 {f:Value→Value→Sem Value} {g:Int→Int→Int}
    (rule:∀ (i j:Int) (t u:Tok) (s:Shared) (Q:Value→Shared→Prop) (E:Value→Shared→Prop),Q (.int (g i j) s.toks) { s with toks:=s.toks+1 }→wpAny (model X.prog X.w) X.A (f (.int i t) (.int j u)) Q E s):
    OpR X f (rI0 fun i j=>.int (g i j)):=by
  intro pins s σ H x y v u Q I rx ry h
  obtain ⟨i,j,rfl,rfl,q⟩:=h
  obtain ⟨t,rfl⟩:=rx
  obtain ⟨t',rfl⟩:=ry
  exact rule i j t t' s _ _ ⟨.int (g i j),H,I.tok _,⟨_,rfl⟩,q⟩
theorem opB0 {f:Value→Value→Sem Value} {g:Int→Int→Bool}
    (rule:∀ (i j:Int) (t u:Tok) (s:Shared) (Q:Value→Shared→Prop) (E:Value→Shared→Prop),Q (.bool (g i j)) s→wpAny (model X.prog X.w) X.A (f (.int i t) (.int j u)) Q E s):
    OpR X f (rI0 fun i j=>.bl (g i j)):=by
  intro pins s σ H x y v u Q I rx ry h
  obtain ⟨i,j,rfl,rfl,q⟩:=h
  obtain ⟨t,rfl⟩:=rx
  obtain ⟨t',rfl⟩:=ry
  exact rule i j t t' s _ _ ⟨.bl (g i j),H,I,rfl,q⟩
def CPow (i j:Int):Prop:=0≤j∧j≤1000000∧i.natAbs<2 ^ 64
def CMul (i j:Int):Prop:=(-(2 ^ 64)<i∧i<2 ^ 64)∨(-(2 ^ 64)<j∧j<2 ^ 64)
theorem CMul.ok {i j:Int} (h:CMul i j):IntMulOk i j:=by
  rcases h with ⟨h1,h2⟩ | ⟨h1,h2⟩
  · exact .of_left (intBits_le_64 h1 h2)
  · exact .of_right (intBits_le_64 h1 h2)
theorem op_add:OpR X (binaryOp .Add) (rI0 fun i j=>.int (i+j)):=opI0 fun _ _ _ _ _ _ _ q=>add_int q
theorem zlv:OpR X (binaryOp .Sub) (rI0 fun i j=>.int (i - j)):=opI0 fun _ _ _ _ _ _ _ q=>sub_int q
theorem zlw:OpR X (binaryOp .Mult) (rI CMul fun i j=>.int (i*j)):=opI fun _ _ _ _ _ _ _ hc q=>mul_int q hc.ok
theorem zlx:OpR X (binaryOp .Mod) (rI (fun _ j=>0<j) fun i j=>.int (i % j)):=opI fun i j _ _ _ _ _ hc q=>by
  have h1:(0:Int)<j:=hc
  exact mod_int' (by omega) (by rw [Int.fmod_eq_emod_of_nonneg i (by omega)];exact q)
theorem zly:OpR X (binaryOp .Pow) (rI CPow fun i j=>.int (i ^ j.toNat)):=opI fun _ _ _ _ _ _ _ hc q=>pow_int_small hc.1 hc.2.1 hc.2.2 q
theorem unI {f:Value→Sem Value} {g:Int→Int}
    (rule:∀ (i:Int) (t:Tok) (s:Shared) (Q:Value→Shared→Prop) (E:Value→Shared→Prop),Q (.int (g i) s.toks) { s with toks:=s.toks+1 }→wpAny (model X.prog X.w) X.A (f (.int i t)) Q E s):
    UnR X f (rU fun i=>.int (g i)):=by
  intro pins s σ H x v Q I rx h
  obtain ⟨i,rfl,q⟩:=h
  obtain ⟨t,rfl⟩:=rx
  exact rule i t s _ _ ⟨.int (g i),H,I.tok _,⟨_,rfl⟩,q⟩
theorem zlz:UnR X (unaryOp .USub) (rU fun i=>.int (-i)):=unI fun _ _ _ _ _ q=>neg_int q
end
section
variable {X:Cx} {a b c:Expr} {ta tb tc:TE} {pos:Pos}
theorem zm0:OpR X (compareOp .Lt) (rI0 fun i j=>.bl (decide (i<j))):=opB0 fun _ _ _ _ _ _ _ q=>lt_int q
theorem zm1:OpR X (compareOp .LtE) (rI0 fun i j=>.bl (decide (i≤j))):=opB0 fun _ _ _ _ _ _ _ q=>le_int q
theorem zot:OpR X (compareOp .Gt) (rI0 fun i j=>.bl (decide (j<i))):=opB0 fun _ _ _ _ _ _ _ q=>gt_int q
theorem zou:OpR X (compareOp .GtE) (rI0 fun i j=>.bl (decide (j≤i))):=opB0 fun _ _ _ _ _ _ _ q=>ge_int q
theorem OpR.or {f:Value→Value→Sem Value} {r r':R2} (h:OpR X f r) (h':OpR X f r'):OpR X f (fun x y H Q=>r x y H Q∨r' x y H Q):=by
  intro pins s σ H x y v u Q I rx ry q
  rcases q with q | q
  · exact h pins s σ H x y v u Q I rx ry q
  · exact h' pins s σ H x y v u Q I rx ry q
theorem z4d (b:Expr) {op:CmpOp} (h:op≠.In:=by decide) (h2:op≠.NotIn:=by decide):behindInMarks op b=false:=by
  have e1:(op==CmpOp.In)=false:=by cases op <;> first | rfl | exact absurd rfl h
  have e2:(op==CmpOp.NotIn)=false:=by cases op <;> first | rfl | exact absurd rfl h2
  cases b <;> simp [behindInMarks,e1,e2]
theorem zix {op:CmpOp} {r:R2} (ho:OpR X (compareOp op) r) (ha:PE X a ta) (hb:PE X b tb) (hm:behindInMarks op b=false):PE X (.Compare a [op] [b] pos) (tOp r ta tb):=by
  intro pins s σ H Q I h
  exact wpAny_Compare1 (binT ha hb I h fun v u s2 x y H2 I2 rx ry q=>ho pins s2 σ H2 x y v u Q I2 rx ry q) hm
def zov (t:TE):TT:=fun σ H Q=>t σ H fun x H'=>∃ k,x=.bl k∧Q k H'
theorem ziy {op:CmpOp} {r:R2} (ho:OpR X (compareOp op) r) (ha:PE X a ta) (hb:PE X b tb) (hm:behindInMarks op b=false):PT X (.Compare a [op] [b] pos) (zov (tOp r ta tb)):=by
  intro pins s σ H Q I h
  refine wpAny_isTrue_Compare1 (thn (ha pins s σ H _ I h) fun v s1 ⟨x,H1,I1,r1,q1⟩=>thn (hb pins s1 σ H1 _ I1 q1) fun u s2 ⟨y,H2,I2,r2,q2⟩=>
    thn (ho pins s2 σ H2 x y v u _ I2 r1 r2 q2) fun c s3 ⟨z,H3,I3,r3,k,e,q3⟩=>?_) hm
  subst e
  cases r3
  exact wpAny_truthy_bool ⟨H3,I3,q3⟩
def zhl (r r':R2) (ta tb tc:TE):TE:=fun σ H Q=>ta σ H fun x H1=>tb σ H1 fun y H2=>r x y H2 fun z H3=>∃ k,z=.bl k ∧
  (if k=true then tc σ H3 fun w' H4=>r' y w' H4 Q else Q (.bl false) H3)
theorem zex {op op':CmpOp} {r r':R2} (ho:OpR X (compareOp op) r) (ho':OpR X (compareOp op') r') (ha:PE X a ta) (hb:PE X b tb) (hc:PE X c tc)
    (hm:lastMarks [op,op'] [b,c]=false:=by with_unfolding_all rfl):PE X (.Compare a [op,op'] [b,c] pos) (zhl r r' ta tb tc):=by
  intro pins s σ H Q I h
  refine Compare_chain (thn (ha pins s σ H _ I h) fun v s1 ⟨x,H1,I1,r1,q1⟩=>chain_link (thn (hb pins s1 σ H1 _ I1 q1) fun u s2 ⟨y,H2,I2,r2,q2⟩=>
    thn (ho pins s2 σ H2 x y v u _ I2 r1 r2 q2) fun d s3 ⟨z,H3,I3,r3,k,e,q3⟩=>?_)) hm
  subst e
  cases r3
  refine wpAny_truthy_bool ?_
  cases k with
  | false=>exact ite_ff ⟨.bl false,H3,I3,rfl,q3⟩
  | true=>exact ite_tt (chain_last (thn (hc pins s3 σ H3 _ I3 q3) fun w' s4 ⟨z',H4,I4,r4,q4⟩=>ho' pins s4 σ H4 y z' u w' Q I4 r2 r4 q4))
def TruV (K:PySem.W.Frag) (x:V) (H:Hp) (k:Bool):Prop:=
  match x with
  | .non=>k=false
  | .bl b=>k=b
  | .int i=>k=(i != 0)
  | .str y=>y.length≤sizeLine∧k=((y.length:Int) != 0)
  | .byt y=>y.size≤sizeLine∧k=((y.size:Int) != 0)
  | .ref p=>(∃ xs,SqL K H p xs∧k=!xs.isEmpty)∨(∃ xs,SqT K H p xs∧k=!xs.isEmpty)∨∃ kvs,H p=some (.dK kvs)∧k=!kvs.isEmpty
  | _=>False
theorem zaq {κ:Type} {kvs:List (κ×V)} {vs:List (κ×Value)} (r:KV kvs vs):(!vs.isEmpty)=!kvs.isEmpty:=by
  cases r <;> rfl
theorem z5i {xs:List V} {its:List Value} (r:Vals xs its):(!its.toArray.isEmpty)=!xs.isEmpty:=by
  cases r <;> simp
theorem z5j:(sizeLine:Nat)<2 ^ 63:=by rw [sizeLine_eq];decide
theorem zm2:TruR X (fun x H Q=>∃ k,TruV X.K x H k∧Q k H):=by
  intro pins s σ H x v Q I rx h
  obtain ⟨k,e,q⟩:=h
  have hl:=z5j
  have hs:sizeLine=16777216:=sizeLine_eq
  cases x with
  | non=>
    cases rx
    have e':k=false:=e
    subst e'
    exact truthy_none ⟨H,I,q⟩
  | bl b=>
    cases rx
    have e':k=b:=e
    subst e'
    exact wpAny_truthy_bool ⟨H,I,q⟩
  | int i=>
    obtain ⟨t,rfl⟩:=rx
    have e':k=(i != 0):=e
    subst e'
    exact PySem.P.truthy_int ⟨H,I,q⟩
  | str y=>
    obtain ⟨t,rfl⟩:=rx
    obtain ⟨hy,e'⟩:y.length≤sizeLine∧k=((y.length:Int) != 0):=e
    subst e'
    exact PySem.P.truthy_str (by omega) ⟨H,I.tok _,q⟩
  | byt y=>
    obtain ⟨t,rfl⟩:=rx
    obtain ⟨hy,e'⟩:y.size≤sizeLine∧k=((y.size:Int) != 0):=e
    subst e'
    exact PySem.W.truthy_bytes (by omega) ⟨H,I.tok _,q⟩
  | ref p=>
    cases rx
    have e':(∃ xs,SqL X.K H p xs∧k=!xs.isEmpty)∨(∃ xs,SqT X.K H p xs∧k=!xs.isEmpty)∨∃ kvs,H p=some (.dK kvs)∧k=!kvs.isEmpty:=e
    rcases e' with ⟨xs,hx,e'⟩ | ⟨xs,hx,e'⟩ | ⟨kvs,hx,e'⟩
    · subst e'
      obtain ⟨its,r,pl,hz⟩:=I.list hx
      have hlen:=r.length
      exact wpAny_truthy_list pl.isList (by simp only [List.size_toArray];omega) ⟨H,I.tok _,by rw [z5i r];exact q⟩
    · subst e'
      obtain ⟨its,r,pl,hz⟩:=I.tuple hx
      have hlen:=r.length
      exact truthy_tuple pl (by simp only [List.size_toArray];omega) ⟨H,I.tok _,by rw [z5i r];exact q⟩
    · subst e'
      obtain ⟨hz,hS,vs,r,m⟩:kvs.length≤sizeLine∧(p==sysModules)=false∧∃ vs,KV kvs vs∧s.heap.DictOf (z8c X.prog X.w) p vs:=I.hok p _ hx
      have hlen:kvs.length=vs.length:=Paired.length r
      exact wpAny_truthy_dict hS m (by omega) ⟨H,I.tok _,by rw [zaq r];exact q⟩
  | _=>exact (show False from e).elim
theorem zey (ha:PE X a ta) (he:∀ whole,isTrue a X.env whole=(do let v ← whole;standAt a.pos;holding [v] (truthy v))):
    PT X a (fun σ H Q=>ta σ H fun x H'=>∃ k,TruV X.K x H' k∧Q k H'):=by
  intro pins s σ H Q I h
  exact isTrue_plain (thn (ha pins s σ H _ I h) fun v s1 ⟨x,H1,I1,r1,q1⟩=>zm2 pins s1 σ H1 x v Q I1 r1 q1) (he _)
theorem z4e {x:V} {us:List Value} (r:Vals [x] us):∃ u,us=[u]∧RelV x u:=by
  cases r with
  | cons r1 r2=>cases r2;exact ⟨_,rfl,r1⟩
theorem zbp {x y:V} {us:List Value} (r:Vals [x,y] us):∃ u w',us=[u,w']∧RelV x u∧RelV y w':=by
  cases r with
  | cons r1 r2=>
    cases r2 with
    | cons r3 r4=>cases r4;exact ⟨_,_,rfl,r1,r3⟩
theorem zbq (hc:X.calm=true):CallR X (.builtin "max") (fun xs H Q=>∃ i j,xs=[.int i,.int j]∧Q (.int (if j>i then j else i)) H):=by
  intro pins s σ H xs us Q I r h
  obtain ⟨i,j,rfl,q⟩:=h
  obtain ⟨u,w',rfl,⟨t,rfl⟩,⟨t',rfl⟩⟩:=zbp r
  refine max_two_ints (I.ok.hd hc) fun h' tk k=>⟨_,H,I.kept k, ?_,q⟩
  by_cases hj:j>i
  · rw [if_pos hj,if_pos hj];exact ⟨_,rfl⟩
  · rw [if_neg hj,if_neg hj];exact ⟨_,rfl⟩
theorem zbr (hc:X.calm=true):CallR X (.builtin "min") (fun xs H Q=>∃ i j,xs=[.int i,.int j]∧Q (.int (if j<i then j else i)) H):=by
  intro pins s σ H xs us Q I r h
  obtain ⟨i,j,rfl,q⟩:=h
  obtain ⟨u,w',rfl,⟨t,rfl⟩,⟨t',rfl⟩⟩:=zbp r
  refine min_two_ints (I.ok.hd hc) fun h' tk k=>⟨_,H,I.kept k, ?_,q⟩
  by_cases hj:j<i
  · rw [if_pos hj,if_pos hj];exact ⟨_,rfl⟩
  · rw [if_neg hj,if_neg hj];exact ⟨_,rfl⟩
end
section
variable {prog:Program} {w:World} {A:Around} {E:Value→Shared→Prop} {s:Shared} {K:PySem.W.Frag} {x dx C f:Addr} {mA:Str→Option Value} {name:Str} {v:Value}
end
section
variable {P:Program} {w:World} {H H':Hp} {h h':Heap} {a C dx:Addr} {fs fs':List (Str×V)}
end
section
variable {X:Cx} {pins:List (Addr×Obj)} {σ:St} {H:Hp} {s:Shared} {a C dx:Addr} {fs:List (Str×V)} {f:Str} {v:V} {A:Around} {E:Value→Shared→Prop}
end
section
variable {X:Cx} {o e value:Expr} {f:Str} {pos pos' tpos:Pos} {ta tv:TE}
end
section
variable {X:Cx} {pins:List (Addr×Obj)} {σ:St} {H:Hp} {s:Shared} {A:Around} {E:Value→Shared→Prop} {Q:Value→Shared→Prop} {c:Value} {b:Bool}
end
structure Room (k:Nat) (A:Around):Prop where
  hd:A.handled=none
  dp:A.depth+3*k+5<recursionLimit
  un:A.units+16*k+200<cLine
theorem Room.mono {j k:Nat} {A:Around} (r:Room k A) (h:j≤k):Room j A:=⟨r.hd,by have:=r.dp;omega,by have:=r.un;omega⟩
theorem Room.deeper {k:Nat} {A:Around} (r:Room (k+1) A) (env:Env):Room k (A.deeper env):=
  ⟨r.hd,by have:=r.dp;show A.depth+1+3*k+5<_;omega,by have:=r.un;show A.units+3+16*k+200<_;omega⟩
theorem Room.depth {k:Nat} {A:Around} (r:Room k A):A.depth<recursionLimit:=by have:=r.dp;omega
theorem Room.units {k:Nat} {A:Around} (r:Room k A):A.units+64<cLine:=by have:=r.un;omega
def tNil:TA:=fun _ H Q=>Q [] H
def zm3 (ta:TE) (tr:TA):TA:=fun σ H Q=>ta σ H fun x H1=>tr σ H1 fun xs H2=>Q (x::xs) H2
section
variable {X:Cx} {e:Expr} {es:List Expr} {te:TE} {t:TA} {pos:Pos}
theorem z27:PA X [] tNil:=fun _ _ _ _ H Q I h=>Calls.spliced_nil ⟨[],H,I,.nil,h⟩
theorem z17 (ha:PE X e te) (hr:PA X es t) (hs:starEach (e::es) X.env=(false,eval e X.env)::starEach es X.env:=by rfl):PA X (e::es) (zm3 te t):=by
  intro pos pins s σ H Q I h
  rw [hs]
  show wpAny _ _ (spliced ((false,eval e X.env)::backTo pos (starEach es X.env))) _ _ s
  refine Calls.spliced_cons (thn (ha pins s σ H _ I h) fun u s1 ⟨x,H1,I1,r1,q1⟩=>?_)
  exact thn (hr pos pins s1 σ H1 _ I1 q1) fun us s2 ⟨xs,H2,I2,r2,q2⟩=>⟨x::xs,H2,I2,.cons r1 r2,q2⟩
def tTup (t:TA):TE:=fun σ H Q=>t σ H fun xs H1=>xs.length≤sizeLine∧∀ p,H1 p=none→Q (.ref p) (upd H1 p (.tup xs))
def tLst (t:TA):TE:=fun σ H Q=>t σ H fun xs H1=>xs.length≤sizeLine∧∀ p,H1 p=none→Q (.ref p) (upd H1 p (.lst xs))
theorem zhm {x1} (h:PA X es t):PE X (.Tuple es x1 pos) (tTup t):=by
  intro pins s σ H Q I hq
  refine wpAny_Tuple_spliced (thn (h pos pins s σ H _ I hq) fun us s1 ⟨xs,H1,I1,r,z,q⟩=>⟨by rw [← r.length];exact z, ?_⟩)
  have hf:H1 s1.heap.objs.size=none:=I1.hok.fresh (Nat.le_refl _)
  refine ⟨.ref s1.heap.objs.size,upd H1 s1.heap.objs.size (.tup xs),I1.laid (t':=s1.toks) (fun b u e=>Heap.get?_push_of_some _ e) (Nat.le_refl _) ?_,rfl,q _ hf⟩
  exact ⟨z,us,r,⟨_,Heap.get?_push_size _ rfl,rfl,rfl,_,rfl⟩⟩
theorem zm4 (h:PA X es t):PE X (.List es pos) (tLst t):=by
  intro pins s σ H Q I hq
  refine wpAny_List_spliced (thn (h pos pins s σ H _ I hq) fun us s1 ⟨xs,H1,I1,r,z,q⟩=>⟨by rw [← r.length];exact z, ?_⟩)
  have hf:H1 s1.heap.objs.size=none:=I1.hok.fresh (Nat.le_refl _)
  refine ⟨.ref s1.heap.objs.size,upd H1 s1.heap.objs.size (.lst xs),I1.laid (t':=s1.toks) (fun b u e=>Heap.get?_push_of_some _ e) (Nat.le_refl _) ?_,rfl,q _ hf⟩
  exact ⟨z,us,0,r,Heap.get?_push_size _ rfl⟩
end
abbrev Sp:=List V→Hp→VK→XK→Prop
abbrev CXT:=List Env→Hp→Shared→XK→Value→Shared→Prop
structure Env0 (P:Program) (w:World) (K:PySem.W.Frag) (mg:Str→Option Value) (base:Heap) (A:Around) (outer:List Env) (s:Shared) (H:Hp):Prop where
  frames:A.frames=some outer
  mod:Mod K mg base
  bs:∀ b o,base.get? b=some o→s.heap.get? b=some o∧H b=none
  bsz:base.objs.size≤s.heap.objs.size
  funs:s.heap.FunFrames base outer
  frf:∀ b∈frs outer,H b=none
  hok:HOk P w H s.heap
  bare:AllBare s.gens
def CE (outer:List Env) (P:Program) (w:World) (H:Hp) (s:Shared) (Q:VK) (u:Value) (s':Shared):Prop:=
  ∃ v H',s'.os=s.os∧AllBare s'.gens∧Un (frs outer) [] H H' s.heap s'.heap∧HOk P w H' s'.heap∧RelV v u∧Q v H'
def CR (CX:CXT) (outer:List Env) (P:Program) (w:World) (H:Hp) (s:Shared) (Q:VK) (E:XK) (r:Result) (s':Shared):Prop:=
  match r with
  | .ok (.ret u)=>CE outer P w H s Q u s'
  | .ok _=>False
  | .error e=>CX outer H s E e s'
structure FnOk (P:Program) (w:World) (K:PySem.W.Frag) (mg:Str→Option Value) (base:Heap) (CX:CXT) (k:Nat) (f:Addr) (fd:FuncData) (ps:List Str) (sp:Sp):Prop where
  len:∀ vs H Q E,sp vs H Q E→vs.length=ps.length
  run:∀ (A:Around) (outer:List Env) (s:Shared) (H:Hp) (args:Args) (us:List Value) (vs:List V) (Q:VK) (E:XK),Room k A→Env0 P w K mg base A outer s H→BindsTo s fd args (ps.zip us)→Vals vs us→sp vs H Q E→
    codeAny (model P w) A (.call (.ref f) args) (CR CX outer P w H s Q E) s
theorem FnOk.mono {P:Program} {w:World} {K:PySem.W.Frag} {mg:Str→Option Value} {base:Heap} {CX:CXT} {j k:Nat} {f:Addr} {fd:FuncData} {ps:List Str} {sp:Sp} (F:FnOk P w K mg base CX j f fd ps sp) (h:j≤k):
    FnOk P w K mg base CX k f fd ps sp:=⟨F.len,fun A outer s H args us vs Q E hr=>F.run A outer s H args us vs Q E (hr.mono h)⟩
section
variable {X:Cx} {pins:List (Addr×Obj)} {σ:St} {H:Hp} {s s':Shared}
theorem Inv.env0 (I:Inv X pins σ H s):Env0 X.prog X.w X.K X.mg X.base X.A X.stack s H:=
  ⟨I.ok.frames,I.ok.mod,I.bs,Nat.le_trans I.ok.bsz I.sz,I.stack,I.stkFree,I.hok,I.bare⟩
theorem Inv.after {Q:VK} {u:Value} (I:Inv X pins σ H s) (h:CE X.stack X.prog X.w H s Q u s'):EP X pins σ Q u s':=by
  obtain ⟨v,H',os,bare,un,hok,r,q⟩:=h
  obtain ⟨hh,g,d,t,os'⟩:=s'
  obtain rfl:os'=s.os:=os
  exact ⟨v,H',I.call (h':=hh) (g':=g) (d':=d) (t':=t) (ch:=[]) un hok bare (fun b z=>absurd z (by simp)),r,q⟩
end
def zow (sp:Sp) (dvs:List V) (E:XK) (t:TA):TE:=fun σ H Q=>t σ H fun vs H1=>sp (vs++dvs) H1 Q E
def Binds (K:PySem.W.Frag) (fd:FuncData) (ps:List Str) (ds:List Value):Prop:=
  ∀ (s:Shared) (us:List Value),K.In s.heap→(us++ds).length=ps.length→BindsTo s fd ⟨us,[]⟩ (ps.zip (us++ds))
theorem Binds.all {K:PySem.W.Frag} {fd:FuncData} {ps:List Str} (h:∀ us:List Value,us.length=ps.length→bindArgs fd ⟨us,[]⟩=pure (ps.zip us)):Binds K fd ps []:=fun s us _ hl=>by
  rw [List.append_nil] at hl ⊢
  exact .of_eq (h us hl)
def zbs (CX:CXT) (X:Cx) (E:XK):Prop:=∀ (pins:List (Addr×Obj)) (σ:St) (H:Hp) (s:Shared) (e:Value) (s':Shared),Inv X pins σ H s→CX X.stack H s E e s'→X.xe e s'
section
variable {X:Cx} {CX:CXT} {k:Nat} {f C:Addr} {fd:FuncData} {ps:List Str} {sp:Sp} {dvs:List V} {ds:List Value} {E:XK} {x m:Str} {p pos apos:Pos} {e o:Expr} {es:List Expr} {ta:TE} {t:TA}
theorem zm5 {pins:List (Addr×Obj)} {σ:St} {H:Hp} {s:Shared} {Q:VK} {us:List Value} {vs:List V} (F:FnOk X.prog X.w X.K X.mg X.base CX k f fd ps sp) (hr:Room k X.A) (hb:Binds X.K fd ps ds) (hd:Vals dvs ds) (hx:zbs CX X E)
    (I:Inv X pins σ H s) (r:Vals vs us) (h:sp (vs++dvs) H Q E):wpAny (model X.prog X.w) X.A (call (.ref f) us) (EP X pins σ Q) X.xe s:=by
  have r2:Vals (vs++dvs) (us++ds):=r.append hd
  have hl:(us++ds).length=ps.length:=by rw [← r2.length];exact F.len _ _ _ _ h
  refine wpAny_call (codeAny_mono (F.run X.A X.stack s H ⟨us,[]⟩ (us++ds) (vs++dvs) Q E hr I.env0 (hb s us I.kIn hl) r2 h) fun r s' hq=>?_)
  cases r with
  | error e=>exact hx pins σ H s e s' I hq
  | ok fl=>
    cases fl with
    | ret u=>exact I.after hq
    | next=>exact False.elim hq
    | brk=>exact False.elim hq
    | cont=>exact False.elim hq
theorem ziz (F:FnOk X.prog X.w X.K X.mg X.base CX k f fd ps sp) (hr:Room k X.A) (hg:Gl X x) (hm:X.mg x=some (.ref f)) (hk:PySem.W.keepIn X.K (.ref f)=true) (hb:Binds X.K fd ps ds) (hd:Vals dvs ds) (hx:zbs CX X E)
    (ha:PA X (e::es) t) (hdb:(x==("__debug__" : Str))=false:=by decide) (he:starEach (e::es) X.env=(false,eval e X.env)::starEach es X.env:=by rfl) (hpl:(backTo pos (starEach es X.env)).any (·.1)=false:=by rfl):
    PE X (.Call (.Name x p) (e::es) [] pos) (zow sp dvs E t):=by
  intro pins s σ H Q I h
  refine wpAny_Call_Name_kw (z4b I hg hm ?_ hdb)
  refine PySem.W.callWith_K (h₀:=X.base) I.ok.mod.kin hk (thn (ha pos pins s σ H _ I h) fun us s1 ⟨vs,H1,I1,r,q⟩=>⟨I1.kIn, ?_⟩) he hpl
  exact zm5 F hr hb hd hx I1 r q
end
section
variable {X:Cx} {CX:CXT} {k:Nat} {f C:Addr} {fd:FuncData} {ps ks:List Str} {sp:Sp} {E:XK} {x m:Str} {p pos apos kpos:Pos} {e o:Expr} {es:List Expr} {kws:List Keyword} {te ta:TE} {t tk:TA} {nm:Option Str}
variable {g:List Value→List Value→List Value} {gV:List V→List V→List V}
end
structure FnScope (N P:List Str) (sc:Scope):Prop where
  kind:sc.kind=.function
  co:sc.isCoroutine=false
  gen:sc.isGenerator=false
  nd:N.Nodup
  pre:N.take P.length=P
  par:∀ x∈P,sc.names.lookup x=some .local∨sc.names.lookup x=some .cell
  nofree:∀ y∈sc.names,y.2≠.free
theorem z74 {kindOf:Str→Option NameKind} {x:Str}:∀ {binds:List (Str×Value)} {m:Str→Option Value},(∀ v,(x,v)∉binds)→bindL kindOf binds m x=m x
  | [],_,_=>rfl
  | (n,v)::r,m,h=>by
    unfold bindL
    rw [z74 fun w hw=>h w (List.mem_cons_of_mem _ hw)]
    split
    · have:x≠n:=by rintro rfl;exact h v List.mem_cons_self
      simp [this]
    · rfl
theorem z75 {kindOf:Str→Option NameKind} {x:Str}:∀ {binds:List (Str×Value)} {m:Str→Option Value},(∀ v,(x,v)∉binds)→bindC kindOf binds m x=m x
  | [],_,_=>rfl
  | (n,v)::r,m,h=>by
    unfold bindC
    rw [z75 fun w hw=>h w (List.mem_cons_of_mem _ hw)]
    split
    · rfl
    · have:x≠n:=by rintro rfl;exact h v List.mem_cons_self
      simp [this]
theorem z76 {kindOf:Str→Option NameKind} {x:Str} {v:Value}:∀ {P:List Str} {vs:List Value} {i:Nat} {m:Str→Option Value},P.Nodup→P[i]?=some x→vs[i]?=some v→kindOf x=some .local→
    bindL kindOf (P.zip vs) m x=some v
  | [],_,_,_,_,h,_,_=>by simp at h
  | _::_,[],_,_,_,_,h,_=>by simp at h
  | p::P,w::vs,0,m,nd,h1,h2,hk=>by
    simp at h1 h2;subst h1;subst h2
    show bindL kindOf ((p,w)::P.zip vs) m p=_
    unfold bindL
    rw [z74 fun v hv=>(List.nodup_cons.mp nd).1 (List.of_mem_zip hv).1,if_pos hk]
    simp
  | p::P,w::vs,i+1,m,nd,h1,h2,hk=>by
    show bindL kindOf ((p,w)::P.zip vs) m x=_
    unfold bindL
    exact z76 (i:=i) (List.nodup_cons.mp nd).2 (by simpa using h1) (by simpa using h2) hk
theorem z77 {kindOf:Str→Option NameKind} {x:Str} {v:Value}:∀ {P:List Str} {vs:List Value} {i:Nat} {m:Str→Option Value},P.Nodup→P[i]?=some x→vs[i]?=some v→kindOf x≠some .local→
    bindC kindOf (P.zip vs) m x=some v
  | [],_,_,_,_,h,_,_=>by simp at h
  | _::_,[],_,_,_,_,h,_=>by simp at h
  | p::P,w::vs,0,m,nd,h1,h2,hk=>by
    simp at h1 h2;subst h1;subst h2
    show bindC kindOf ((p,w)::P.zip vs) m p=_
    unfold bindC
    rw [z75 fun v hv=>(List.nodup_cons.mp nd).1 (List.of_mem_zip hv).1,if_neg hk]
    simp
  | p::P,w::vs,i+1,m,nd,h1,h2,hk=>by
    show bindC kindOf ((p,w)::P.zip vs) m x=_
    unfold bindC
    exact z77 (i:=i) (List.nodup_cons.mp nd).2 (by simpa using h1) (by simpa using h2) hk
def start (N:List Str) (vs:List V):St:=vs.map some++List.replicate (N.length - vs.length) none
def cxOf (CX:CXT) (P:Program) (w:World) (K:PySem.W.Frag) (mg:Str→Option Value) (base:Heap) (N:List Str) (qual:Str) (scope:Scope) (f:Addr) (cd:Value) (A:Around) (outer:List Env) (s:Shared) (H:Hp) (E:XK):Cx where
  prog:=P
  w:=w
  K:=K
  mg:=mg
  base:=base
  A:=A.deeper (envOfC qual scope s.heap.objs.size f cd)
  N:=N
  s₀:=s
  H₀:=H
  env:=envOfC qual scope s.heap.objs.size f cd
  outer:=outer
  stack:=envOfC qual scope s.heap.objs.size f cd::outer
  ex:=[]
  calm:=true
  fn:=fun _=>true
  pn:=[]
  xe:=fun e s'=>wpAny (model P w) (A.deeper (envOfC qual scope s.heap.objs.size f cd)) (leaving (envOfC qual scope s.heap.objs.size f cd) e) (fun _ s''=>CX outer H s E e s'') (fun e' s''=>CX outer H s E e' s'') s'
theorem z9e {sc:Scope} {n:Nat} {x:Str} (h:sc.names.lookup x=some .cell):∃ c,(cellsFrom n sc.names []).lookup x=some c:=by
  have q:=PySem.W.cellsFrom_some sc.names n [] (.inl h)
  exact Option.isSome_iff_exists.mp q
theorem zbt {CX:CXT} {P:Program} {w:World} {K:PySem.W.Frag} {mg:Str→Option Value} {base:Heap} {N ps:List Str} {qual:Str} {scope:Scope} {f:Addr} {cd:Value} {A:Around} {outer:List Env} {s s1:Shared} {H:Hp} {E:XK} {us:List Value} {vs:List V}
    (S:FnScope N ps scope) (hd:A.handled=none) (e0:Env0 P w K mg base A outer s H) (hl:vs.length=ps.length) (r:Vals vs us)
    (x:InCallC s s.heap.objs.size (bindL (envOfC qual scope s.heap.objs.size f cd).kindOf (ps.zip us) fun _=>none) (cellsFrom (s.heap.objs.size+1) scope.names []) (bindC (envOfC qual scope s.heap.objs.size f cd).kindOf (ps.zip us) fun _=>none) s1):
    Inv (cxOf CX P w K mg base N qual scope f cd A outer s H E) [] (start N vs) H s1:=by
  have hpl:ps.length≤N.length:=by have:=congrArg List.length S.pre;rw [List.length_take] at this;omega
  obtain ⟨h1,tk,rfl,hk⟩:=x.done
  have noA:∀ b:Addr,b∉(cxOf CX P w K mg base N qual scope f cd A outer s H E).ex:=fun b z=>absurd (show b∈([]:List Addr) from z) (by simp)
  refine ⟨⟨e0.mod,S.kind,rfl,rfl,Nat.le_refl _,fun y z c h1 h2=>?_,fun y hy=>?_,fun y c _ h=>?_,fun _=>hd,Around.frames_deeper e0.frames,.inr ⟨rfl,rfl⟩,fun b z=>absurd z (noA b),e0.bs,e0.bsz,fun b _ _=>noA b,fun b z=>absurd z (noA b),e0.funs,e0.frf⟩,
    rfl,e0.bare,Un.kept hk,⟨_,x.toInCall.ns,fun i y v h1 h2 h3=>?_⟩,fun y c h=>⟨_,x.cell y c h⟩,e0.hok.fresh (Nat.le_refl _),fun y c h=>?_,fun p hp=>absurd (show p∈([]:List (Addr×Obj)) from hp) (by simp),e0.hok.kept hk, ?_⟩
  · exact name_of_addr x.apart (PySem.mem_of_lookup h1) (PySem.mem_of_lookup h2)
  · have hy:scope.names.lookup y=some .cell∨scope.names.lookup y=some .free:=hy
    rcases hy with hy | hy
    · exact z9e hy
    · exact absurd rfl (S.nofree _ (PySem.mem_of_lookup hy))
  · exact Nat.le_of_lt (x.above y c (PySem.mem_of_lookup h))
  · have hi:i<vs.length:=by
      unfold start at h2
      by_cases hi:i<vs.length
      · exact hi
      · rw [List.getElem?_append_right (by simpa using hi)] at h2
        rw [List.getElem?_replicate] at h2
        split at h2 <;> cases h2
    have ha:vs[i]?=some v:=by
      unfold start at h2
      rw [List.getElem?_append_left (by simpa using hi),List.getElem?_map] at h2
      cases e:vs[i]? with
      | none=>rw [e] at h2;cases h2
      | some a=>rw [e] at h2;cases h2;rfl
    obtain ⟨u,hu,rv⟩:=r.get ha
    have hp:ps[i]?=some y:=by
      rw [← S.pre,List.getElem?_take_of_lt (by omega)];exact h1
    have ndP:ps.Nodup:=by rw [← S.pre];exact S.nd.sublist (List.take_sublist _ _)
    refine ⟨u,rv, ?_⟩
    rcases S.par y (List.mem_of_getElem? hp) with k | k
    · exact .inl ⟨k,z76 ndP hp hu k⟩
    · obtain ⟨c,e⟩:=z9e (n:=s.heap.objs.size+1) k
      refine .inr ⟨.inl k,c,e, ?_⟩
      have q:=x.cell y c e
      rw [z77 ndP hp hu (by show scope.names.lookup y≠_;rw [k];decide)] at q
      exact q
  · exact e0.hok.fresh (Nat.le_of_lt (x.above y c (PySem.mem_of_lookup h)))
  · unfold start
    show _=N.length
    rw [List.length_append,List.length_map,List.length_replicate]
    omega
theorem zez {CX:CXT} {P:Program} {w:World} {K:PySem.W.Frag} {mg:Str→Option Value} {base:Heap} {k:Nat} {f:Addr} {name qual:Str} {params:Arguments} {body:List Stmt} {scope:Scope} {dV kV doc pm cdv ct oc:Value} {an od:Option Addr}
    {osl:Array (Option Value)} {N ps:List Str} {sp:Sp} (lk:K.lookup f=some ⟨oc,od,.func (PySem.W.fnOf name qual params body scope dV kV doc pm an cdv ct),osl⟩) (hcd:PySem.W.codeIn K cdv qual=true) (S:FnScope N ps scope)
    (len:∀ vs H Q E,sp vs H Q E→vs.length=ps.length)
    (hbody:∀ (A:Around) (outer:List Env) (s:Shared) (H:Hp) (vs:List V) (Q:VK) (E:XK),Room k (A.deeper (envOfC qual scope s.heap.objs.size f cdv))→sp vs H Q E→
      ∃ t,PSs (cxOf CX P w K mg base N qual scope f cdv A outer s H E) body t∧t { nx:=fun _ H'=>Q .non H',rt:=Q } (start N vs) H):
    FnOk P w K mg base CX (k+1) f (PySem.W.fnOf name qual params body scope dV kV doc pm an cdv ct) ps sp:=by
  refine ⟨len,fun A outer s H args us vs Q E hr e0 hb r hsp=>?_⟩
  have hl:=len _ _ _ _ hsp
  have KX:K.In s.heap:=e0.mod.kin.keeps fun b o e=>(e0.bs b o e).1
  have lim:s.heap.NoLimit:=e0.mod.nolimit.keeps fun b o e=>(e0.bs b o e).1
  have hkind:∀ y∈ps.zip us,scope.names.lookup y.1=some .local∨(scope.names.lookup y.1=some .cell∧((cellsFrom (s.heap.objs.size+1) scope.names []).lookup y.1).isSome=true):=fun ⟨n,v⟩ hy=>by
    rcases S.par n (List.of_mem_zip hy).1 with q | q
    · exact .inl q
    · exact .inr ⟨q,PySem.W.cellsFrom_some _ _ _ (.inl q)⟩
  refine codeAny_call_function hr.depth (KX _ _ lk) rfl S.co S.gen rfl (PySem.W.codeRec_of KX hcd) (hb _ _ _ _ ?_)
  refine wpAny_newFunctionEnv_cells S.kind hkind fun env he s1 x=>?_
  subst he
  refine ⟨lim.keeps x.toInCall.keep,codeAny_func ?_⟩
  obtain ⟨t,ht,hq⟩:=hbody A outer s H vs Q E (hr.deeper _) hsp
  have I:Inv (cxOf CX P w K mg base N qual scope f cdv A outer s H E) [] (start N vs) H s1:=zbt S hr.hd e0 hl r x
  refine wpAny_mono (ht [] s1 (start N vs) H _ I hq) (fun fl s' hs=>?_) fun e s' hs=>hs
  have fin:∀ {σ':St} {H':Hp} {v:V} {u:Value},Inv (cxOf CX P w K mg base N qual scope f cdv A outer s H E) [] σ' H' s'→RelV v u→Q v H'→CE outer P w H s Q u s':=
    fun {σ' H' v u} J rv q=>⟨v,H',J.os,J.bare,J.base,J.hok,rv,q⟩
  cases fl with
  | ret u=>
    obtain ⟨v,σ',H',J,rv,q⟩:=hs
    exact fin J rv q
  | next=>
    obtain ⟨σ',H',J,q⟩:=hs
    exact fin (v:=V.non) (u:=Value.none) J rfl q
  | brk=>
    obtain ⟨_,_,_,q⟩:=hs
    exact False.elim q
  | cont=>
    obtain ⟨_,_,_,q⟩:=hs
    exact False.elim q
section
variable {X:Cx} {x:Str} {p pos:Pos} {e:Expr} {es:List Expr} {t:TA} {id T:String} {r:List V→Hp→VK→Prop}
def tCB (r:List V→Hp→VK→Prop) (t:TA):TE:=fun σ H Q=>t σ H fun vs H1=>r vs H1 Q
theorem z35 (hc:CallR X (.builtin id) r) (hg:Gl X x) (hm:X.mg x=none) (hv:bootBuiltins x=some (.builtin id)) (ha:PA X (e::es) t) (hn:x ≠ "__name__" := by decide) (hdb:(x==("__debug__" : Str))=false:=by decide)
    (he:starEach (e::es) X.env=(false,eval e X.env)::starEach es X.env:=by rfl) (hpl:(backTo pos (starEach es X.env)).any (·.1)=false:=by rfl):PE X (.Call (.Name x p) (e::es) [] pos) (tCB r t):=by
  intro pins s σ H Q I h
  refine wpAny_Call_Name_kw (z5h I hg hm hv ?_ hn hdb)
  exact PyProof.Rows.callWith_builtin1 (thn (ha pos pins s σ H _ I h) fun us s1 ⟨vs,H1,I1,r1,q1⟩=>hc pins s1 σ H1 vs us Q I1 r1 q1) he hpl
theorem z2o (hc:CallR X (.type T) r) (hg:Gl X x) (hm:X.mg x=none) (hv:bootBuiltins x=some (.type T)) (ha:PA X (e::es) t) (hn:x ≠ "__name__" := by decide) (hdb:(x==("__debug__" : Str))=false:=by decide)
    (he:starEach (e::es) X.env=(false,eval e X.env)::starEach es X.env:=by rfl) (hpl:(backTo pos (starEach es X.env)).any (·.1)=false:=by rfl):PE X (.Call (.Name x p) (e::es) [] pos) (tCB r t):=by
  intro pins s σ H Q I h
  refine wpAny_Call_Name_kw (z5h I hg hm hv ?_ hn hdb)
  exact PyProof.Rows.callWith_type1 (thn (ha pos pins s σ H _ I h) fun us s1 ⟨vs,H1,I1,r1,q1⟩=>hc pins s1 σ H1 vs us Q I1 r1 q1) he hpl
end
end L2
namespace HT
open PySem PyProof.Rows
def lexLt:List Int→List Int→Bool
  | [],[]=>false
  | [],_::_=>true
  | _::_,[]=>false
  | x::xs,y::ys=>if x=y then lexLt xs ys else decide (x<y)
theorem lexLt_cons (x y:Int) (xs ys:List Int):lexLt (x::xs) (y::ys)=if x=y then lexLt xs ys else decide (x<y):=rfl
theorem z67:lexLt [] []=false:=rfl
theorem z5e (y:Int) (ys:List Int):lexLt [] (y::ys)=true:=rfl
theorem z5f (x:Int) (xs:List Int):lexLt (x::xs) []=false:=rfl
theorem zf0 (A:Around) (s:Shared) (a:Int) (t:Tok) (c:Int) (u:Tok):∃ e,SeqAt.EqAt A s (.int a t) (.int c u) e∧(e=true↔a=c):=
  ⟨(a==c),SeqAt.EqAt.int_int a t c u,by simp⟩
theorem zf1 (A:Around) (s:Shared) (a:Int) (t:Tok) (c:Int) (u:Tok) (prog:Program) (w:World) (E:Value→Shared→Prop) (Q:Value→Shared→Prop) (h:Q (.bool (decide (a<c))) s):
    wpAny (model prog w) A (richCompare .Lt (.int a t) (.int c u)) Q E s:=
  (PyProof.Rows.lt_int h:wpAny (model prog w) A (compareOp .Lt (.int a t) (.int c u)) Q E s)
section
open PySem.SeqAt
open PySem.AutoSeq1 (wpAny_loadPart')
open PySem.MeetsSeq PySem.MeetsSeq2 PySem.MeetsSeq3
theorem z68 (l b:Addr) (items items2:Array Value) (n n2:Nat) (dd dd2:Option Addr) (sl sl2:Array (Option Value)) (ns ms:List Int) (hi:IntsAre items.toList ns) (hj:IntsAre items2.toList ms):
    Meets (Builtin.«tuple.__lt__» ⟨[.ref l,.ref b],[]⟩)
      (fun _ R s=>s.heap.get? l=some { cls:=.type "tuple",dict:=dd,data:=.seq items n,slots:=sl }∧s.heap.get? b=some { cls:=.type "tuple",dict:=dd2,data:=.seq items2 n2,slots:=sl2 } ∧
        R (.ok (.ret (.bool (lexLt ns ms)))) s):=
  .of_wp fun prog w A R s h=>by
    obtain ⟨hp,g,d,tk,os⟩:=s;obtain ⟨hl,hb,h⟩:=h
    have f2:=AutoSeq1.sub_tuple_tuple
    have z1:items.size=ns.length:=by rw [← hi.length];simp
    have z2:items2.size=ms.length:=by rw [← hj.length];simp
    wp_walk using wpAny_loadPart' hl,wpAny_loadPart' hb,wpAny_forIn_list _ (fun rest b s'=>b.1=none∧s'=⟨hp,g,d,tk,os⟩∧∃ (vs ws:List Value) (ns' ms':List Int),rest=vs.zip ws ∧
      IntsAre vs ns'∧IntsAre ws ms'∧ns'.length+items2.size=ms'.length+items.size∧R (.ok (.ret (.bool (lexLt ns' ms')))) ⟨hp,g,d,tk,os⟩) _
    case turn=>
      rintro ⟨y,x⟩ rest b s' ⟨hb',rfl,vs,ws,ns',ms',hz,hvi,hwi,hlen,hR⟩
      cases hvi with
      | nil=>rw [List.zip_nil_left] at hz;cases hz
      | cons a t hvi'=>
        cases hwi with
        | nil=>rw [List.zip_nil_right] at hz;cases hz
        | cons c u hwi'=>
          rw [List.zip_cons_cons] at hz
          injection hz with hyx hrest
          injection hyx with hy hx
          subst hy hx
          rw [lexLt_cons] at hR
          simp only [List.length_cons] at hlen
          obtain ⟨e,he,hiff⟩:=zf0 A.in1 ⟨hp,g,d,tk,os⟩ a t c u
          refine wpAny_bind (he prog w _ _ ?_)
          cases e with
          | true=>
            rw [if_pos (hiff.mp rfl)] at hR
            wp_walk
            exact ⟨rfl,rfl,_,_,_,_,hrest,hvi',hwi',by omega,hR⟩
          | false=>
            rw [if_neg (fun q=>absurd (hiff.mpr q) Bool.false_ne_true)] at hR
            have hri:=zf1 A.in1 ⟨hp,g,d,tk,os⟩ a t c u prog w
            wp_walk using hri
            exact ⟨_,rfl,by simpa using hR⟩
    case fin=>
      rintro ⟨b1,b2⟩ s' ⟨hb',rfl,vs,ws,ns',ms',hz,hvi,hwi,hlen,hR⟩
      simp only at hb'
      subst hb'
      have hv:lexLt ns' ms'=decide (items.size<items2.size):=by
        cases hvi with
        | nil=>
          cases hwi with
          | nil=>
            simp only [List.length_nil] at hlen
            rw [z67]
            exact (decide_eq_false (by omega)).symm
          | cons c u hw=>
            simp only [List.length_nil,List.length_cons] at hlen
            rw [z5e]
            exact (decide_eq_true (by omega)).symm
        | cons a t hv=>
          cases hwi with
          | nil=>
            simp only [List.length_nil,List.length_cons] at hlen
            rw [z5f]
            exact (decide_eq_false (by omega)).symm
          | cons c u hw=>
            rw [List.zip_cons_cons] at hz
            cases hz
      rw [hv] at hR
      wp_walk
      exact ⟨_,rfl,by simpa [Builtin.Tuple.tupleCompareSizes] using hR⟩
    case h=>
      exact ⟨rfl,rfl,items.toList,items2.toList,ns,ms,rfl,hi,hj,by omega,h⟩
end
section
variable {prog:Program} {w:World} {A:Around} {E:Value→Shared→Prop} {s:Shared}
theorem lt_tupInts {l b:Addr} {items items2:Array Value} {ns ms:List Int} {Q:Value→Shared→Prop} (hl:IsTup s.heap l items) (hb:IsTup s.heap b items2) (hi:IntsAre items.toList ns) (hj:IntsAre items2.toList ms)
    (hu:A.units<cLine) (h:Q (.bool (lexLt ns ms)) s):wpAny (model prog w) A (compareOp .Lt (.ref l) (.ref b)) Q E s:=by
  obtain ⟨⟨cls,dd,data,sl⟩,ho,hc,n,hd⟩:=id hl
  obtain ⟨⟨cls2,dd2,data2,sl2⟩,ho2,hc2,n2,hd2⟩:=id hb
  simp only at hc hd hc2 hd2
  subst hc hd hc2 hd2
  exact richCompare_meets_room (op:=.Lt) ⟨_,ho,rfl⟩ ⟨_,ho2,rfl⟩ PySem.F.slot_tuple_lt PySem.F.entry_tuple_lt (PySem.F.args_tuple_lt_2 _ _) (z68 l b items items2 n n2 dd dd2 sl sl2 ns ms hi hj)
    ⟨ho,ho2,show Value.bool (lexLt ns ms)≠Value.notImplemented∧Q (.bool (lexLt ns ms)) s from ⟨(fun x=>nomatch x),h⟩⟩ hu
theorem cat_tup {t b:Addr} {vs ws:List Value} {Q:Value→Shared→Prop} (ht:IsTup s.heap t vs.toArray) (hb:IsTup s.heap b ws.toArray) (hv:vs≠[])
    (h1:ws=[]→Q (.ref t) s) (h2:ws≠[]→Q (.ref s.heap.objs.size) { s with heap:=s.heap.push { cls:=.type "tuple",data:=.seq (vs++ws).toArray } })
    (hsz:vs.length+ws.length≤sizeLine):wpAny (model prog w) A (binaryOp .Add (.ref t) (.ref b)) Q E s:=by
  obtain ⟨⟨cls,dd,data,sl⟩,ho,hc,n,hd⟩:=id ht
  obtain ⟨⟨cls2,dd2,data2,sl2⟩,ho2,hc2,n2,hd2⟩:=id hb
  simp only at hc hd hc2 hd2
  subst hc hd hc2 hd2
  have e:vs.toArray++ws.toArray=(vs++ws).toArray:=by simp
  by_cases hw:ws=[]
  · exact concat_meets ⟨_,ho,rfl⟩ ⟨_,ho2,rfl⟩ noFill_tuple_add seq_tuple_add PySem.F.slot_tuple_add PySem.F.entry_tuple_add (PySem.F.args_tuple_add_2 _ _)
      (tuple_addW1 t b vs.toArray ws.toArray n n2 dd dd2 sl sl2 (by simpa using hv) (by simp [hw])) ⟨ho,ho2,h1 hw⟩
  · refine concat_meets ⟨_,ho,rfl⟩ ⟨_,ho2,rfl⟩ noFill_tuple_add seq_tuple_add PySem.F.slot_tuple_add PySem.F.entry_tuple_add (PySem.F.args_tuple_add_2 _ _)
      (tuple_addW2 t b vs.toArray ws.toArray n n2 dd dd2 sl sl2 (by simpa using hv) (by simpa using hw) (by rw [List.size_toArray,List.size_toArray];exact hsz)) ⟨ho,ho2, ?_⟩
    rw [e]
    exact h2 hw
def sIx (n d:Nat):Option Int→Nat
  | none=>d
  | some v=>if v<0 then (v+(n:Int)).toNat else min v.toNat n
theorem sIx_none (n d:Nat):sIx n d none=d:=rfl
theorem sIx_nat (n d k:Nat):sIx n d (some (k:Int))=min k n:=by
  show (if (k:Int)<0 then ((k:Int)+(n:Int)).toNat else min (k:Int).toNat n)=min k n
  rw [if_neg (by omega),Int.toNat_natCast]
theorem zm6 (n d:Nat) (hd:d≤n) (o:Option Int):sIx n d o≤n:=by
  cases o with
  | none=>exact hd
  | some v=>
    show (if v<0 then (v+(n:Int)).toNat else min v.toNat n)≤n
    by_cases hv:v<0
    · rw [if_pos hv];omega
    · rw [if_neg hv];exact Nat.min_le_right _ _
theorem zbu (v:Int) (n d:Nat):(if v<0 then max (v+(n:Int)) 0 else min v (n:Int))=((sIx n d (some v):Nat):Int):=by
  show (if v<0 then max (v+(n:Int)) 0 else min v (n:Int))=(((if v<0 then (v+(n:Int)).toNat else min v.toNat n):Nat):Int)
  by_cases hv:v<0
  · simp only [if_pos hv];omega
  · simp only [if_neg hv];omega
theorem zar (lo hi:Option Int) (n:Nat):Builtin.Slice.sliceAdjust lo hi 1 (n:Int)=(((sIx n 0 lo:Nat):Int),((sIx n n hi:Nat):Int)):=by
  have h1:¬ ((1:Int)<0):=by omega
  unfold Builtin.Slice.sliceAdjust
  simp only [h1,if_false]
  refine Prod.ext ?_ ?_
  · cases lo with
    | none=>rfl
    | some v=>exact zbu v n 0
  · cases hi with
    | none=>rfl
    | some v=>exact zbu v n n
theorem zas (i j:Nat):Builtin.Slice.slicePlaces (i:Int) (j:Int) 1=j - i:=by
  unfold Builtin.Slice.slicePlaces
  have h1:(1:Int)>0:=by omega
  simp only [h1,if_true,Int.ediv_one]
  split <;> omega
theorem z5k {v:Value} {o:Option Int} {Q:Option Int→Shared→Prop} (p:IsPart v o) (h:Q o s):wpAny (model prog w) A (Builtin.Slice.slicePartIndex v) Q E s:=by
  cases p with
  | none=>exact slicePart_none h
  | int i t=>exact slicePart_int h
theorem sliceApplied_gen {sl:Addr} {vl vu:Value} {lo hi:Option Int} {n:Nat} {Q:Int×Int×Nat→Shared→Prop} (hs:s.heap.IsSliceOf sl vl vu .none) (pl:IsPart vl lo) (pu:IsPart vu hi)
    (h:Q (((sIx n 0 lo:Nat):Int),1,sIx n n hi - sIx n 0 lo) s):wpAny (model prog w) A (Builtin.Slice.sliceApplied (.ref sl) (pure (n:Int))) Q E s:=by
  obtain ⟨os,hos,hcs,hds⟩:=id hs
  unfold Builtin.Slice.sliceApplied Builtin.Slice.sliceFields
  refine wpAny_bind (wpAny_bind (wpAny_field hos hds (x:=vl) rfl (wpAny_bind (wpAny_field hos hds (x:=vu) rfl (wpAny_bind (wpAny_field hos hds (x:=.none) rfl (wpAny_pure ?_)))))))
  refine wpAny_bind (slicePart_none ?_)
  show wpAny _ _ (if ((1:Int)==0)=true then _ else _) _ _ s
  rw [if_neg (by decide)]
  refine wpAny_bind (z5k pl (wpAny_bind (z5k pu (wpAny_bind (wpAny_pure ?_)))))
  show wpAny _ _ (match Builtin.Slice.sliceAdjust lo hi 1 (n:Int) with | (lo,hi)=>pure (lo,(1:Int),Builtin.Slice.slicePlaces lo hi 1)) _ _ s
  rw [zar lo hi n]
  show wpAny _ _ (pure (((sIx n 0 lo:Nat):Int),(1:Int),Builtin.Slice.slicePlaces ((sIx n 0 lo:Nat):Int) ((sIx n n hi:Nat):Int) 1)) _ _ s
  rw [zas]
  exact wpAny_pure h
theorem zf2 (xs:Array Value) (i k:Nat):((List.range k).filterMap fun (m:Nat)=>xs[((i:Int)+(m:Int)*1).toNat]?).toArray=((xs.toList.drop i).take k).toArray:=by
  have e:(fun (m:Nat)=>xs[((i:Int)+(m:Int)*1).toNat]?)=fun m=>xs[i+m]?:=by
    funext m
    have:((i:Int)+(m:Int)*1).toNat=i+m:=by omega
    rw [this]
  rw [e]
  have:=pick_run xs i k
  rw [List.filterMap_map] at this
  have e2:((fun x=>xs[x]?)∘fun x=>i+x)=fun m=>xs[i+m]?:=rfl
  rw [e2] at this
  rw [this]
theorem getItem_tuple_cut {t sl:Addr} {items:Array Value} {vl vu:Value} {lo hi:Option Int} {Q:Value→Shared→Prop} (ht:IsTup s.heap t items) (hs:s.heap.IsSliceOf sl vl vu .none) (pl:IsPart vl lo) (pu:IsPart vu hi)
    (hw:¬ (sIx items.size 0 lo=0∧sIx items.size items.size hi=items.size))
    (h:Q (.ref s.heap.objs.size) { s with heap:=s.heap.push { cls:=.type "tuple",data:=.seq ((items.toList.drop (sIx items.size 0 lo)).take (sIx items.size items.size hi - sIx items.size 0 lo)).toArray } })
    (hsz:items.size≤sizeLine):wpAny (model prog w) A (getItem (.ref t) (.ref sl)) Q E s:=by
  have htake:sizeOk (.seq ((items.toList.drop (sIx items.size 0 lo)).take (sIx items.size items.size hi - sIx items.size 0 lo)).toArray):=by
    show ((items.toList.drop (sIx items.size 0 lo)).take (sIx items.size items.size hi - sIx items.size 0 lo)).toArray.size≤sizeLine
    rw [List.size_toArray,List.length_take,List.length_drop,Array.length_toList]
    omega
  have hj:sIx items.size items.size hi≤items.size:=zm6 _ _ (Nat.le_refl _) hi
  obtain ⟨os,hos,hcs,hds⟩:=id hs
  have hTs:s.TypeIs (.ref sl) "slice" := ⟨os,hos,hcs⟩
  unfold getItem
  try with_reducible refine wpAny_holding ?_
  first | refine wpAny_bind (wpAny_pure ?_) | skip
  refine wpAny_bind (wpAny_sequenceKey ht.typeIs (by decide) ?_)
  refine wpAny_bind (wpAny_callSpecial?_slot (name:=Str.ofString "__getitem__") ht.typeIs PyProof.Rows.slot_tuple_getitem
    (wpAny_call_entry PyProof.Rows.slot_tuple_getitem ht.typeIs entry_tuple_getitem ?_ (args_tuple_getitem _ _)))
  show wpAny _ _ (Builtin.Tuple.tupleItemsOf (.ref t) >>= _) _ _ s
  refine wpAny_bind (tupleItemsOf_ ht ?_)
  refine wpAny_bind (wpAny_typeOf hTs ?_)
  rw [if_pos (by decide)]
  refine wpAny_bind (sliceApplied_gen hs pl pu ?_)
  have hno:¬ ((((sIx items.size 0 lo:Nat):Int)==0&&(1:Int)==1&&(sIx items.size items.size hi - sIx items.size 0 lo)==items.size)=true):=by
    intro q
    rw [Bool.and_eq_true,Bool.and_eq_true] at q
    have q1:((sIx items.size 0 lo:Nat):Int)=0:=eq_of_beq q.1.1
    have q2:sIx items.size items.size hi - sIx items.size 0 lo=items.size:=eq_of_beq q.2
    exact hw ⟨by omega,by omega⟩
  show wpAny _ _ (if (((sIx items.size 0 lo:Nat):Int)==0&&(1:Int)==1&&(sIx items.size items.size hi - sIx items.size 0 lo)==items.size)=true then _ else _) _ _ s
  rw [if_neg hno,zf2]
  first
    | exact wpAny_bind (m:=Builtin.Tuple.tupleExact _) (wpAny_newObj_type (wpAny_pure ⟨_,rfl,wpAny_pure h⟩) htake)
    | exact wpAny_bind (m:=Builtin.Tuple.tupleExact _) (wpAny_newObj_type (wpAny_bind (wpAny_pure (wpAny_pure ⟨_,rfl,wpAny_pure h⟩))) htake)
    | exact wpAny_bind (wpAny_bind (m:=Builtin.Tuple.tupleExact _) (wpAny_newObj_type (wpAny_pure (wpAny_pure ⟨_,rfl,wpAny_pure h⟩)) htake))
    | exact wpAny_bind (wpAny_bind (m:=Builtin.Tuple.tupleExact _) (wpAny_newObj_type (wpAny_pure ⟨_,rfl,wpAny_pure h⟩) htake))
end
end HT
namespace L2
open PySem PySem.Spec PyProof.Rows
abbrev TO:=St→Hp→(Option Int→Hp→Prop)→Prop
def PO (X:Cx) (e:Option Expr) (t:TO):Prop:=
  ∀ (pins:List (Addr×Obj)) (s:Shared) (σ:St) (H:Hp) (Q:Option Int→Hp→Prop),Inv X pins σ H s→t σ H Q→
    wpAny (model X.prog X.w) X.A (evalPart e X.env) (fun u s'=>∃ o H',Inv X pins σ H' s'∧IsPart u o∧Q o H') X.xe s
def zj0:TO:=fun _ H Q=>Q none H
def zox (t:TE):TO:=fun σ H Q=>t σ H fun x H1=>∃ i,x=.int i∧Q (some i) H1
theorem z5l {ns:List Int}:∀ {us:List Value},Vals (ns.map V.int) us→IntsAre us ns:=by
  induction ns with
  | nil=>intro us r;rw [List.map_nil] at r;cases r;exact .nil
  | cons n ns ih=>
    intro us r
    rw [List.map_cons] at r
    cases r with
    | cons r1 r2=>
      obtain ⟨t,e⟩:=r1
      subst e
      exact .cons n t (ih r2)
section
variable {X:Cx} {e:Expr} {te:TE} {lo hi:Option Expr} {tl th:TO} {pos p2:Pos}
theorem zj1:PO X none zj0:=by
  intro pins s σ H Q I h
  rw [evalPart_none]
  exact wpAny_pure ⟨none,H,I,.none,h⟩
theorem zj2 (h:PE X e te):PO X (some e) (zox te):=by
  intro pins s σ H Q I hw
  rw [evalPart_some]
  refine thn (h pins s σ H _ I hw) fun u s1 ⟨x,H1,I1,r1,q1⟩=>?_
  obtain ⟨i,rfl,q⟩:=q1
  obtain ⟨t,rfl⟩:=r1
  exact ⟨some i,H1,I1,.int i t,q⟩
def SlR (X:Cx) (r:V→Option Int→Option Int→Hp→VK→Prop):Prop:=
  ∀ (pins:List (Addr×Obj)) (s:Shared) (σ:St) (H:Hp) (x:V) (v vl vu:Value) (lo hi:Option Int) (sl:Addr) (Q:VK),Inv X pins σ H s→RelV x v→s.heap.IsSliceOf sl vl vu .none→IsPart vl lo→IsPart vu hi→r x lo hi H Q→
    ∃ T id,typeLookup (.type T) "__getitem__" = pure (some (.builtin id))∧s.TypeIs v T∧wpAny (model X.prog X.w) X.A (getItem v (.ref sl)) (EP X pins σ Q) X.xe s
theorem SlR.or {r r':V→Option Int→Option Int→Hp→VK→Prop} (h:SlR X r) (h':SlR X r'):SlR X (fun x lo hi H Q=>r x lo hi H Q∨r' x lo hi H Q):=by
  intro pins s σ H x v vl vu lo hi sl Q I rx hs pl pu q
  rcases q with q | q
  · exact h pins s σ H x v vl vu lo hi sl Q I rx hs pl pu q
  · exact h' pins s σ H x v vl vu lo hi sl Q I rx hs pl pu q
def tSl (r:V→Option Int→Option Int→Hp→VK→Prop) (te:TE) (tl th:TO):TE:=fun σ H Q=>te σ H fun x H1=>tl σ H1 fun l H2=>th σ H2 fun u H3=>r x l u H3 Q
theorem zf3 {r:V→Option Int→Option Int→Hp→VK→Prop} (hr:SlR X r) (he:PE X e te) (hl:PO X lo tl) (hu:PO X hi th):PE X (.Subscript e (.Slice lo hi none p2) pos) (tSl r te tl th):=by
  intro pins s σ H Q I h
  refine Subscript_ (thn (he pins s σ H _ I h) fun v s1 ⟨x,H1,I1,r1,q1⟩=>?_)
  refine wpAny_Slice (thn (hl pins s1 σ H1 _ I1 q1) fun vl s2 ⟨l,H2,I2,pl,q2⟩=>thn (hu pins s2 σ H2 _ I2 q2) fun vu s3 ⟨u,H3,I3,pu,q3⟩=>?_)
  rw [evalPart_none]
  refine wpAny_pure ?_
  have I4:Inv X pins σ H3 { s3 with heap:=s3.heap.push { cls:=.type "slice",data:=.fields #[vl,vu,.none] } }:=I3.kept (t':=s3.toks) fun b ob q=>Heap.get?_push_of_some _ q
  obtain ⟨T,id,hT,ht,hg⟩:=hr pins { s3 with heap:=s3.heap.push { cls:=.type "slice",data:=.fields #[vl,vu,.none] } } σ H3 x v vl vu l u s3.heap.objs.size Q I4 r1 (Heap.IsSliceOf.new ..) pl pu q3
  show wpAny (model X.prog X.w) X.A (subscriptTail e (.Slice lo hi none p2) v (.ref s3.heap.objs.size)) (EP X pins σ Q) X.xe { s3 with heap:=s3.heap.push { cls:=.type "slice",data:=.fields #[vl,vu,.none] } }
  exact tail_any (ops:=[.ref s3.heap.objs.size,v]) ht hT hg (by with_unfolding_all rfl)
def cutV (xs:List V) (lo hi:Option Int):List V:=(xs.drop (HT.sIx xs.length 0 lo)).take (HT.sIx xs.length xs.length hi - HT.sIx xs.length 0 lo)
theorem z4f (xs:List V) (lo hi:Option Int):(cutV xs lo hi).length≤xs.length:=by
  unfold cutV
  rw [List.length_take,List.length_drop]
  omega
def rSlT (K:PySem.W.Frag):V→Option Int→Option Int→Hp→VK→Prop:=fun x lo hi H Q=>∃ a xs,x=.ref a∧SqT K H a xs ∧
  ¬ (HT.sIx xs.length 0 lo=0∧HT.sIx xs.length xs.length hi=xs.length)∧∀ p,H p=none→Q (.ref p) (upd H p (.tup (cutV xs lo hi)))
theorem zm7:SlR X (rSlT X.K):=by
  intro pins s σ H x v vl vu lo hi sl Q I rx hs pl pu h
  obtain ⟨a,xs,rfl,hx,hw,q⟩:=h
  cases rx
  obtain ⟨its,r,ht,hz⟩:=I.tuple hx
  have hlen:its.toArray.size=xs.length:=by rw [List.size_toArray];exact r.length.symm
  refine ⟨"tuple",_,PyProof.Rows.slot_tuple_getitem.lookup,ht.typeIs, ?_⟩
  refine HT.getItem_tuple_cut ht hs pl pu (by rw [hlen];exact hw) ?_ (by rw [hlen];exact hz)
  rw [hlen]
  refine ⟨.ref s.heap.objs.size,_,I.laid (t':=s.toks) (o:=.tup (cutV xs lo hi)) (fun b ob q=>Heap.get?_push_of_some _ q) (Nat.le_refl _) ?_,rfl,q _ (I.hok.fresh (Nat.le_refl _))⟩
  exact ⟨Nat.le_trans (z4f xs lo hi) hz,_,(r.drop (HT.sIx xs.length 0 lo)).take (HT.sIx xs.length xs.length hi - HT.sIx xs.length 0 lo),IsTupX.new _ _⟩
def rLtT (K:PySem.W.Frag):R2:=fun x y H Q=>∃ a b ns ms,x=.ref a∧y=.ref b∧SqT K H a (ns.map V.int)∧SqT K H b (ms.map V.int)∧Q (.bl (HT.lexLt ns ms)) H
theorem zhn (hu:X.A.units<cLine):OpR X (compareOp .Lt) (rLtT X.K):=by
  intro pins s σ H x y v u Q I rx ry h
  obtain ⟨a,b,ns,ms,rfl,rfl,ha,hb,q⟩:=h
  cases rx
  cases ry
  obtain ⟨its,r1,p1,_⟩:=I.tuple ha
  obtain ⟨its2,r2,p2,_⟩:=I.tuple hb
  have i1:IntsAre its.toArray.toList ns:=z5l r1
  have i2:IntsAre its2.toArray.toList ms:=z5l r2
  exact HT.lt_tupInts p1 p2 i1 i2 hu ⟨.bl (HT.lexLt ns ms),H,I,rfl,q⟩
def zm8 (K:PySem.W.Frag):R2:=fun x y H Q=>∃ a b xs ys,x=.ref a∧y=.ref b∧SqT K H a xs∧SqT K H b ys∧xs≠[]∧xs.length+ys.length≤sizeLine ∧
  (ys=[]→Q (.ref a) H)∧(ys≠[]→∀ p,H p=none→Q (.ref p) (upd H p (.tup (xs++ys))))
theorem Vals.nil_iff {xs:List V} {us:List Value} (r:Vals xs us):us=[]↔xs=[]:=by
  cases r with
  | nil=>simp
  | cons _ _=>simp
theorem zj3:OpR X (binaryOp .Add) (zm8 X.K):=by
  intro pins s σ H x y v u Q I rx ry h
  obtain ⟨a,b,xs,ys,rfl,rfl,ha,hb,hx,hz,q1,q2⟩:=h
  cases rx
  cases ry
  obtain ⟨its,r1,p1,_⟩:=I.tuple ha
  obtain ⟨its2,r2,p2,_⟩:=I.tuple hb
  refine HT.cat_tup p1 p2 (fun z=>hx (r1.nil_iff.mp z)) (fun z=>⟨.ref a,H,I,rfl,q1 (r2.nil_iff.mp z)⟩) (fun z=>?_) (by rw [← r1.length,← r2.length];exact hz)
  refine ⟨.ref s.heap.objs.size,_,I.laid (t':=s.toks) (o:=.tup (xs++ys)) (fun b ob q=>Heap.get?_push_of_some _ q) (Nat.le_refl _) ?_,rfl,q2 (fun w=>z (r2.nil_iff.mpr w)) _ (I.hok.fresh (Nat.le_refl _))⟩
  exact ⟨by rw [List.length_append];exact hz,_,r1.append r2,IsTupX.new _ _⟩
end
def ixN (n:Nat) (i:Int):Option Nat:=if 0≤i then (if i<n then some i.toNat else none) else if -(n:Int)≤i then some (i+n).toNat else none
def atI {α:Type} (xs:List α) (i:Int):Option α:=(ixN xs.length i).bind fun j=>xs[j]?
theorem z8d {n:Nat} {i:Int} {j:Nat} (h:ixN n i=some j):seqIndex? i n=some j∧j<n∧-(n:Int)≤i∧i<n:=by
  unfold ixN at h
  by_cases h0:0≤i
  · rw [if_pos h0] at h
    by_cases h1:i<n
    · rw [if_pos h1] at h
      have e:i.toNat=j:=Option.some.inj h
      exact ⟨by rw [seqIndex_of h0 h1,e],by omega,by omega,h1⟩
    · rw [if_neg h1] at h;cases h
  · rw [if_neg h0] at h
    by_cases h1 : -(n:Int)≤i
    · rw [if_pos h1] at h
      have e:(i+n).toNat=j:=Option.some.inj h
      exact ⟨by rw [seqIndex_neg (by omega) h1,e],by omega,h1,by omega⟩
    · rw [if_neg h1] at h;cases h
theorem z8e {α:Type} {xs:List α} {i:Int} {v:α} (h:atI xs i=some v):∃ j,seqIndex? i xs.length=some j∧xs[j]?=some v∧j<xs.length∧-(xs.length:Int)≤i∧i<xs.length:=by
  unfold atI at h
  cases e:ixN xs.length i with
  | none=>rw [e] at h;cases h
  | some j=>
    rw [e] at h
    obtain ⟨h1,h2,h3,h4⟩:=z8d e
    exact ⟨j,h1,h,h2,h3,h4⟩
def z8f (b:Expr):Prop:=∀ o i,subscripted b false o i=operate [o,i] (getItem o i)
def IxR (X:Cx) (r:R2):Prop:=
  ∀ (value slice:Expr) (pins:List (Addr×Obj)) (s:Shared) (σ:St) (H:Hp) (x y:V) (v u:Value) (Q:VK),Inv X pins σ H s→RelV x v→RelV y u→r x y H Q→
    subscripted slice false v u=operate [v,u] (getItem v u)→wpAny (model X.prog X.w) X.A (subscriptTail value slice v u) (EP X pins σ Q) X.xe s
def MtR (X:Cx) (id:String) (r:V→List V→Hp→VK→Prop):Prop:=
  ∀ (pins:List (Addr×Obj)) (s:Shared) (σ:St) (H:Hp) (x:V) (xs:List V) (v:Value) (us:List Value) (Q:VK),Inv X pins σ H s→RelV x v→Vals xs us→r x xs H Q→
    wpAny (model X.prog X.w) X.A (call (.builtin id) (v::us)) (EP X pins σ Q) X.xe s
section
variable {X:Cx} {a b:Expr} {ta tb:TE} {pos:Pos}
theorem IxR.or {r r':R2} (h:IxR X r) (h':IxR X r'):IxR X (fun x y H Q=>r x y H Q∨r' x y H Q):=by
  intro value slice pins s σ H x y v u Q I rx ry q hs
  rcases q with q | q
  · exact h value slice pins s σ H x y v u Q I rx ry q hs
  · exact h' value slice pins s σ H x y v u Q I rx ry q hs
theorem zm9 {r:R2} (hr:IxR X r) (ha:PE X a ta) (hb:PE X b tb) (hs:z8f b):PE X (.Subscript a b pos) (tOp r ta tb):=by
  intro pins s σ H Q I h
  exact Subscript_ (binT ha hb I h fun v u s2 x y H2 I2 rx ry q=>hr a b pins s2 σ H2 x y v u Q I2 rx ry q (hs _ _))
def rIxL (K:PySem.W.Frag):R2:=fun x y H Q=>∃ p xs i v,x=.ref p∧y=.int i∧SqL K H p xs∧atI xs i=some v∧Q v H
def rIxT (K:PySem.W.Frag):R2:=fun x y H Q=>∃ p xs i v,x=.ref p∧y=.int i∧SqT K H p xs∧atI xs i=some v∧Q v H
def rIxS:R2:=fun x y H Q=>∃ z i c,x=.str z∧y=.int i∧z.length≤sizeLine∧atI z.cps.toList i=some c∧Q (.str ⟨#[c]⟩) H
theorem ix_list:IxR X (rIxL X.K):=by
  intro value slice pins s σ H x y v u Q I rx ry h hs
  obtain ⟨p,xs,i,z,rfl,rfl,hq,he,q⟩:=h
  cases rx
  obtain ⟨t,rfl⟩:=ry
  obtain ⟨its,r,pl,hz⟩:=I.list hq
  obtain ⟨j,h1,h2,h3,h4,h5⟩:=z8e he
  obtain ⟨w,ew,rw'⟩:=r.get h2
  have hl:=r.length
  have hn:=z5j
  have fin:EP X pins σ Q w s:=⟨z,H,I,rw',q⟩
  by_cases h0:0≤i
  · have hj:i.toNat=j:=by
      rw [seqIndex_of h0 h5] at h1
      exact Option.some.inj h1
    exact item_listR pl.isList h0 (by omega) (by rw [hj];simpa using ew) fin hs
  · have hj:(i+(its.toArray.size:Int)).toNat=j:=by
      rw [seqIndex_neg (by omega) h4] at h1
      rw [List.size_toArray,← hl]
      exact Option.some.inj h1
    exact subscriptTail_builtinR (x:=w) pl.isList.typeIs slot_list_getitem.lookup
      (wpAny_getItem_list_neg (Q:=fun r s'=>r=w∧EP X pins σ Q r s') pl.isList (by omega) (by rw [List.size_toArray] <;> omega) (by omega) (by rw [hj];simpa using ew) ⟨rfl,fin⟩) hs
theorem ix_tup:IxR X (rIxT X.K):=by
  intro value slice pins s σ H x y v u Q I rx ry h hs
  obtain ⟨p,xs,i,z,rfl,rfl,hq,he,q⟩:=h
  cases rx
  obtain ⟨t,rfl⟩:=ry
  obtain ⟨its,r,pl,hz⟩:=I.tuple hq
  obtain ⟨j,h1,h2,h3,h4,h5⟩:=z8e he
  obtain ⟨w,ew,rw'⟩:=r.get h2
  have hl:=r.length
  have hn:=z5j
  have fin:EP X pins σ Q w s:=⟨z,H,I,rw',q⟩
  exact subscriptTail_builtinR (x:=w) pl.typeIs slot_tuple_getitem.lookup
    (getItem_tuple (j:=j) (Q:=fun r s'=>r=w∧EP X pins σ Q r s') pl (by omega) (by omega) (by rw [List.size_toArray,← hl];exact h1) (by simpa using ew) ⟨rfl,fin⟩) hs
theorem zma:IxR X rIxS:=by
  intro value slice pins s σ H x y v u Q I rx ry h hs
  obtain ⟨z,i,c,rfl,rfl,hz,he,q⟩:=h
  obtain ⟨t,rfl⟩:=rx
  obtain ⟨t',rfl⟩:=ry
  obtain ⟨j,h1,h2,h3,h4,h5⟩:=z8e he
  have hl:z.cps.toList.length=z.length:=by simp [Str.length]
  rw [hl] at h1 h4 h5
  have hn:=z5j
  exact tail_any (typeIs_str s z t) slot_str_getitem.lookup (getItem_str (c:=c) (by
    have e1:decide (i < -(2 ^ 63:Int))=false:=decide_eq_false (by omega)
    have e2:decide (i≥2 ^ 63)=false:=decide_eq_false (by omega)
    rw [e1,e2,Bool.or_false]) (by rw [h1];simpa using h2) ⟨.str ⟨#[c]⟩,H,I.tok _,⟨_,rfl⟩,q⟩) hs
def rIx (K:PySem.W.Frag):R2:=fun x y H Q=>rIxL K x y H Q∨rIxT K x y H Q∨rIxS x y H Q
theorem zho:IxR X (rIx X.K):=ix_list.or (ix_tup.or zma)
theorem zat (its:List Value) (n j:Nat) (u:Value):Obj.mapSeq (·.setIfInBounds j u) { cls:=.type "list",data:=.seq its.toArray n }={ cls:=.type "list",data:=.seq (its.set j u).toArray n }:=by
  simp [Obj.mapSeq]
theorem Inv.lst {pins:List (Addr×Obj)} {σ:St} {H:Hp} {s:Shared} {p:Addr} {xs:List V} (I:Inv X pins σ H s) (h:H p=some (.lst xs)):
    ∃ (its:List Value) (n:Nat),Vals xs its∧s.heap.get? p=some { cls:=.type "list",data:=.seq its.toArray n }∧xs.length≤sizeLine:=by
  obtain ⟨z,its,n,r,e⟩:=I.hok p _ h
  exact ⟨its,n,r,e,z⟩
theorem Inv.lstUpd {pins:List (Addr×Obj)} {σ:St} {H:Hp} {s:Shared} {p:Addr} {xs ys:List V} {its its':List Value} {n n':Nat} {f:Obj→Obj} (I:Inv X pins σ H s) (h:H p=some (.lst xs))
    (ho:s.heap.get? p=some { cls:=.type "list",data:=.seq its.toArray n }) (hf:f { cls:=.type "list",data:=.seq its.toArray n }={ cls:=.type "list",data:=.seq its'.toArray n' }) (r:Vals ys its') (hz:ys.length≤sizeLine) (t:Nat):
    Inv X pins σ (upd H p (.lst ys)) { s with heap:=s.heap.update p f,toks:=t }:=by
  have e:(s.heap.update p f).get? p=some { cls:=.type "list",data:=.seq its'.toArray n' }:=by
    rw [Heap.get?_update_self f ho (by rw [hf] <;> rfl),hf]
  refine I.write (x:=p) (e:=p) (by rw [h];trivial) (.inl rfl) (fun b u hb q=>(Heap.get?_update_other _ _ (Ne.symm hb)).trans q) ⟨_,e⟩ ?_
  exact ⟨hz,its',n',r,e⟩
def zoy:V→V→V→Hp→(Hp→Prop)→Prop:=fun o i v H Q=>∃ p xs k j,o=.ref p∧i=.int k∧H p=some (.lst xs)∧ixN xs.length k=some j∧Q (upd H p (.lst (xs.set j v)))
theorem zf4:PSet X zoy:=by
  intro pins s σ H o i v ov iv u Q I ro ri rv h
  obtain ⟨p,xs,k,j,rfl,rfl,hp,hj,q⟩:=h
  cases ro
  obtain ⟨t,rfl⟩:=ri
  obtain ⟨its,n,r,ho,hz⟩:=I.lst hp
  obtain ⟨h1,h2,h3,h4⟩:=z8d hj
  have hl:=r.length
  have hn:=z5j
  have I':Inv X pins σ (upd H p (.lst (xs.set j v))) { s with heap:=s.heap.update p (Obj.mapSeq (·.setIfInBounds j u)) }:=
    I.lstUpd hp ho (zat its n j u) (r.set rv j) (by rw [List.length_set];exact hz) s.toks
  by_cases h0:0≤k
  · have hk:k.toNat=j:=by
      rw [seqIndex_of h0 h4] at h1
      exact Option.some.inj h1
    exact PySem.W.ki_setAt ho h0 (by omega) (by rw [List.size_toArray,← hl];exact h4) (by rw [hk];exact ⟨_,I',q⟩)
  · have hk:(k+(its.toArray.size:Int)).toNat=j:=by
      rw [seqIndex_neg (by omega) h3] at h1
      rw [List.size_toArray,← hl]
      exact Option.some.inj h1
    exact PySem.W.ki_setBack ho (by omega) (by rw [List.size_toArray,← hl];exact h3) (by omega) (by rw [hk];exact ⟨_,I',q⟩)
theorem z78 (lo hi:Option Int) (n:Nat):(sliceBounds lo hi none n).1=((HT.sIx n 0 lo:Nat):Int)∧(sliceBounds lo hi none n).2.1=((HT.sIx n n hi:Nat):Int)∧(sliceBounds lo hi none n).2.2=1:=by
  refine ⟨?_, ?_,rfl⟩
  · cases lo with
    | none=>simp [sliceBounds,HT.sIx]
    | some i=>
      simp only [sliceBounds,HT.sIx,Option.getD_none,show (1:Int)>0 by decide,if_true]
      by_cases h:i<0
      · simp only [h,if_true] <;> omega
      · simp only [h,if_false] <;> omega
  · cases hi with
    | none=>simp [sliceBounds,HT.sIx]
    | some i=>
      simp only [sliceBounds,HT.sIx,Option.getD_none,show (1:Int)>0 by decide,if_true]
      by_cases h:i<0
      · simp only [h,if_true] <;> omega
      · simp only [h,if_false] <;> omega
theorem z69 (its:List Value) (lo hi:Option Int):slicePick its.toArray lo hi none=((its.drop (HT.sIx its.length 0 lo)).take (HT.sIx its.length its.length hi - HT.sIx its.length 0 lo)).toArray:=by
  obtain ⟨h1,h2,h3⟩:=z78 lo hi its.toArray.size
  unfold slicePick
  rw [h1,h2,h3]
  simp only [sliceRange_one,pick_run,List.size_toArray] <;> rfl
def rSlL (K:PySem.W.Frag):V→Option Int→Option Int→Hp→VK→Prop:=fun x lo hi H Q=>∃ a xs,x=.ref a∧SqL K H a xs∧∀ p,H p=none→Q (.ref p) (upd H p (.lst (cutV xs lo hi)))
theorem zj4:SlR X (rSlL X.K):=by
  intro pins s σ H x v vl vu lo hi sl Q I rx hs pl pu h
  obtain ⟨a,xs,rfl,hx,q⟩:=h
  cases rx
  obtain ⟨its,r,ht,hz⟩:=I.list hx
  have hlen:=r.length
  refine ⟨"list",_,slot_list_getitem.lookup,ht.isList.typeIs, ?_⟩
  refine wpAny_getItem_list_slice ht.isList hs pl pu .none (by simp) ?_ (by rw [List.size_toArray] <;> omega)
  rw [z69,← hlen]
  refine ⟨.ref s.heap.objs.size,_,I.laid (t':=s.toks) (o:=.lst (cutV xs lo hi)) (fun b ob q=>Heap.get?_push_of_some _ q) (Nat.le_refl _) ?_,rfl,q _ (I.hok.fresh (Nat.le_refl _))⟩
  exact ⟨Nat.le_trans (z4f xs lo hi) hz,_,0,(r.drop (HT.sIx xs.length 0 lo)).take (HT.sIx xs.length xs.length hi - HT.sIx xs.length 0 lo),Heap.get?_push_size _ rfl⟩
theorem z3y:CallR X (.builtin "len") (fun xs H Q=>∃ p ys,xs=[.ref p]∧(SqL X.K H p ys∨SqT X.K H p ys)∧Q (.int ys.length) H):=by
  intro pins s σ H xs us Q I r h
  obtain ⟨p,ys,rfl,hq,q⟩:=h
  obtain ⟨u,rfl,rx⟩:=z4e r
  cases rx
  have hn:=z5j
  rcases hq with hq | hq
  · obtain ⟨its,r',pl,hz⟩:=I.list hq
    have hlen:=r'.length
    exact Calls.call_len_list pl.isList (by simp only [List.size_toArray] <;> omega) ⟨.int ys.length,H,I.tok _,⟨s.toks+1,by rw [List.size_toArray,hlen]⟩,q⟩
  · obtain ⟨its,r',pl,hz⟩:=I.tuple hq
    have hlen:=r'.length
    exact len_tuple pl (by simp only [List.size_toArray] <;> omega) ⟨.int ys.length,H,I.tok _,⟨s.toks+1,by rw [List.size_toArray,hlen]⟩,q⟩
theorem z79:CallR X (.type "list") (fun xs H Q=>∃ p ys,xs=[.ref p]∧(SqL X.K H p ys∨SqT X.K H p ys)∧∀ l,H l=none→Q (.ref l) (upd H l (.lst ys))):=by
  intro pins s σ H xs us Q I r h
  obtain ⟨p,ys,rfl,hq,q⟩:=h
  obtain ⟨u,rfl,rx⟩:=z4e r
  cases rx
  have fin:∀ (its:List Value),Vals ys its→ys.length≤sizeLine→∀ (h':Heap) (c':Nat),(∀ b o',s.heap.get? b=some o'→h'.get? b=some o')→
      h'.get? s.heap.objs.size=some { cls:=.type "list",dict:=none,data:=.seq its.toArray c',slots:=#[] }→EP X pins σ Q (.ref s.heap.objs.size) { s with heap:=h' }:=fun its r' hz h' c' kp e=>
    ⟨.ref s.heap.objs.size,_,I.laid (t':=s.toks) kp (Nat.le_refl _) (show ObjOk X.prog X.w _ h' _ (.lst ys) from ⟨hz,its,c',r',e⟩),rfl,q _ (I.hok.fresh (Nat.le_refl _))⟩
  rcases hq with hq | hq
  · obtain ⟨its,r',pl,hz⟩:=I.list hq
    have hlen:=r'.length
    obtain ⟨o,ho,hc,n,hd⟩:=pl.isList
    exact call_list_seq p (.inl rfl) ho hc hd (fun h' c' kp e=>fin its r' hz h' c' kp e) (by simp only [List.size_toArray] <;> omega)
  · obtain ⟨its,r',pl,hz⟩:=I.tuple hq
    have hlen:=r'.length
    obtain ⟨o,ho,hc,n,hd⟩:=pl
    exact call_list_seq p (.inr rfl) ho hc hd (fun h' c' kp e=>fin its r' hz h' c' kp e) (by simp only [List.size_toArray] <;> omega)
theorem z36:CallR X (.type "tuple") (fun xs H Q=>∃ p ys,xs=[.ref p]∧((SqL X.K H p ys∧∀ l,H l=none→Q (.ref l) (upd H l (.tup ys)))∨(SqT X.K H p ys∧Q (.ref p) H))):=by
  intro pins s σ H xs us Q I r h
  obtain ⟨p,ys,rfl,h⟩:=h
  obtain ⟨u,rfl,rx⟩:=z4e r
  cases rx
  rcases h with ⟨hq,q⟩ | ⟨hq,q⟩
  · obtain ⟨its,r',pl,hz⟩:=I.list hq
    have hlen:=r'.length
    refine call_tuple_list pl.isList (fun h' kp=>?_) (by simp only [List.size_toArray] <;> omega)
    have I1:Inv X pins σ H { s with heap:=h' }:=I.kept (t':=s.toks) kp
    have I2:Inv X pins σ (upd H h'.objs.size (.tup ys)) { s with heap:=h'.push { cls:=.type "tuple",data:=.seq its.toArray } }:=
      I1.laid (t':=s.toks) (fun b o e=>Heap.get?_push_of_some _ e) (Nat.le_refl _) (show ObjOk X.prog X.w _ _ _ (.tup ys) from ⟨hz,its,r',IsTupX.new _ _⟩)
    exact ⟨.ref h'.objs.size,_,I2,rfl,q _ (I1.hok.fresh (Nat.le_refl _))⟩
  · obtain ⟨its,r',pl,hz⟩:=I.tuple hq
    exact call_tuple_same pl ⟨.ref p,H,I,rfl,q⟩
def tyV (K:PySem.W.Frag) (T:String) (x:V) (H:Hp):Prop:=match x with
  | .str _=>T = "str"
  | .int _=>T = "int"
  | .ref p=>(T = "list"∧∃ xs,SqL K H p xs)∨(T = "tuple"∧∃ o,K.lookup p=some o∧o.cls=.type "tuple"∧o.dict=none) ∨
      (T = "dict"∧((∃ kvs,H p=some (.dK kvs))∨∃ kvs,H p=some (.dT kvs)))∨(T = "set"∧∃ S n,H p=some (.set S n))
  | _=>False
theorem zmb {pins:List (Addr×Obj)} {σ:St} {H:Hp} {s:Shared} {T:String} {x:V} {v:Value} (I:Inv X pins σ H s) (r:RelV x v) (ty:tyV X.K T x H):
    s.TypeIs v T∧∀ a,v=.ref a→∃ ob,s.heap.get? a=some ob∧ob.dict=none:=by
  cases x with
  | str z=>
    obtain ⟨t,rfl⟩:=r
    cases (show T = "str" from ty)
    exact ⟨typeIs_str s z t,fun _ e=>nomatch e⟩
  | int i=>
    obtain ⟨t,rfl⟩:=r
    cases (show T = "int" from ty)
    exact ⟨typeIs_int s i t,fun _ e=>nomatch e⟩
  | ref p=>
    cases r
    rcases ty with ⟨rfl,xs,hq⟩ | ⟨rfl,o,hk,hc,hd⟩ | ⟨rfl,hk⟩ | ⟨rfl,S,n,hk⟩
    · obtain ⟨its,_,pl,_⟩:=I.list hq
      refine ⟨pl.isList.typeIs,fun a e=>?_⟩
      cases e
      obtain ⟨o,n,e,c,hd,_⟩:=pl
      exact ⟨o,e,hd⟩
    · refine ⟨⟨o,I.kIn p o hk,hc⟩,fun a e=>?_⟩
      cases e
      exact ⟨o,I.kIn _ o hk,hd⟩
    · have z:∃ o,s.heap.get? p=some o∧o.ExactDict:=by
        rcases hk with ⟨kvs,hk⟩ | ⟨kvs,hk⟩
        · obtain ⟨_,_,_,_,o,_,_,e,ex,_⟩:=I.hok p _ hk
          exact ⟨o,e,ex⟩
        · obtain ⟨_,_,_,_,o,_,_,e,ex,_⟩:=I.hok p _ hk
          exact ⟨o,e,ex⟩
      obtain ⟨o,e,ex⟩:=z
      refine ⟨⟨o,e,ex.1⟩,fun a e2=>?_⟩
      cases e2
      exact ⟨o,e,ex.2.1⟩
    · obtain ⟨o,_,_,_,e,ex,_⟩:=I.hok p _ hk
      refine ⟨⟨o,e,ex.1⟩,fun a e2=>?_⟩
      cases e2
      exact ⟨o,e,ex.2.1⟩
  | _=>exact False.elim ty
def tBM (K:PySem.W.Frag) (T:String) (r:V→List V→Hp→VK→Prop) (to:TE) (t:TA):TE:=fun σ H Q=>to σ H fun x H1=>tyV K T x H1∧t σ H1 fun xs H2=>r x xs H2 Q
variable {o e:Expr} {es:List Expr} {to:TE} {t:TA} {name:Str} {apos cpos:Pos} {T id:String} {r:V→List V→Hp→VK→Prop}
theorem zf5 (pa:PlainAttrs T) (slot:Slot T name id) (hty:typeOf (.builtin id)=pure (.type "method_descriptor")) (hm:MtR X id r) (ho:PE X o to) (ha:PA X (e::es) t)
    (hbase:attributeBase o name X.env (eval o X.env)=eval o X.env:=by rfl)
    (hfew:((backTo cpos (starEach (e::es) X.env)).all (fun x=>!x.1)&&(backToKw cpos (keywordEach [] X.env)).all (fun x=>x.1.isSome)
      && decide ((e::es).length+([]:List Keyword).length+(if ([]:List Keyword).isEmpty then 0 else 1)<30))=true:=by rfl)
    (hline:(apos.endLine==cpos.line)=true:=by rfl) (hs:starEach (e::es) X.env=(false,eval e X.env)::starEach es X.env:=by rfl) (hplain:(backTo cpos (starEach es X.env)).any (·.1)=false:=by rfl):
    PE X (.Call (.Attribute o name apos) (e::es) [] cpos) (tBM X.K T r to t):=by
  intro pins s σ H Q I h
  refine wpAny_Call_method_late hbase hfew hline rfl (thn (ho pins s σ H _ I h) fun v s1 ⟨x,H1,I1,r1,ty,q1⟩=>?_)
  obtain ⟨h1,h2⟩:=zmb I1 r1 ty
  refine ⟨T,id,pa,slot,hty,h1,h2, ?_⟩
  have hA:=ha cpos pins s1 σ H1 _ I1 q1
  rw [hs] at hA ⊢
  refine Calls.callWith_builtin (by show (false||(backTo cpos (starEach es X.env)).any (·.1))=false;rw [hplain] <;> rfl) (Calls.evalArgs_plain ?_)
  exact thn hA fun us s2 ⟨vs,H2,I2,r2,q2⟩=>hm pins s2 σ H2 x vs v us Q I2 r1 r2 q2
end
def MtM (X:Cx) (id:String) (r:V→List V→Hp→VK→Prop):Prop:=
  ∀ (pins:List (Addr×Obj)) (s:Shared) (σ:St) (H:Hp) (x:V) (xs:List V) (v:Value) (us:List Value) (Q:VK),Inv X pins σ H s→RelV x v→Vals xs us→r x xs H Q→
    wpAny (model X.prog X.w) X.A (call (.builtin id) (v::us)) (EP X pins σ Q) X.xe s
theorem Vals.one:∀ {x:V} {us:List Value},Vals [x] us→∃ u,us=[u]∧RelV x u
  | _,_,.cons r .nil=>⟨_,rfl,r⟩
theorem Vals.two:∀ {x y:V} {us:List Value},Vals [x,y] us→∃ u v,us=[u,v]∧RelV x u∧RelV y v
  | _,_,_,.cons r (.cons q .nil)=>⟨_,_,rfl,r,q⟩
theorem Vals.eraseIdx:∀ {xs:List V} {us:List Value} (i:Nat),Vals xs us→Vals (xs.eraseIdx i) (us.eraseIdx i)
  | _,_,_,.nil=>.nil
  | _,_,0,.cons _ t=>t
  | _,_,i+1,.cons r t=>.cons r (Vals.eraseIdx i t)
theorem z7a {α:Type}:∀ (l:List α) (i:Nat),(l.eraseIdx i).length≤l.length
  | [],_=>Nat.le_refl _
  | _::_,0=>Nat.le_succ _
  | _::r,i+1=>Nat.succ_le_succ (z7a r i)
section
variable {X:Cx} {pins:List (Addr×Obj)} {σ:St} {H:Hp} {s:Shared} {l b:Addr} {xs ys zs:List V}
theorem Inv.lset {its its':List Value} {n:Nat} {f:Array Value→Array Value} {t':Nat} (I:Inv X pins σ H s) (hH:H l=some (.lst xs))
    (e:s.heap.get? l=some { cls:=.type "list",data:=.seq its.toArray n }) (hf:f its.toArray=its'.toArray) (hv:Vals ys its') (hz:ys.length≤sizeLine):
    Inv X pins σ (upd H l (.lst ys)) { s with heap:=s.heap.update l (Obj.mapSeq f),toks:=t' }:=by
  have q:=PySem.IsL.update e f
  rw [hf] at q
  refine I.write (x:=l) (e:=l) (by rw [hH];exact trivial) (.inl rfl) (fun b' u hb hu=>(Heap.get?_update_other s.heap (Obj.mapSeq f) (Ne.symm hb)).trans hu) ⟨_,q⟩ ?_
  exact ⟨hz,its',_,hv,q⟩
theorem Inv.lnew {its:List Value} {t':Nat} (I:Inv X pins σ H s) (hv:Vals ys its) (hz:ys.length≤sizeLine):
    Inv X pins σ (upd H s.heap.objs.size (.lst ys)) { s with heap:=s.heap.push { cls:=.type "list",data:=.seq its.toArray },toks:=t' }:=
  I.laid (fun _ _ q=>Heap.get?_push_of_some _ q) (Nat.le_refl _) ⟨hz,its,0,hv,Heap.get?_push_size _ rfl⟩
theorem Inv.fresh (I:Inv X pins σ H s):H s.heap.objs.size=none:=I.hok.fresh (Nat.le_refl _)
theorem Inv.lstM (I:Inv X pins σ H s) (hH:H l=some (.lst xs)):xs.length≤sizeLine∧∃ (its:List Value) (n:Nat),Vals xs its∧xs.length=its.length∧s.heap.get? l=some { cls:=.type "list",data:=.seq its.toArray n }:=by
  obtain ⟨z,its,n,r,e⟩:=I.hok l _ hH
  exact ⟨z,its,n,r,r.length,e⟩
theorem zf6 {n:Nat} (h:n≤sizeLine):Builtin.List.listTooLong n=false:=by
  unfold Builtin.List.listTooLong
  exact decide_eq_false (by omega)
end
section
variable {X:Cx}
def zj5:V→List V→Hp→VK→Prop:=fun x vs H Q=>∃ l xs y,x=.ref l∧vs=[y]∧H l=some (.lst xs)∧xs.length<sizeLine∧Q .non (upd H l (.lst (xs++[y])))
theorem zbv:MtM X "list.append" zj5:=by
  intro pins s σ H x vs v us Q I rx rv h
  obtain ⟨l,xs,y,rfl,rfl,hH,hz,q⟩:=h
  cases rx
  obtain ⟨u,rfl,ru⟩:=rv.one
  obtain ⟨z,its,n,r,hl,e⟩:=I.lstM hH
  refine call_meets F.slot_list_append ⟨_,e,rfl⟩ F.entry_list_append (F.args_list_append_2 _ _) (PySem.list_append l its.toArray n u (by rw [List.size_toArray];omega)) ⟨e, ?_⟩
  refine ⟨.non,_,I.lset (its':=its++[u]) hH e (by simp) (r.append (.cons ru .nil)) ?_,rfl,q⟩
  rw [List.length_append,List.length_singleton]
  omega
def zj6:V→List V→Hp→VK→Prop:=fun x vs H Q=>∃ l b xs zs,x=.ref l∧vs=[.ref b]∧H l=some (.lst xs)∧H b=some (.lst zs)∧xs.length+zs.length≤sizeLine∧Q .non (upd H l (.lst (xs++zs)))
theorem zbw:MtM X "list.extend" zj6:=by
  intro pins s σ H x vs v us Q I rx rv h
  obtain ⟨l,b,xs,zs,rfl,rfl,hH,hB,hz,q⟩:=h
  cases rx
  obtain ⟨u,rfl,ru⟩:=rv.one
  cases ru
  obtain ⟨z,its,n,r,hl,e⟩:=I.lstM hH
  obtain ⟨z2,its2,n2,r2,hl2,e2⟩:=I.lstM hB
  have hsz:its.toArray.size+its2.toArray.size≤sizeLine:=by rw [List.size_toArray,List.size_toArray];omega
  have hlong:¬ (!its.toArray.isEmpty&&Builtin.List.listTooLong (its.toArray.size+its2.toArray.size))=true:=by
    rw [zf6 hsz,Bool.and_false]
    exact Bool.false_ne_true
  refine call_meets F.slot_list_extend ⟨_,e,rfl⟩ F.entry_list_extend (F.args_list_extend_2 _ _)
    (AutoSeq1.list_extend_list_list_0 l its.toArray n b its2.toArray n2 hlong (by rw [List.size_toArray];omega) (by omega)) ⟨e,e2, ?_⟩
  refine ⟨.non,_,I.lset (its':=its++its2) hH e (by simp) (r.append r2) ?_,rfl,q⟩
  rw [List.length_append]
  omega
def zmc:V→List V→Hp→VK→Prop:=fun x vs H Q=>∃ l xs i k y,x=.ref l∧vs=[.int i]∧H l=some (.lst xs)∧-(2 ^ 63)≤i∧i<2 ^ 63∧seqIndex? i xs.length=some k∧xs[k]?=some y∧Q y (upd H l (.lst (xs.eraseIdx k)))
theorem zf7:MtM X "list.pop" zmc:=by
  intro pins s σ H x vs v us Q I rx rv h
  obtain ⟨l,xs,i,k,y,rfl,rfl,hH,h1,h2,hk,hy,q⟩:=h
  cases rx
  obtain ⟨u,rfl,ru⟩:=rv.one
  obtain ⟨t,rfl⟩:=ru
  obtain ⟨z,its,n,r,hl,e⟩:=I.lstM hH
  obtain ⟨w,hw,rw'⟩:=r.get hy
  refine call_meets F.slot_list_pop ⟨_,e,rfl⟩ F.entry_list_pop (F.args_list_pop_2 _ _)
    (MeetsSeq.list_pop_at l its.toArray n i t k w (fitsIndex_both h1 h2) (by rw [List.size_toArray,← hl];exact hk) (by rw [← Array.getElem?_toList];exact hw) (by rw [List.size_toArray];omega)) ⟨e, ?_⟩
  refine ⟨y,_,I.lset (its':=its.eraseIdx k) hH e ?_ (r.eraseIdx k) ?_,rw',q⟩
  · show its.toArray.eraseIdxIfInBounds k=(its.eraseIdx k).toArray
    rw [List.eraseIdxIfInBounds_toArray]
  · have:=z7a xs k
    omega
def rCat:R2:=fun x y H Q=>∃ l b xs zs,x=.ref l∧y=.ref b∧H l=some (.lst xs)∧H b=some (.lst zs)∧xs.length+zs.length≤sizeLine∧∀ p,H p=none→Q (.ref p) (upd H p (.lst (xs++zs)))
theorem op_cat:OpR X (binaryOp .Add) rCat:=by
  intro pins s σ H x y v u Q I rx ry h
  obtain ⟨l,b,xs,zs,rfl,rfl,hH,hB,hz,q⟩:=h
  cases rx
  cases ry
  obtain ⟨z,its,n,r,hl,e⟩:=I.lstM hH
  obtain ⟨z2,its2,n2,r2,hl2,e2⟩:=I.lstM hB
  refine PySem.P.add_list e e2 ?_ (by rw [List.size_toArray,List.size_toArray];omega)
  have ea:its.toArray++its2.toArray=(its++its2).toArray:=by simp
  rw [ea]
  exact ⟨.ref _,_,I.lnew (t':=s.toks) (r.append r2) (by rw [List.length_append];omega),rfl,q _ I.fresh⟩
end
section
variable {prog:Program} {w:World} {A:Around} {E:Value→Shared→Prop} {s:Shared}
set_option maxRecDepth 100000 in
end
section
variable {X:Cx}
end
end L2
namespace Att
open PySem PySem.W PySem.Calls PyProof.Rows
theorem z4g {P:Params} {h:Heap}:∀ (ns:List Int) (vs:List Value),WellAll P h vs (ns.map WData.int)→IntsAre vs ns:=by
  intro ns
  induction ns with
  | nil=>
    intro vs w
    rw [List.map_nil] at w
    cases w
    exact .nil
  | cons n ns ih=>
    intro vs w
    rw [List.map_cons] at w
    cases w with
    | cons a b=>
      cases a
      exact .cons _ _ (ih _ b)
theorem zbx {l:OpenLaw} {n:Nat} (hn:l.most=some n) {P:Params} {h:Heap} {args:List WData} {vals:List Value}
    (hpre:l.row.toRowW.claim.pre args=true) (hwl:WellAll P h vals args):
    ∃ a vs ns,vals=[Value.ref a]∧args=[WData.list (ns.map WData.int)]∧h.get? a=some { cls:=.type "list",data:=.seq vs.toArray }∧IntsAre vs ns∧ns.length≤n:=by
  have hsh:WShape.hasAll [] args [.list .int]=true:=(pre_splitW hpre).1
  have hc:l.pre.holds [] { args:=args }=true:=(pre_splitW hpre).2
  obtain ⟨d,r,rfl,h1,h2⟩:=hasAllW_cons hsh
  obtain rfl:=hasAllW_nil h2
  obtain ⟨xs,rfl,h3⟩:=hasW_list h1
  obtain ⟨ns,rfl⟩:=items_int h3
  have hlen:ns.length≤n:=by
    unfold OpenLaw.pre at hc
    have h4:(WTm.not (.lt (.lit (.int (n:Int))) (.len (.arg 0)))).holds [] { args:=[.list (ns.map .int)] }=true:=by
      have h4:=(holds_andW hc).1
      rw [hn] at h4
      exact h4
    have h5:=condW_of h4 (w_not (w_lt w_lit (w_len_list (w_arg rfl))))
    rw [List.length_map] at h5
    refine Nat.le_of_not_lt fun q=>?_
    have q':(n:Int)<((ns.length:Nat):Int):=by omega
    first
      | (rw [decide_eq_true q'] at h5;exact absurd h5 (by decide))
      | (simp at h5;omega)
  cases hwl with
  | cons w1 w2=>
    cases w2
    cases w1 with
    | list ho hall=>exact ⟨_,_,ns,rfl,rfl,ho,z4g ns _ hall,hlen⟩
theorem zby (l:OpenLaw) (args:List WData):l.row.toRowW.claim.post args (.bool true) args=true:=
  postW_of (r:=l.row.toRowW) (X:=(true==true))
    (show WShape.has [] (.bool true) .bool=true by first | rfl | decide | simp [WShape.has,WShape.arms,WShape.armsAll])
    (show (WTm.eq .res (.lit (.bool true))).value [] { args:=args,res:=some (.bool true),after:=args }=some (.bool (true==true)) from w_eq_bool (w_res rfl) w_lit) rfl
theorem attach_call {l:OpenLaw} {n:Nat} {q:Program} {loose:List Str} {XP:(Str→Option Value)→Heap→Prop} {YP:World→Heap→Prop} {d:DefRec}
    (hn:l.most=some n) (hdf:d.params.defaults=[])
    (call:∀ (w:World) (s₀ s₁:Shared) (mg mb:Str→Option Value) (fa:Addr) (o:Obj) (pm cd doc:Value) (a:Addr) (vs:List Value) (ns:List Int),
      Ground q loose [] XP w s₀ mg mb s₁.heap→YP w s₁.heap→
      s₁.heap.get? fa=some o→o.data=.func (docDef d.name d.params d.body d.scope pm cd doc)→s₁.heap.CodeRec cd d.name→mg d.name=some (.ref fa)→
      s₁.heap.get? a=some { cls:=.type "list",data:=.seq vs.toArray }→IntsAre vs ns→ns.length≤n→s₁.gens=#[]→
      codeAny (model l.prog w) callerA (.call (.ref fa) ⟨[.ref a],[]⟩) (fun r s'=>r=.ok (.ret (.bool true))∧OldK s₁.heap s'.heap∧s'.os=s₁.os∧AllBare s'.gens) s₁):
    WalkO q loose XP YP l.row.toRowW d [] (fun f vs=>PySem.call f vs):=by
  intro w s₀ s₁ mg mb G Y fa o pm cd doc dV kV ho hd hcd hD hmg hg args vals as hpre hlay hrd hwl hlo
  obtain rfl:dV=.none:=Dflts.none hD hdf
  obtain rfl:kV=.none:=Dflts.noKw hD
  obtain ⟨a,vs,ns,rfl,rfl,hobj,hints,hlen⟩:=zbx hn hpre hwl
  refine enter_call (codeAny_mono (call w s₀ s₁ mg mb fa o pm cd doc a vs ns G Y ho (fd_plain hd) hcd hmg hobj hints hlen hg) fun r s' hq=>?_)
  obtain ⟨rfl,h2,h3,h4⟩:=hq
  exact ⟨.inl ⟨.bool true,.bool true,[],rfl,fun _=>rfl,.bool true,zby l _,fun _=>⟨List.Pairwise.nil,fun _ hm=>(nomatch hm)⟩⟩,h2,h3,h4⟩
section
variable {prog:Program} {w:World} {A:Around} {E:Value→Shared→Prop} {s:Shared} {K:Frag}
end
end Att
namespace L2
open PySem PySem.Spec PyProof.Rows
theorem z7b:∀ {vs:List Value} {ns:List Int},IntsAre vs ns→Vals (ns.map V.int) vs
  | _,_,.nil=>.nil
  | _,_,.cons n t h=>.cons ⟨t,rfl⟩ (z7b h)
def z3l (s:Stmt):Arguments:=match s with
  | .FunctionDef _ a _ _ _ _ _ _ _ _=>a
  | _=>{ posonlyargs:=[],args:=[],vararg:=none,kwonlyargs:=[],kw_defaults:=[],kwarg:=none,defaults:=[] }
def z1q (s:Stmt):List Stmt:=match s with
  | .FunctionDef _ _ b _ _ _ _ _ _ _=>b
  | _=>[]
def z04 (s:Stmt):Scope:=match s with
  | .FunctionDef _ _ _ _ _ _ sc _ _ _=>sc
  | _=>{ kind:=.function,names:=[],isGenerator:=false,isCoroutine:=false }
abbrev CX0:CXT:=fun _ _ _ _ _ _=>False
abbrev E0:XK:=fun _ _ _=>False
structure Fun (K:PySem.W.Frag) (x qual:Str) (st:Stmt) (f:Addr) (fd:FuncData):Prop where
  ex:∃ (oc:Value) (od:Option Addr) (kV doc pm:Value) (an:Option Addr) (cdv ct:Value) (osl:Array (Option Value)),
    fd=PySem.W.fnOf x qual (z3l st) (z1q st) (z04 st) .none kV doc pm an cdv ct∧K.lookup f=some ⟨oc,od,.func fd,osl⟩∧PySem.W.codeIn K cdv qual=true
  kp:PySem.W.keepIn K (.ref f)=true
section
variable {P:Program} {w:World} {K:PySem.W.Frag} {mg:Str→Option Value} {base:Heap}
theorem Fun.ok {x qual:Str} {st:Stmt} {f:Addr} {fd:FuncData} {N ps:List Str} {k:Nat} {sp:Sp} (F:Fun K x qual st f fd) (S:FnScope N ps (z04 st)) (len:∀ vs H Q E,sp vs H Q E→vs.length=ps.length)
    (hbody:∀ (cdv:Value) (A:Around) (outer:List Env) (s:Shared) (H:Hp) (vs:List V) (Q:VK) (E:XK),Room k (A.deeper (envOfC qual (z04 st) s.heap.objs.size f cdv))→sp vs H Q E→
      ∃ t,PSs (cxOf CX0 P w K mg base N qual (z04 st) f cdv A outer s H E).nox (z1q st) t∧t { nx:=fun _ H'=>Q .non H',rt:=Q } (start N vs) H):FnOk P w K mg base CX0 (k+1) f fd ps sp:=by
  obtain ⟨oc,od,kV,doc,pm,an,cdv,ct,osl,rfl,lk,hcd⟩:=F.ex
  refine zez lk hcd S len fun A outer s H vs Q E hr hsp=>?_
  obtain ⟨t,h,q⟩:=hbody cdv A outer s H vs Q E hr hsp
  exact ⟨t,h.nox,q⟩
theorem Fun.binds {x qual:Str} {st:Stmt} {f:Addr} {fd:FuncData} {ps:List Str} (F:Fun K x qual st f fd)
    (h:∀ (kV doc pm:Value) (an:Option Addr) (cdv ct:Value) (us:List Value),us.length=ps.length→bindArgs (PySem.W.fnOf x qual (z3l st) (z1q st) (z04 st) .none kV doc pm an cdv ct) ⟨us,[]⟩=pure (ps.zip us)):Binds K fd ps []:=by
  obtain ⟨oc,od,kV,doc,pm,an,cdv,ct,osl,rfl,lk,hcd⟩:=F.ex
  exact .all (h kV doc pm an cdv ct)
theorem zhp {x qual:Str} {st:Stmt} {f:Addr} {oc:Value} {od an:Option Addr} {osl:Array (Option Value)} {kV doc pm cdv ct:Value} (l:K.lookup f=some ⟨oc,od,.func (PySem.W.fnOf x qual (z3l st) (z1q st) (z04 st) .none kV doc pm an cdv ct),osl⟩)
    (c:PySem.W.codeIn K cdv qual=true) (k:PySem.W.keepIn K (.ref f)=true):Fun K x qual st f (PySem.W.fnOf x qual (z3l st) (z1q st) (z04 st) .none kV doc pm an cdv ct):=⟨⟨oc,od,kV,doc,pm,an,cdv,ct,osl,rfl,l,c⟩,k⟩
end
section
variable {X:Cx}
end
theorem iteF {A B:Prop} (h:B):if false=true then A else B:=by
  rw [if_neg Bool.false_ne_true]
  exact h
theorem iteT {A B:Prop} (h:A):if true=true then A else B:=by
  rw [if_pos rfl]
  exact h
def Same (H H':Hp):Prop:=∀ b o,H b=some o→H' b=some o
theorem Same.refl (H:Hp):Same H H:=fun _ _ h=>h
theorem Same.trans {H H1 H2:Hp} (a:Same H H1) (b:Same H1 H2):Same H H2:=fun c o h=>b c o (a c o h)
theorem Same.free {H H':Hp} (e:Same H H') {l:Addr} (h:H' l=Option.none):H l=Option.none:=by
  cases q:H l with
  | none=>rfl
  | some o=>
    rw [e l o q] at h
    cases h
theorem z37 {β:Type} (x y:Str) (c:β) (acc:List (Str×β)):((y,c)::acc).lookup x=if x=y then some c else acc.lookup x:=by
  rw [List.lookup_cons]
  by_cases e:x=y
  · have hb:(x==y)=true:=beq_iff_eq.mpr e
    rw [hb,if_pos e]
  · have hb:(x==y)=false:=beq_eq_false_iff_ne.mpr e
    rw [hb,if_neg e]
def z18 (env:Env):List (Str×NameKind)→List (Str×Addr)→List (Str×Addr)
  | [],acc=>acc
  | (x,k)::r,acc=>z18 env r (if k==.free then (x,(env.cells.lookup x).getD 0)::acc else acc)
theorem z6a {env:Env}:∀ (l:List (Str×NameKind)) (acc:List (Str×Addr)),(∀ x,(x,NameKind.free)∈l→∃ c,env.cells.lookup x=some c)→
    (forIn l acc (fun (x:Str×NameKind) (r:List (Str×Addr))=>match x with
      | (name,kind)=>if (kind==NameKind.free)=true then (do let a ← cellOf env name;pure (ForInStep.yield ((name,a)::r))) else (pure (ForInStep.yield r):Sem (ForInStep (List (Str×Addr))))))=(pure (z18 env l acc):Sem (List (Str×Addr)))
  | [],acc,_=>rfl
  | (x,k)::l,acc,h=>by
    rw [List.forIn_cons]
    dsimp only
    cases hk:k==NameKind.free with
    | true=>
      have e:k=.free:=by cases k <;> first | rfl | cases hk
      subst e
      obtain ⟨c,hc⟩:=h x (List.mem_cons_self ..)
      rw [if_pos rfl,show z18 env ((x,NameKind.free)::l) acc=z18 env l ((x,c)::acc) by rw [z18,if_pos hk,hc];rfl,← z6a l ((x,c)::acc) fun y hy=>h y (List.mem_cons_of_mem _ hy)]
      unfold cellOf
      rw [hc]
      rfl
    | false=>
      rw [if_neg (by simp),show z18 env ((x,k)::l) acc=z18 env l acc by rw [z18,hk];rfl,← z6a l acc fun y hy=>h y (List.mem_cons_of_mem _ hy)]
      rfl
theorem z2e {env:Env} {scope:Scope} (h:∀ x,(x,NameKind.free)∈scope.names→∃ c,env.cells.lookup x=some c):closureFor scope env=pure (z18 env scope.names []):=by
  unfold closureFor
  have:=z6a (env:=env) scope.names [] h
  show (forIn scope.names [] _ >>= fun cs=>pure cs)=_
  exact (congrArg (fun (m:Sem (List (Str×Addr)))=>m >>= fun cs=>pure cs) this)
theorem z2p {env:Env} {x:Str}:∀ (l:List (Str×NameKind)) (acc:List (Str×Addr)),((x,NameKind.free)∈l∨acc.lookup x=some ((env.cells.lookup x).getD 0))→(z18 env l acc).lookup x=some ((env.cells.lookup x).getD 0)
  | [],acc,h=>h.elim (fun z=>nomatch z) id
  | (y,k)::l,acc,h=>by
    rw [z18]
    cases hk:k==NameKind.free with
    | true=>
      refine z2p l _ ?_
      rw [if_pos rfl]
      by_cases e:x=y
      · subst e
        right
        rw [z37,if_pos rfl]
      · rcases h with h | h
        · rcases List.mem_cons.mp h with h | h
          · cases h;exact absurd rfl e
          · exact .inl h
        · right
          rw [z37,if_neg e]
          exact h
    | false=>
      refine z2p l _ ?_
      rcases h with h | h
      · rcases List.mem_cons.mp h with h | h
        · cases h;simp at hk
        · exact .inl h
      · exact .inr h
structure BlkCells (h h':Heap) (names:List (Str×NameKind)) (acc cs:List (Str×Addr)):Prop where
  cases:∀ x c,cs.lookup x=some c→acc.lookup x=some c∨(h.objs.size≤c∧h'.IsCell c none∧(x,NameKind.cell)∈names)
  own:∀ x,(x,NameKind.cell)∈names→∃ c,cs.lookup x=some c
  old:∀ x,(x,NameKind.cell)∉names→cs.lookup x=acc.lookup x
  inj:(∀ x y c,acc.lookup x=some c→acc.lookup y=some c→x=y)→(∀ x c,acc.lookup x=some c→c<h.objs.size)→∀ x y c,cs.lookup x=some c→cs.lookup y=some c→x=y
theorem z38:∀ (names:List (Str×NameKind)) (h:Heap) (acc:List (Str×Addr)),BlkCells h (pushCells h names) names acc (cellsFrom h.objs.size names acc)
  | [],h,acc=>{ cases:=fun _ _ e=>.inl e,own:=fun _ z=>(nomatch z),old:=fun _ _=>rfl,inj:=fun a _=>a }
  | (y,k)::r,h,acc=>by
    cases hk:k==NameKind.cell with
    | true=>
      have ek:k=.cell:=by cases k <;> first | rfl | cases hk
      subst ek
      have ih:=z38 r (h.push { cls:=.type "cell",data:=.cell none }) ((y,h.objs.size)::acc)
      have e1:pushCells h ((y,NameKind.cell)::r)=pushCells (h.push { cls:=.type "cell",data:=.cell none }) r:=rfl
      have e2:cellsFrom h.objs.size ((y,NameKind.cell)::r) acc=cellsFrom (h.push { cls:=.type "cell",data:=.cell none }).objs.size r ((y,h.objs.size)::acc):=by
        rw [Heap.size_push];rfl
      rw [e1,e2]
      have look:∀ x,((y,h.objs.size)::acc).lookup x=if x=y then some h.objs.size else acc.lookup x:=fun x=>z37 ..
      refine ⟨fun x c e=>?_,fun x hx=>?_,fun x hx=>?_,fun h1 h2 x z c ex ez=>?_⟩
      · rcases ih.cases x c e with q | ⟨q1,q2,q3⟩
        · rw [look] at q
          by_cases exy:x=y
          · rw [if_pos exy] at q
            cases q
            refine .inr ⟨Nat.le_refl _,⟨_,pushCells_keeps r _ _ _ (Heap.get?_push_size _ rfl),rfl⟩,by rw [exy];exact List.mem_cons_self ..⟩
          · rw [if_neg exy] at q
            exact .inl q
        · rw [Heap.size_push] at q1
          exact .inr ⟨Nat.le_of_succ_le q1,q2,List.mem_cons_of_mem _ q3⟩
      · by_cases hr:(x,NameKind.cell)∈r
        · exact ih.own x hr
        · rw [ih.old x hr,look]
          rcases List.mem_cons.mp hx with z | z
          · cases z;exact ⟨_,if_pos rfl⟩
          · exact absurd z hr
      · rw [ih.old x fun z=>hx (List.mem_cons_of_mem _ z),look,if_neg]
        rintro rfl
        exact hx (List.mem_cons_self ..)
      · refine ih.inj ?_ ?_ x z c ex ez
        · intro a b c ea eb
          rw [look] at ea eb
          by_cases qa:a=y
          · rw [if_pos qa] at ea
            cases ea
            by_cases qb:b=y
            · exact qa.trans qb.symm
            · rw [if_neg qb] at eb
              exact absurd (h2 b _ eb) (Nat.lt_irrefl _)
          · rw [if_neg qa] at ea
            by_cases qb:b=y
            · rw [if_pos qb] at eb
              cases eb
              exact absurd (h2 a _ ea) (Nat.lt_irrefl _)
            · rw [if_neg qb] at eb
              exact h1 a b c ea eb
        · intro a c ea
          rw [Heap.size_push]
          rw [look] at ea
          by_cases qa:a=y
          · rw [if_pos qa] at ea;cases ea;exact Nat.lt_succ_self _
          · rw [if_neg qa] at ea
            exact Nat.lt_succ_of_lt (h2 a c ea)
    | false=>
      have ih:=z38 r h acc
      have e1:pushCells h ((y,k)::r)=pushCells h r:=by rw [pushCells,hk];rfl
      have e2:cellsFrom h.objs.size ((y,k)::r) acc=cellsFrom h.objs.size r acc:=by rw [cellsFrom,hk];rfl
      rw [e1,e2]
      have nk:∀ x,(x,NameKind.cell)∈(y,k)::r→(x,NameKind.cell)∈r:=fun x z=>by
        rcases List.mem_cons.mp z with z | z
        · cases z;simp at hk
        · exact z
      exact ⟨fun x c e=>(ih.cases x c e).imp id fun ⟨a,b,c⟩=>⟨a,b,List.mem_cons_of_mem _ c⟩,fun x hx=>ih.own x (nk x hx),fun x hx=>ih.old x fun z=>hx (List.mem_cons_of_mem _ z),ih.inj⟩
def zhq (scope:Scope) (env:Env) (L:Addr):Env:=
  { scope:=relabel scope env,locals:=L,globals:=env.globals,cells:=cellsFrom (L+1) scope.names (z18 env scope.names []),qual:=env.qual,func:=none,code:=env.code,frame:=env.frame,builtins:=env.builtins }
theorem zau {M:Model} {A:Around} {E:Value→Shared→Prop} {s:Shared} {scope:Scope} {env:Env} {cl:List (Str×Addr)} {qual:Str} {g:Addr} {Q:Env→Shared→Prop}
    (h:Q { scope:=scope,locals:=s.heap.objs.size,globals:=g,cells:=cellsFrom (s.heap.objs.size+1) scope.names cl,qual:=qual,func:=none,code:=env.code,frame:=env.frame,builtins:=env.builtins }
      { s with heap:=pushCells (s.heap.push { cls:=.type "dict",data:=.dict #[] }) scope.names }):
    wpAny M A (newFunctionEnv scope g cl [] qual none .none (some env)) Q E s:=by
  simp only [newFunctionEnv,Option.isSome_some,if_true]
  refine wpAny_bind (wpAny_alloc ?_)
  refine wpAny_bind (wpAny_layCells _ (fun name kind cells=>by cases hkc:kind==NameKind.cell <;> simp [hkc]) _ _ _ _ ?_)
  rw [show ({ s with heap:=s.heap.push { cls:=.type "dict",data:=.dict #[] } }:Shared).heap.objs.size=s.heap.objs.size+1 from Heap.size_push ..]
  exact wpAny_bind (wpAny_pure (wpAny_pure h))
def blk (X:Cx) (scope:Scope) (N:List Str) (s:Shared) (H:Hp) (ex:List Addr):Cx:=
  { X with N:=N,s₀:=s,H₀:=H,env:=zhq scope X.env s.heap.objs.size,outer:=X.stack,stack:=X.stack,ex:=ex,fn:=fun x=>scope.names.lookup x==some .cell,xe:=fun _ _=>False }
def zav (cap:List (Option Nat)) (σ:St):St:=cap.map fun o=>match o with | some j=>(σ[j]?).getD none | none=>none
structure CapOk (X:Cx) (scope:Scope) (N:List Str) (cap:List (Option Nat)):Prop where
  kind:scope.kind=.function
  nd:∀ x∈scope.names,x.2=.local→scope.names.lookup x.1=some .local
  len:cap.length=N.length
  free:∀ x,(x,NameKind.free)∈scope.names→X.env.kindOf x=some .cell∨X.env.kindOf x=some .free
  apart:∀ x,(x,NameKind.free)∈scope.names→(x,NameKind.cell)∉scope.names
  cap:∀ (i j:Nat) (x:Str),cap[i]?=some (some j)→N[i]?=some x→X.N[j]?=some x∧(x,NameKind.free)∈scope.names∧(relabel scope X.env).names.lookup x≠some .local
theorem z24 {scope:Scope} {env:Env} {x:Str}:∀ {l:List (Str×NameKind)} {k:NameKind},(l.map fun (n,k)=>if (k==NameKind.free&&env.scope.kind==.function&&env.kindOf n==some .cell) then (n,NameKind.cell) else (n,k)).lookup x=some k→
    (x,k)∈l∨(k=.cell∧(x,NameKind.free)∈l)
  | [],_,h=>by simp at h
  | (n,q)::r,k,h=>by
    have ih:=@z24 scope env x r k
    rw [List.map_cons] at h
    by_cases hc:(q==NameKind.free&&env.scope.kind==.function&&env.kindOf n==some .cell)=true
    · have hq:q=.free:=by
        have:(q==NameKind.free)=true:=by
          cases z:q==NameKind.free with
          | true=>rfl
          | false=>rw [z] at hc;simp at hc
        cases q <;> first | rfl | cases this
      dsimp only at h
      rw [if_pos hc,List.lookup_cons] at h
      cases e:x==n with
      | true=>
        rw [e] at h
        have h':NameKind.cell=k:=Option.some.inj h
        subst h'
        have ex:=beq_iff_eq.mp e
        subst ex;subst hq
        exact .inr ⟨rfl,List.mem_cons_self ..⟩
      | false=>
        rw [e] at h
        exact (ih h).imp (List.mem_cons_of_mem _) fun ⟨a,b⟩=>⟨a,List.mem_cons_of_mem _ b⟩
    · dsimp only at h
      rw [if_neg hc,List.lookup_cons] at h
      cases e:x==n with
      | true=>
        rw [e] at h
        have h':q=k:=Option.some.inj h
        subst h'
        have ex:=beq_iff_eq.mp e
        subst ex
        exact .inl (List.mem_cons_self ..)
      | false=>
        rw [e] at h
        exact (ih h).imp (List.mem_cons_of_mem _) fun ⟨a,b⟩=>⟨a,List.mem_cons_of_mem _ b⟩
theorem z2v {env:Env} {x:Str} {c:Addr}:∀ (l:List (Str×NameKind)) (acc:List (Str×Addr)),(z18 env l acc).lookup x=some c→acc.lookup x=some c∨((x,NameKind.free)∈l∧c=(env.cells.lookup x).getD 0)
  | [],acc,h=>.inl h
  | (y,k)::l,acc,h=>by
    rw [z18] at h
    cases hk:k==NameKind.free with
    | true=>
      have ek:k=.free:=by cases k <;> first | rfl | cases hk
      subst ek
      rw [if_pos hk] at h
      rcases z2v l _ h with q | ⟨q1,q2⟩
      · rw [z37] at q
        by_cases e:x=y
        · rw [if_pos e] at q
          subst e
          exact .inr ⟨List.mem_cons_self ..,(Option.some.inj q).symm⟩
        · rw [if_neg e] at q
          exact .inl q
      · exact .inr ⟨List.mem_cons_of_mem _ q1,q2⟩
    | false=>
      rw [if_neg (by rw [hk];exact Bool.false_ne_true)] at h
      exact (z2v l _ h).imp id fun ⟨a,b⟩=>⟨List.mem_cons_of_mem _ a,b⟩
section
variable {X:Cx} {pins:List (Addr×Obj)} {σ:St} {H:Hp} {s:Shared} {scope:Scope} {N:List Str} {cap:List (Option Nat)} {ex:List Addr}
theorem z44 (I:Inv X pins σ H s) (C:CapOk X scope N cap) {x:Str} {c:Addr} (e:(z18 X.env scope.names []).lookup x=some c):(x,NameKind.free)∈scope.names∧X.env.cells.lookup x=some c:=by
  rcases z2v _ _ e with q | ⟨q1,q2⟩
  · cases q
  · obtain ⟨c',h'⟩:=I.ok.has x (C.free x q1)
    rw [h'] at q2
    subst q2
    exact ⟨q1,h'⟩
theorem z45 (I:Inv X pins σ H s) (C:CapOk X scope N cap) {x:Str} {c:Addr} (e:(zhq scope X.env s.heap.objs.size).cells.lookup x=some c):
    (X.env.cells.lookup x=some c∧(x,NameKind.free)∈scope.names)∨(s.heap.objs.size<c∧(pushCells (s.heap.push { cls:=.type "dict",data:=.dict #[] }) scope.names).IsCell c none∧(x,NameKind.cell)∈scope.names):=by
  have B:=z38 scope.names (s.heap.push { cls:=.type "dict",data:=.dict #[] }) (z18 X.env scope.names [])
  rw [Heap.size_push] at B
  rcases B.cases x c e with q | ⟨q1,q2,q3⟩
  · obtain ⟨a,b⟩:=z44 I C q
    exact .inl ⟨b,a⟩
  · rw [Heap.size_push] at q1
    exact .inr ⟨q1,q2,q3⟩
theorem zhr (I:Inv X pins σ H s) (C:CapOk X scope N cap) (hex:∀ b∈ex,FpOk X pins H b∧b<s.heap.objs.size):(blk X scope N s H ex).Ok:=by
  have B:=z38 scope.names (s.heap.push { cls:=.type "dict",data:=.dict #[] }) (z18 X.env scope.names [])
  rw [Heap.size_push] at B
  have kf:∀ x,(x,NameKind.free)∈scope.names→∃ c,X.env.cells.lookup x=some c:=fun x hx=>I.ok.has x (C.free x hx)
  refine ⟨I.ok.mod,C.kind,I.ok.glob,I.ok.blt,Nat.le_refl _, ?_, ?_, ?_,I.ok.hd,I.ok.frames,.inl rfl, ?_,I.bs,Nat.le_trans I.ok.bsz I.sz, ?_, ?_,I.stack,I.stkFree⟩
  · refine B.inj (fun x y c e1 e2=>?_) fun x c e=>?_
    · exact I.ok.inj x y c (z44 I C e1).2 (z44 I C e2).2
    · obtain ⟨v,q⟩:=I.cell x c (z44 I C e).2
      rw [Heap.size_push]
      exact Nat.lt_succ_of_lt q.lt
  · intro x hx
    have hx':(relabel scope X.env).names.lookup x=some .cell∨(relabel scope X.env).names.lookup x=some .free:=hx
    have mem:(x,NameKind.cell)∈scope.names∨(x,NameKind.free)∈scope.names:=by
      rcases hx' with h | h
      · rcases z24 (scope:=scope) h with q | ⟨_,q⟩
        · exact .inl q
        · exact .inr q
      · rcases z24 (scope:=scope) h with q | ⟨z,q⟩
        · exact .inr q
        · exact .inr q
    by_cases hc:(x,NameKind.cell)∈scope.names
    · exact B.own x hc
    · rcases mem with h | h
      · exact absurd h hc
      · exact ⟨_,(B.old x hc).trans (z2p _ _ (.inl h))⟩
  · intro x c hf e
    have hf':(scope.names.lookup x==some .cell)=true:=hf
    have hm:(x,NameKind.cell)∈scope.names:=PySem.mem_of_lookup (eq_of_beq hf')
    rcases z45 I C e with ⟨_,q⟩ | ⟨q,_⟩
    · exact absurd hm (C.apart x q)
    · exact Nat.le_of_lt q
  · intro b hb
    obtain ⟨⟨f0,f1,f2,f3,f4,f5⟩,hlt⟩:=hex b hb
    refine ⟨Nat.ne_of_lt hlt,fun x c e z=>?_⟩
    rcases z45 I C e with ⟨q,_⟩ | ⟨q,_⟩
    · exact f4 x c q z
    · subst z;exact Nat.lt_irrefl _ (Nat.lt_trans q hlt)
  · intro b o e hb
    obtain ⟨⟨f0,f1,f2,f3,f4,f5⟩,hlt⟩:=hex b hb
    rcases f3 with q | q
    · exact I.ok.noex b o e q
    · exact Nat.lt_irrefl _ (Nat.lt_of_lt_of_le (Heap.lt_size e) (Nat.le_trans I.ok.bsz q))
  · intro b hb z
    obtain ⟨⟨f0,f1,f2,f3,f4,f5⟩,hlt⟩:=hex b hb
    rcases List.mem_cons.mp (I.stkSub b z) with q | q
    · exact f1 q
    · exact f2 q
theorem zj7 (I:Inv X pins σ H s) (C:CapOk X scope N cap) (hex:∀ b∈ex,FpOk X pins H b∧b<s.heap.objs.size):
    Inv (blk X scope N s H ex) pins (zav cap σ) H { s with heap:=pushCells (s.heap.push { cls:=.type "dict",data:=.dict #[] }) scope.names }:=by
  have B:=z38 scope.names (s.heap.push { cls:=.type "dict",data:=.dict #[] }) (z18 X.env scope.names [])
  rw [Heap.size_push] at B
  have kp:∀ b o,s.heap.get? b=some o→(pushCells (s.heap.push { cls:=.type "dict",data:=.dict #[] }) scope.names).get? b=some o:=fun b o e=>pushCells_keeps _ _ _ _ (Heap.get?_push_of_some _ e)
  have ns:(pushCells (s.heap.push { cls:=.type "dict",data:=.dict #[] }) scope.names).Ns s.heap.objs.size (fun _=>none):=
    ⟨_,#[],_,pushCells_keeps _ _ _ _ (Heap.get?_push_size _ rfl),rfl,(fun e he=>absurd he (by simp)),fun _=>rfl⟩
  obtain ⟨m,hn,hl⟩:=I.loc
  refine ⟨zhr I C hex,rfl,I.bare,Un.kept kp,⟨_,ns,fun i x v h1 h2 h3=>?_⟩,fun x c e=>?_,I.hok.fresh (Nat.le_refl _),fun x c e=>?_,fun p hp=>?_,I.hok.kept kp, ?_⟩
  · have h2':(cap.map fun o=>match o with | some j=>(σ[j]?).getD none | none=>none)[i]?=some (some v):=h2
    rw [List.getElem?_map] at h2'
    cases q:cap[i]? with
    | none=>rw [q] at h2';cases h2'
    | some o=>
      rw [q] at h2'
      cases o with
      | none=>cases h2'
      | some j=>
        have e1:(σ[j]?).getD none=some v:=Option.some.inj h2'
        have e2:σ[j]?=some (some v):=by
          cases z:σ[j]? with
          | none=>rw [z] at e1;cases e1
          | some w=>rw [z] at e1;exact congrArg some e1
        obtain ⟨c1,c2,c3⟩:=C.cap i j x q h1
        have vis:Vis X.env.scope x:=by
          rcases C.free x c2 with z | z
          · exact .inr (.inl z)
          · exact .inr (.inr z)
        obtain ⟨u,r,l⟩:=hl j x v c1 e2 vis
        refine ⟨u,r, ?_⟩
        rcases l with ⟨hk,hm⟩ | ⟨hk,c,hc,hcell⟩
        · rcases C.free x c2 with z | z
          · rw [z] at hk;cases hk
          · rw [z] at hk;cases hk
        · refine .inr ⟨?_,c, ?_, ?_⟩
          · have h3':Vis (relabel scope X.env) x:=h3
            rcases h3' with z | z | z
            · exact absurd z c3
            · exact .inl z
            · exact .inr z
          · have:=(B.old x (C.apart x c2)).trans (z2p _ _ (.inl c2))
            rw [hc] at this
            exact this
          · obtain ⟨o,ho,hd⟩:=hcell
            exact ⟨o,kp _ _ ho,hd⟩
  · rcases z45 I C e with ⟨q,_⟩ | ⟨_,q,_⟩
    · obtain ⟨v,o,ho,hd⟩:=I.cell x c q
      exact ⟨v,o,kp _ _ ho,hd⟩
    · exact ⟨none,q⟩
  · rcases z45 I C e with ⟨q,_⟩ | ⟨q,_⟩
    · exact I.freeC x c q
    · exact I.hok.fresh (Nat.le_of_lt q)
  · obtain ⟨a1,a2,a3,a4,a5⟩:=I.pin p hp
    refine ⟨kp _ _ a1,a2,Nat.ne_of_lt (Heap.lt_size a1),fun z=>?_,a5⟩
    rcases List.mem_cons.mp (I.stkSub _ z) with q | q
    · exact a3 q
    · exact a4 q
  · show (cap.map _).length=N.length
    rw [List.length_map];exact C.len
theorem zmd (I:Inv X pins σ H s) (C:CapOk X scope N cap) (hex:∀ b∈ex,FpOk X pins H b∧b<s.heap.objs.size):∀ b∈ex,FpOk (blk X scope N s H ex) pins H b:=by
  intro b hb
  obtain ⟨⟨f0,f1,f2,f3,f4,f5⟩,hlt⟩:=hex b hb
  have ok:=zhr (N:=N) I C hex
  exact ⟨f0,(ok.exf b hb).1,ok.exfs b hb,.inl hb,(ok.exf b hb).2,f5⟩
theorem zj8 {σ':St} {H':Hp} {s':Shared} {h':Heap} (I:Inv X pins σ H s) (hex:∀ b∈ex,FpOk X pins H b∧b<s.heap.objs.size) (I':Inv (blk X scope N s H ex) pins σ' H' s') (hh:Heap.SameBut s.heap.objs.size s'.heap h'):
    Inv X pins σ H' { s' with heap:=h' }:=by
  have u:Un (frs X.stack) ex H H' s.heap s'.heap:=I'.base
  have up:∀ b o o',s.heap.get? b=some o→s'.heap.get? b=some o'→h'.get? b=some o':=fun b o o' e e'=>(hh.2 b (Nat.ne_of_lt (Heap.lt_size e))).trans e'
  have hL:H' s.heap.objs.size=none:=I'.free
  refine I.call' (s':={ s' with heap:=h' }) (ch:=ex) I'.os ⟨fun b o q n hb hx=>up b o o q (u.keep b o q n hb hx),fun b o q n hb hx=>?_,u.free,fun b o q hx=>?_,u.tups,u.frzs,u.tbls⟩ (fun b o e=>?_) I'.bare fun b hb=>?_
  · obtain ⟨sl,e⟩:=u.slot b o q n hb hx
    exact ⟨sl,up b o _ q e⟩
  · obtain ⟨o',e⟩:=u.there b o q hx
    exact ⟨o',up b o _ q e⟩
  · refine (I'.hok b o e).stay (fun c v hc q=>(hh.2 c ?_).trans q) (fun _ q=>q) fun _ _ q=>q
    rcases hc with z | z
    · rw [z];rintro rfl;rw [hL] at e;cases e
    · rintro rfl;rw [hL] at z;cases z
  · obtain ⟨⟨f0,f1,f2,f3,f4,f5⟩,hlt⟩:=hex b hb
    exact ⟨f3,f1,f4,f5⟩
theorem Inv.adopt {a:Addr} {o:HO} (I:Inv X pins σ H s) (f:FpOk X pins H a) (ha:X.s₀.heap.objs.size≤a) (new:ObjOk X.prog X.w (upd H a o) s.heap a o):Inv X pins σ (upd H a o) s:=by
  obtain ⟨f0,f1,f2,f3,f4,f5⟩:=f
  have ne0:∀ b ob,X.s₀.heap.get? b=some ob→b≠a:=fun b ob e z=>by subst z;exact Nat.lt_irrefl _ (Nat.lt_of_lt_of_le (Heap.lt_size e) ha)
  refine ⟨I.ok,I.os,I.bare,⟨I.base.keep,I.base.slot,fun b ob e n hx=>by rw [z0d (ne0 b ob e)];exact I.base.free b ob e n hx,I.base.there,fun b xs e=>?_,fun b ob u e=>?_,fun b ps e=>?_⟩,I.loc,I.cell,by rw [z0d (Ne.symm f1)];exact I.free,
    fun x c e=>by rw [z0d (f4 x c e)];exact I.freeC x c e,fun p hp=>?_,fun b u e=>?_,I.len⟩
  · have:=I.base.tups b xs e
    rw [z0d (z0h this f0)];exact this
  · have:=I.base.frzs b ob u e
    rw [z0d (z0h this f0)];exact this
  · obtain ⟨more,this⟩:=I.base.tbls b ps e
    exact ⟨more,by rw [z0d (z0h this f0)];exact this⟩
  · obtain ⟨a1,a2,a3,a4,a5⟩:=I.pin p hp
    exact ⟨a1,by rw [z0d (f5 p hp)];exact a2,a3,a4,a5⟩
  · by_cases hb:b=a
    · subst hb;rw [z0b] at e;cases e;exact new
    · rw [z0d hb] at e
      exact (I.hok b u e).stay (fun _ _ _ q=>q) (fun c q=>by rw [z0d (z0h q f0)];exact q) fun c xs q=>by rw [z0d (z0h q f0)];exact q
end
def AccAt (s:Shared) (D:Addr) (xs:List V):Prop:=xs.length≤sizeLine∧∃ (its:List Value) (n:Nat),Vals xs its∧s.heap.get? D=some { cls:=.type "list",data:=.seq its.toArray n }
abbrev TC:=St→Hp→List V→(St→Hp→List V→Prop)→Prop
def PCl (X:Cx) (D:Addr) (m:Sem Unit) (t:TC):Prop:=
  ∀ (pins:List (Addr×Obj)) (s:Shared) (σ:St) (H:Hp) (xs:List V) (K:St→Hp→List V→Prop),Inv X pins σ H s→AccAt s D xs→FpOk X pins H D→t σ H xs K→
    wpAny (model X.prog X.w) X.A m (fun _ s'=>∃ σ' H' xs',Inv X pins σ' H' s'∧AccAt s' D xs'∧H' D=none∧K σ' H' xs') X.xe s
section
variable {X:Cx} {D:Addr}
theorem AccAt.obj {s:Shared} {xs:List V} (a:AccAt s D xs):∃ o,s.heap.get? D=some o∧∀ v,o.data≠.cell v:=by
  obtain ⟨_,its,n,_,e⟩:=a
  exact ⟨_,e,fun v z=>nomatch z⟩
theorem Inv.pinD {pins:List (Addr×Obj)} {s:Shared} {σ:St} {H:Hp} {xs:List V} (I:Inv X pins σ H s) (a:AccAt s D xs) (f:FpOk X pins H D):Inv X (pins++z2j [D] s.heap) σ H s:=
  I.pinned (fun b hb=>by (have e:b=D:=by simpa using hb);subst e;exact f) fun b hb=>by
    have e:b=D:=by simpa using hb
    subst e
    exact a.obj
theorem Inv.atD {pins:List (Addr×Obj)} {s s':Shared} {σ':St} {H':Hp} {xs:List V} (a:AccAt s D xs) (I:Inv X (pins++z2j [D] s.heap) σ' H' s'):AccAt s' D xs∧H' D=none:=by
  obtain ⟨z,its,n,r,e⟩:=a
  have:=I.pin (D,_) (List.mem_append_right _ (List.mem_append_right _ (z1t (by simp) e)))
  exact ⟨⟨z,its,n,r,this.1⟩,this.2.1⟩
def zme (te:TE):TC:=fun σ H xs K=>te σ H fun v H1=>xs.length<sizeLine∧K σ H1 (xs++[v])
theorem z6b {elt:Expr} {te:TE} (he:PE X elt te):PCl X D (do let x ← eval elt X.env;let _ ← call (.builtin "list.append") [.ref D,x];pure ()) (zme te):=by
  intro pins s σ H xs K I a f h
  refine wpAny_bind (thn (he _ s σ H _ (I.pinD a f) h) fun u s1 ⟨v,H1,I1,r1,hz,q1⟩=>?_)
  obtain ⟨a1,n1⟩:=Inv.atD a I1
  have I1':=I1.unpinned
  obtain ⟨z,its,n,r,e⟩:=a1
  have hl:=r.length
  refine wpAny_bind (call_meets F.slot_list_append ⟨_,e,rfl⟩ F.entry_list_append (F.args_list_append_2 _ _) (PySem.list_append D its.toArray n u (by rw [List.size_toArray];omega)) ⟨e, ?_⟩)
  have q:=PySem.IsL.update e (·.push u)
  have e2:its.toArray.push u=(its++[u]).toArray:=by simp
  rw [e2] at q
  refine wpAny_pure ⟨σ,H1,xs++[v], ?_,⟨by rw [List.length_append,List.length_singleton];omega,its++[u],_,r.append (.cons r1 .nil),q⟩,n1,q1⟩
  obtain ⟨f0,f1,f2,f3,f4,f5⟩:=f
  exact I1'.turned (t':=s1.toks) (fun b o hb z=>(Heap.get?_update_other s1.heap _ (Ne.symm hb)).trans z) n1 f1 f3 f4 f5
def z9f (ifs:List Expr) (env:Env):Sem Bool:=forIn ifs true fun c r=>if r=true then do let ok ← isTrue c env (eval c env);pure (ForInStep.yield ok) else pure (ForInStep.yield r)
def PTs (X:Cx) (ifs:List Expr) (t:TT):Prop:=
  ∀ (pins:List (Addr×Obj)) (s:Shared) (σ:St) (H:Hp) (Q:Bool→Hp→Prop),Inv X pins σ H s→t σ H Q→wpAny (model X.prog X.w) X.A (z9f ifs X.env) (TP X pins σ Q) X.xe s
def zj9:TT:=fun _ H Q=>Q true H
theorem zja:PTs X [] zj9:=fun pins s σ H Q I h=>wpAny_tests_nil ⟨H,I,h⟩
theorem zjb {c:Expr} {t:TT} (h:PT X c t):PTs X [c] t:=fun pins s σ H Q I q=>wpAny_tests_one (h pins s σ H Q I q)
def z12 (p:Pos) (it:Value) (tg:Expr) (ifs:List Expr) (env:Env) (inner:Sem Unit) (c:Code):Sem PySem.Fin:=do
  standAt p
  match ← pyNext it with
  | none=>pure (.done .next)
  | some v=>do
    letOwnedTupleGo tg it v
    assign tg env v
    let ok ← z9f ifs env
    if ok=true then do inner;again c
    else again c
def z7c (J:It) (g:TG) (tt:TT) (inner:TC) (K:St→Hp→List V→Prop) (σ:St) (H:Hp) (xs:List V):Prop:=
  ∃ W:Nat→Nat→St→Hp→List V→Prop,(∃ m,W 0 m σ H xs)∧∀ i m σ H xs,W i m σ H xs→
    (J.stop i H∧K σ H xs)∨(J.go i H∧∃ N:St→Hp→List V→Prop,(∀ σ' H' xs',N σ' H' xs'→∃ m',m'<m∧W (i+1) m' σ' H' xs') ∧
      ∀ x H',J.yld i H x H'→g x σ H' fun σ2 H2=>tt σ2 H2 fun b H3=>if b=true then inner σ2 H3 xs N else N σ2 H3 xs)
theorem z7d {elt:Expr} {gens:List Comprehension} {sc:Scope} {ps:Pos} {d:Nat} {it:Addr} {tg:Expr} {ifs:List Expr} {p:Pos} {inner:Sem Unit} {g:TG} {tt:TT} {ti:TC} {J:It} {fp:List Addr} {tn:Nat→Heap→Prop}
    (hx:X.xe=fun _ _=>False) (hc:X.calm=true)
    (ht:compTurn (.ListComp elt gens sc ps) d (.ref it) (.ref D) X.env=z12 p (.ref it) tg ifs X.env inner (.compLoop (.ListComp elt gens sc ps) d (.ref it) (.ref D) X.env))
    (hg:PG X tg g) (htt:PTs X ifs tt) (hi:PCl X D inner ti) (T:Turn X.prog X.w X.K tg J fp it tn)
    {pins:List (Addr×Obj)} {s:Shared} {σ:St} {H:Hp} {xs:List V} {K:St→Hp→List V→Prop} {R:Result→Shared→Prop} (I:Inv X pins σ H s) (a:AccAt s D xs) (f:FpOk X pins H D) (st:tn 0 s.heap) (hf:∀ b∈fp,FpOk X pins H b) (hD:D∉fp)
    (h:z7c J g tt ti K σ H xs) (hR:∀ σ' H' xs' s',Inv X pins σ' H' s'→AccAt s' D xs'→H' D=none→K σ' H' xs'→R (.ok .next) s'):
    codeAny (model X.prog X.w) X.A (.compLoop (.ListComp elt gens sc ps) d (.ref it) (.ref D) X.env) R s:=by
  obtain ⟨W,⟨m0,w0⟩,turn⟩:=h
  have stat:∀ {H':Hp},(∀ b∈fp,H' b=none)→∀ b∈fp,FpOk X pins H' b:=fun hn b hb=>⟨hn b hb,(hf b hb).2⟩
  have statD:∀ {H':Hp},H' D=none→FpOk X pins H' D:=fun hn=>⟨hn,f.2⟩
  refine codeAny_loop rfl (fun n s'=>∃ i σ' H' xs',Inv X pins σ' H' s'∧AccAt s' D xs'∧H' D=none∧tn i s'.heap∧(∀ b∈fp,H' b=none)∧W i n σ' H' xs') ?_ m0 ⟨0,σ,H,xs,I,a,f.1,st,fun b hb=>(hf b hb).1,w0⟩
  rintro n s3 ⟨i,σ3,H3,xs3,I3,a3,n3,st3,fr3,w3⟩
  show wpAny _ X.A ((compTurn (.ListComp elt gens sc ps) d (.ref it) (.ref D) X.env).onRaise (fun x=>do noteFrame x X.env;theTreesLotGoes x)) _ _ s3
  rw [ht]
  refine wpAny_onRaise (wpAny_mono (Q:=fun fin s'=>match fin with | .done f=>R (.ok f) s' | .again c'=>c'=.compLoop (.ListComp elt gens sc ps) d (.ref it) (.ref D) X.env∧∃ m,m<n∧∃ i σ' H' xs',Inv X pins σ' H' s'∧AccAt s' D xs'∧H' D=none∧tn i s'.heap∧(∀ b∈fp,H' b=none)∧W i m σ' H' xs') (E:=fun _ _=>False) ?_ (fun _ _ z=>z) fun _ _ z=>z.elim)
  unfold z12
  refine wpAny_bind (wpAny_standAt (wpAny_bind ?_))
  have xe':∀ {α:Type} {m:Sem α} {Q:α→Shared→Prop} {s:Shared},wpAny (model X.prog X.w) X.A m Q X.xe s→wpAny (model X.prog X.w) X.A m Q (fun _ _=>False) s:=fun {α m Q s} z=>by rw [hx] at z;exact z
  have I3':=I3.pinD a3 (statD n3)
  have fr3':∀ b∈fp,FpOk X (pins++z2j [D] s3.heap) H3 b:=fun b hb=>by
    obtain ⟨g0,g1,g2,g3,g4,g5⟩:=stat fr3 b hb
    refine ⟨g0,g1,g2,g3,g4,fun p hp=>?_⟩
    rcases List.mem_append.mp hp with z | z
    · exact g5 p (List.mem_append_left _ z)
    · rcases List.mem_append.mp z with z | z
      · exact g5 p (List.mem_append_right _ z)
      · have:=(z4c z).1
        have e:p.1=D:=by simpa using this
        rw [e];rintro rfl;exact hD hb
  rcases turn i n σ3 H3 xs3 w3 with ⟨stop,qn⟩ | ⟨go,N,hN,step⟩
  · refine thn (T.done X rfl rfl rfl hc i _ s3 σ3 H3 (fun _ _=>False) I3' fr3' st3 stop) fun r s4 ⟨hr,I4⟩=>?_
    subst hr
    obtain ⟨a4,n4⟩:=Inv.atD a3 I4
    exact wpAny_pure (hR σ3 H3 xs3 s4 I4.unpinned a4 n4 qn)
  · refine thn (T.item X rfl rfl rfl hc i _ s3 σ3 H3 (fun _ _=>False) I3' fr3' st3 go) fun r s4 ⟨u,hr,h4⟩=>?_
    subst hr
    refine wpAny_bind (thn h4 fun _ s5 ⟨x,H5,I5,r5,y5,st5,fr5⟩=>?_)
    obtain ⟨a5,n5⟩:=Inv.atD a3 I5
    have I5u:=I5.unpinned
    have I5p:=I5u.pinned (stat fr5) (T.obj _ _ st5)
    have fD5:FpOk X (pins++z2j fp s5.heap) H5 D:=by
      obtain ⟨g0,g1,g2,g3,g4,g5⟩:=statD n5
      refine ⟨g0,g1,g2,g3,g4,fun p hp=>?_⟩
      rcases List.mem_append.mp hp with z | z
      · exact g5 p (List.mem_append_left _ z)
      · rcases List.mem_append.mp z with z | z
        · exact g5 p (List.mem_append_right _ z)
        · rintro rfl;exact hD (z4c z).1
    have I5':=I5p.pinD a5 fD5
    refine wpAny_bind (xe' (thn (hg _ s5 σ3 H5 x u _ I5' r5 (step x H5 y5)) fun _ s6 ⟨σ6,H6,I6,q6⟩=>?_))
    obtain ⟨a6,n6⟩:=Inv.atD a5 I6
    have pin':∀ {s σ H},Inv X (pins++z2j fp s5.heap) σ H s→tn (i+1) s.heap∧∀ b∈fp,H b=none:=fun {s σ H} J=>by
      refine ⟨T.keep _ _ _ st5 fun b hb o e=>(J.pin (b,o) (List.mem_append_right _ (List.mem_append_right _ (z1t hb e)))).1,fun b hb=>?_⟩
      obtain ⟨o,e,d⟩:=T.obj _ _ st5 b hb
      exact (J.pin (b,o) (List.mem_append_right _ (List.mem_append_right _ (z1t hb e)))).2.1
    have fD6:FpOk X (pins++z2j fp s5.heap) H6 D:=⟨n6,fD5.2⟩
    have I6u:=I6.unpinned
    have I6p:=I6u.pinD a6 fD6
    refine wpAny_bind (xe' (thn (htt _ s6 σ6 H6 _ I6p q6) fun b s7 ⟨H7,I7,q7⟩=>?_))
    obtain ⟨a7,n7⟩:=Inv.atD a6 I7
    have I7u:=I7.unpinned
    have fin:∀ {s8 σ8 H8 xs8},Inv X (pins++z2j fp s5.heap) σ8 H8 s8→AccAt s8 D xs8→H8 D=none→N σ8 H8 xs8→
        ∃ m,m<n∧∃ i σ' H' xs',Inv X pins σ' H' s8∧AccAt s8 D xs'∧H' D=none∧tn i s8.heap∧(∀ b∈fp,H' b=none)∧W i m σ' H' xs':=fun {s8 σ8 H8 xs8} J a8 n8 q8=>by
      obtain ⟨m',hm,w8⟩:=hN σ8 H8 xs8 q8
      obtain ⟨t8,fr8⟩:=pin' J
      exact ⟨m',hm,i+1,σ8,H8,xs8,J.unpinned,a8,n8,t8,fr8,w8⟩
    cases b with
    | true=>
      rw [if_pos rfl] at q7 ⊢
      have fD7:FpOk X (pins++z2j fp s5.heap) H7 D:=⟨n7,fD5.2⟩
      refine wpAny_bind (xe' (thn (hi _ s7 σ6 H7 xs3 N I7u a7 fD7 q7) fun _ s8 ⟨σ8,H8,xs8,I8,a8,n8,q8⟩=>?_))
      exact wpAny_pure ⟨rfl,fin I8 a8 n8 q8⟩
    | false=>
      rw [if_neg Bool.false_ne_true] at q7 ⊢
      exact wpAny_pure ⟨rfl,fin I7u a7 n7 q7⟩
end
theorem zhs (elt tg iter:Expr) (ifs:List Expr) (sc:Scope) (ps:Pos) (it:Value) (D:Addr) (env:Env):
    compTurn (.ListComp elt [⟨tg,iter,ifs,0⟩] sc ps) 0 it (.ref D) env =
      z12 iter.pos it tg ifs env (do let x ← eval elt env;let _ ← call (.builtin "list.append") [.ref D,x];pure ()) (.compLoop (.ListComp elt [⟨tg,iter,ifs,0⟩] sc ps) 0 it (.ref D) env):=by rfl
def z4h (iter:Expr) (e:Expr) (d:Nat) (D:Addr) (env:Env):Sem Unit:=do
  let x ← eval iter env
  standAt iter.pos
  let x ← foldedSetIterable iter env x
  let it ← holding [x] (pyIter x)
  let _ ← runOwn (.compStart e d it (.ref D) env) env
  pure ()
theorem zjc (elt tg iter tg' iter':Expr) (ifs ifs':List Expr) (sc:Scope) (ps:Pos) (it:Value) (D:Addr) (env:Env):
    compTurn (.ListComp elt [⟨tg,iter,ifs,0⟩,⟨tg',iter',ifs',0⟩] sc ps) 0 it (.ref D) env =
      z12 iter.pos it tg ifs env (z4h iter' (.ListComp elt [⟨tg,iter,ifs,0⟩,⟨tg',iter',ifs',0⟩] sc ps) 1 D env) (.compLoop (.ListComp elt [⟨tg,iter,ifs,0⟩,⟨tg',iter',ifs',0⟩] sc ps) 0 it (.ref D) env):=by
  unfold z12 z4h
  simp only [bind_assoc,pure_bind]
  rfl
theorem zjd (elt tg iter tg' iter':Expr) (ifs ifs':List Expr) (sc:Scope) (ps:Pos) (it:Value) (D:Addr) (env:Env):
    compTurn (.ListComp elt [⟨tg,iter,ifs,0⟩,⟨tg',iter',ifs',0⟩] sc ps) 1 it (.ref D) env =
      z12 iter'.pos it tg' ifs' env (do let x ← eval elt env;let _ ← call (.builtin "list.append") [.ref D,x];pure ()) (.compLoop (.ListComp elt [⟨tg,iter,ifs,0⟩,⟨tg',iter',ifs',0⟩] sc ps) 1 it (.ref D) env):=by rfl
section
variable {X:Cx} {D:Addr}
theorem z28 {prog:Program} {w:World} {A:Around} {R:Result→Shared→Prop} {s:Shared} {elt:Expr} {gens:List Comprehension} {sc:Scope} {ps:Pos} {d:Nat} {it acc:Value} {env:Env} (ha:((gens)[d]?).elim false (·.is_async != 0)=false)
    (h0:codeAny (model prog w) A (.compLoop (.ListComp elt gens sc ps) d it acc env) R s)
    (h:wpAny (model prog w) A (pyIter it) (fun it' s'=>codeAny (model prog w) A (.compLoop (.ListComp elt gens sc ps) d it' acc env) R s') (fun _ _=>False) s):
    codeAny (model prog w) A (.compStart (.ListComp elt gens sc ps) d it acc env) R s:=by
  refine codeAny_of_tree ?_
  show wpAny _ _ ((compStart (.ListComp elt gens sc ps) d it acc env).onRaise (fun x=>do noteFrame x env;standAt theWindowsPlace)) _ _ s
  refine wpAny_notedAt (wpAny_mono (E:=fun _ _=>False) ?_ (fun _ _ z=>z) fun _ _ z=>z.elim)
  unfold compStart
  rw [show ((clausesOf (.ListComp elt gens sc ps))[d]?).elim false (·.is_async != 0)=false from ha]
  simp only [Bool.false_eq_true,if_false]
  refine wpAny_bind (wpAny_askSetting (wpAny_ite ?_))
  split
  · first
      | exact wpAny_bind (wpAny_pure (wpAny_pure (And.intro rfl h0)))
      | exact wpAny_pure (And.intro rfl h0)
  · have fin:∀ s:Shared,wpAny (model prog w) A (pyIter it) (fun it' s'=>codeAny (model prog w) A (.compLoop (.ListComp elt gens sc ps) d it' acc env) R s') (fun _ _=>False) s→
        wpAny (model prog w) A (do let it' ← pyIter it;again (.compLoop (.ListComp elt gens sc ps) d it' acc env)) (fun fin s'=>match fin with | .done f=>R (.ok f) s' | .again c=>c.quiet=true∧codeAny (model prog w) A c R s') (fun _ _=>False) s:=fun s h=>wpAny_bind (wpAny_mono h (fun it' s' h'=>wpAny_pure ⟨rfl,h'⟩) fun _ _ x=>x)
    refine wpAny_bind (wpAny_rule ?_)
    have ec:clausesOf (.ListComp elt gens sc ps)=gens:=rfl
    rw [ec]
    cases q:gens[d]? with
    | none=>exact fin s h
    | some g=>exact wpAny_bind (wpAny_standAt (fin s h))
def zbz (wi:TI) (g:TG) (tt:TT) (inner:TC):TC:=fun σ H xs K=>wi σ H fun J H1=>z7c J g tt inner K σ H1 xs
theorem zaw {elt:Expr} {gens:List Comprehension} {sc:Scope} {ps:Pos} {d:Nat} {tg iter:Expr} {ifs:List Expr} {inner:Sem Unit} {wi:TI} {g:TG} {tt:TT} {ti:TC}
    (hx:X.xe=fun _ _=>False) (hc:X.calm=true) (ha:((gens)[d]?).elim false (·.is_async != 0)=false)
    (ht:∀ it,compTurn (.ListComp elt gens sc ps) d (.ref it) (.ref D) X.env=z12 iter.pos (.ref it) tg ifs X.env inner (.compLoop (.ListComp elt gens sc ps) d (.ref it) (.ref D) X.env))
    (hi:PI X tg iter wi) (hg:PG X tg g) (htt:PTs X ifs tt) (hin:PCl X D inner ti) (hs:∀ x,foldedSetIterable iter X.env x=pure x):
    PCl X D (z4h iter (.ListComp elt gens sc ps) d D X.env) (zbz wi g tt ti):=by
  intro pins s σ H xs K I a f h
  unfold z4h
  refine wpAny_bind (thn (hi _ s σ H _ (I.pinD a f) h) fun v s1 h1=>wpAny_bind (wpAny_standAt (wpAny_bind (wpAny_of_eq (hs v) (wpAny_bind (wpAny_holding (thn h1 fun itv s2 h2=>?_)))))))
  obtain ⟨it,fp,tn,J,H2,e,I2,T,st2,f2,lp⟩:=h2
  subst e
  obtain ⟨a2,n2⟩:=Inv.atD a I2
  have I2u:=I2.unpinned
  have hpD:∀ b∈fp,b≠D:=fun b hb z=>by
    subst z
    obtain ⟨_,its,n,_,eo⟩:=a
    exact (f2 b hb).2.2.2.2.2 (b,_) (List.mem_append_right _ (List.mem_append_right _ (z1t (by simp) eo))) rfl
  have f2u:∀ b∈fp,FpOk X pins H2 b:=fun b hb=>by
    obtain ⟨g0,g1,g2,g3,g4,g5⟩:=f2 b hb
    exact ⟨g0,g1,g2,g3,g4,fun p hp=>g5 p (by
      rcases List.mem_append.mp hp with z | z
      · exact List.mem_append_left _ z
      · exact List.mem_append_right _ (List.mem_append_left _ z))⟩
  have fD:FpOk X pins H2 D:=⟨n2,f.2⟩
  refine wpAny_bind (wpAny_runOwn ?_)
  have loop:codeAny (model X.prog X.w) X.A (.compLoop (.ListComp elt gens sc ps) d (.ref it) (.ref D) X.env) (fun r s'=>match r with
      | .ok f=>wpAny (model X.prog X.w) X.A (pure ():Sem Unit) (fun _ s'=>∃ σ' H' xs',Inv X pins σ' H' s'∧AccAt s' D xs'∧H' D=none∧K σ' H' xs') X.xe s'
      | .error e=>cameBackBy (model X.prog X.w) X.A X.env X.xe e s') s2:=
    z7d hx hc (ht it) hg htt hin T I2u a2 fD st2 f2u (fun z=>hpD D z rfl) lp fun σ' H' xs' s' I' a' n' k'=>wpAny_pure ⟨σ',H',xs',I',a',n',k'⟩
  exact z28 ha loop (T.self _ 0 s2 _ _ st2 loop)
end
def zje (wi:TI) (cap:List (Option Nat)) (g:TG) (tt:TT) (inner:TC):TE:=fun σ H Q=>wi σ H fun J H1=>z7c J g tt inner (fun _ H' xs=>∀ p,H' p=none→Q (.ref p) (upd H' p (.lst xs))) (zav cap σ) H1 []
section
variable {X:Cx}
theorem z7e {elt:Expr} {gens:List Comprehension} {sc:Scope} {ps:Pos} {tg iter:Expr} {ifs:List Expr} {rest:List Comprehension} {inner:Addr→Env→Sem Unit} {g:TG} {tt:TT} {ti:TC} {N:List Str} {cap:List (Option Nat)} {E:Value→Shared→Prop}
    (hc:X.calm=true) (C:CapOk X sc N cap) (eg:gens=⟨tg,iter,ifs,0⟩::rest)
    (ht:∀ it D env,compTurn (.ListComp elt gens sc ps) 0 (.ref it) (.ref D) env=z12 iter.pos (.ref it) tg ifs env (inner D env) (.compLoop (.ListComp elt gens sc ps) 0 (.ref it) (.ref D) env))
    (hg:∀ s H ex,PG (blk X sc N s H ex) tg g) (htt:∀ s H ex,PTs (blk X sc N s H ex) ifs tt) (hin:∀ s H ex D,PCl (blk X sc N s H ex) D (inner D (blk X sc N s H ex).env) ti)
    {pins:List (Addr×Obj)} {s2:Shared} {σ:St} {H2:Hp} {K:St→Hp→List V→Prop} {it:Addr} {fp:List Addr} {tn:Nat→Heap→Prop} {J:It} (I2:Inv X pins σ H2 s2) (T:Turn X.prog X.w X.K tg J fp it tn) (st2:tn 0 s2.heap) (f2:∀ b∈fp,FpOk X pins H2 b)
    (lp:z7c J g tt ti K (zav cap σ) H2 []) {R:Value→Addr→Result→Shared→Prop}
    (hR:∀ σ' H' xs (s3 s':Shared) (C D:Addr),X.s₀.heap.objs.size≤D→C=s3.heap.objs.size→(∃ m,s'.heap.Ns C m)→AccAt s' D xs→FpOk X pins H' D→FpOk X pins H' C→D<C→(∀ h',Heap.SameBut C s'.heap h'→Inv X pins σ H' { s' with heap:=h' })→K σ' H' xs→R (.ref D) C (.ok .next) s'):
    wpAny (model X.prog X.w) X.A (newList []) (fun acc s3=>wpAny (model X.prog X.w) X.A (newFunctionEnv sc X.env.globals (z18 X.env sc.names []) [] X.env.qual none .none (some X.env)) (fun cenv s4=>
      codeAny (model X.prog X.w) X.A (.compStart (.ListComp elt gens sc ps) 0 (.ref it) acc { cenv with scope:=relabel sc X.env }) (R acc cenv.locals) s4) E s3) E s2:=by
  refine wpAny_newObj_type (zau ?_)
  dsimp only
  generalize hs3:({ s2 with heap:=s2.heap.push { cls:=.type "list",dict:=none,data:=.seq ([]:List Value).toArray } }:Shared)=s3
  have kp:∀ b o,s2.heap.get? b=some o→s3.heap.get? b=some o:=fun b o e=>by rw [← hs3];exact Heap.get?_push_of_some _ e
  have I3:Inv X pins σ H2 s3:=by rw [← hs3];exact I2.kept (t':=s2.toks) fun b o e=>Heap.get?_push_of_some _ e
  have eD:s3.heap.get? s2.heap.objs.size=some { cls:=.type "list",data:=.seq ([]:List Value).toArray 0 }:=by rw [← hs3];exact Heap.get?_push_size _ rfl
  have nD:H2 s2.heap.objs.size=none:=I2.hok.fresh (Nat.le_refl _)
  have fD:FpOk X pins H2 s2.heap.objs.size:=I2.fpOk (Nat.le_refl _) nD
  have hlt:s2.heap.objs.size<s3.heap.objs.size:=Heap.lt_size eD
  have hex:∀ b∈s2.heap.objs.size::fp,FpOk X pins H2 b∧b<s3.heap.objs.size:=fun b hb=>by
    rcases List.mem_cons.mp hb with rfl | hb
    · exact ⟨fD,hlt⟩
    · obtain ⟨o,e,_⟩:=T.obj 0 _ st2 b hb
      exact ⟨f2 b hb,Heap.lt_size (kp b o e)⟩
  have hDfp:s2.heap.objs.size∉fp:=fun z=>by
    obtain ⟨o,e,_⟩:=T.obj 0 _ st2 _ z
    exact Nat.lt_irrefl _ (Heap.lt_size e)
  have I4:=zj7 (N:=N) (ex:=s2.heap.objs.size::fp) I3 C hex
  have F4:=zmd (N:=N) I3 C hex
  have st4:tn 0 (pushCells (s3.heap.push { cls:=.type "dict",data:=.dict #[] }) sc.names):=T.keep 0 _ _ st2 fun b hb o e=>pushCells_keeps _ _ _ _ (Heap.get?_push_of_some _ (kp b o e))
  have a4:AccAt { s3 with heap:=pushCells (s3.heap.push { cls:=.type "dict",data:=.dict #[] }) sc.names } s2.heap.objs.size []:=⟨Nat.zero_le _,[],0,.nil,pushCells_keeps _ _ _ _ (Heap.get?_push_of_some _ eD)⟩
  have loop:codeAny (model X.prog X.w) X.A (.compLoop (.ListComp elt gens sc ps) 0 (.ref it) (.ref s2.heap.objs.size) (blk X sc N s3 H2 (s2.heap.objs.size::fp)).env) (R (.ref s2.heap.objs.size) s3.heap.objs.size)
      { s3 with heap:=pushCells (s3.heap.push { cls:=.type "dict",data:=.dict #[] }) sc.names }:=by
    refine z7d (X:=blk X sc N s3 H2 (s2.heap.objs.size::fp)) rfl hc (ht it _ _) (hg _ _ _) (htt _ _ _) (hin _ _ _ _) T I4 a4 (F4 _ (List.mem_cons_self ..)) st4 (fun b hb=>F4 b (List.mem_cons_of_mem _ hb)) hDfp lp fun σ' H' xs' s' I' a' n' k'=>?_
    obtain ⟨m,hn,_⟩:=I'.loc
    exact hR σ' H' xs' s3 s' _ _ (Nat.le_trans I2.sz (Nat.le_refl _)) rfl ⟨m,hn⟩ a' ⟨n',fD.2⟩ (I3.fpOk (Nat.le_refl _) I'.free) hlt (fun h' hh=>zj8 I3 hex I' hh) k'
  have ha:((gens)[0]?).elim false (·.is_async != 0)=false:=by rw [eg];rfl
  subst hs3
  exact z28 ha loop (T.self _ 0 _ _ _ st4 loop)
theorem zc0 {elt:Expr} {gens:List Comprehension} {sc:Scope} {ps:Pos} {tg iter:Expr} {ifs:List Expr} {rest:List Comprehension} {inner:Addr→Env→Sem Unit} {wi:TI} {g:TG} {tt:TT} {ti:TC} {N:List Str} {cap:List (Option Nat)}
    (hc:X.calm=true) (C:CapOk X sc N cap) (eg:gens=⟨tg,iter,ifs,0⟩::rest)
    (ht:∀ it D env,compTurn (.ListComp elt gens sc ps) 0 (.ref it) (.ref D) env=z12 iter.pos (.ref it) tg ifs env (inner D env) (.compLoop (.ListComp elt gens sc ps) 0 (.ref it) (.ref D) env))
    (hi:PI X tg iter wi) (hg:∀ s H ex,PG (blk X sc N s H ex) tg g) (htt:∀ s H ex,PTs (blk X sc N s H ex) ifs tt) (hin:∀ s H ex D,PCl (blk X sc N s H ex) D (inner D (blk X sc N s H ex).env) ti)
    (hs:∀ x,foldedSetIterable iter X.env x=pure x):PE X (.ListComp elt gens sc ps) (zje wi cap g tt ti):=by
  intro pins s σ H Q I h
  rw [eval_ListComp]
  have hcl:closureFor sc X.env=pure (z18 X.env sc.names []):=z2e fun x hx=>I.ok.has x (C.free x hx)
  have e1:firstAsync gens=false:=by rw [eg];rfl
  have e2:firstIter gens X.env=eval iter X.env:=by rw [eg];rfl
  rw [e1,e2]
  refine wpAny_comprehension_free (use:=none) (g:=⟨tg,iter,ifs,0⟩) (gs:=rest) (by rw [eg];rfl) hs hcl C.kind C.nd (thn (hi pins s σ H _ I h) fun v s1 h1=>thn h1 fun itv s2 h2=>?_)
  obtain ⟨it,fp,tn,J,H2,e,I2,T,st2,f2,lp⟩:=h2
  subst e
  refine z7e (N:=N) (inner:=inner) (R:=fun acc C=>compPost (model X.prog X.w) X.A X.xe none (EP X pins σ Q) acc C) hc C eg ht hg htt hin I2 T st2 f2 lp ?_
  intro σ' H' xs s3 s' C D hD0 hC hn a f fC hDC hout k
  obtain ⟨m,hn⟩:=hn
  refine ⟨m,hn,fun h' hh=>?_⟩
  have I5:=hout h' hh
  obtain ⟨hz,its,n,r,eD⟩:=a
  have eD':h'.get? D=some { cls:=.type "list",data:=.seq its.toArray n }:=(hh.2 D (Nat.ne_of_lt hDC)).trans eD
  refine ⟨.ref D,upd H' D (.lst xs),I5.adopt f hD0 ⟨hz,its,n,r,eD'⟩,rfl,k D f.1⟩
end
section
variable {X:Cx}
theorem zax {i:Nat} {x:Str} {px pos:Pos} {elt:Expr} {gens:List Comprehension} {sc:Scope} {ps:Pos} {tg iter:Expr} {ifs:List Expr} {rest:List Comprehension} {inner:Addr→Env→Sem Unit} {wi:TI} {g:TG} {tt:TT} {ti:TC} {N:List Str} {cap:List (Option Nat)}
    (hsw:swapsWith (.ListComp elt gens sc ps) (some (.Name x px)) pos.line X.env=pure true) (hN:X.N.Nodup) (hi':X.N[i]?=some x) (hx:X.env.scope.names.lookup x=some .local)
    (hc:X.calm=true) (C:CapOk X sc N cap) (eg:gens=⟨tg,iter,ifs,0⟩::rest)
    (ht:∀ it D env,compTurn (.ListComp elt gens sc ps) 0 (.ref it) (.ref D) env=z12 iter.pos (.ref it) tg ifs env (inner D env) (.compLoop (.ListComp elt gens sc ps) 0 (.ref it) (.ref D) env))
    (hi:PI X tg iter wi) (hg:∀ s H ex,PG (blk X sc N s H ex) tg g) (htt:∀ s H ex,PTs (blk X sc N s H ex) ifs tt) (hin:∀ s H ex D,PCl (blk X sc N s H ex) D (inner D (blk X sc N s H ex).env) ti)
    (hs:∀ x,foldedSetIterable iter X.env x=pure x):PS X (.Assign [.Name x px] (.ListComp elt gens sc ps) pos) (tAsg (zje wi cap g tt ti) (zis i)):=by
  intro pins s σ H D I h
  rw [exec_Assign_Name_used _ _ _ _ hsw]
  have hcl:closureFor sc X.env=pure (z18 X.env sc.names []):=z2e fun x hx=>I.ok.has x (C.free x hx)
  have e1:firstAsync gens=false:=by rw [eg];rfl
  have e2:firstIter gens X.env=eval iter X.env:=by rw [eg];rfl
  refine wpAny_bind (wpAny_standAt (wpAny_bind ?_))
  show wpAny _ X.A (do let _ ← comprehension (.ListComp elt gens sc ps) sc X.env (firstIterPos gens ps) (newList []) (firstAsync gens) (firstIter gens X.env) (some (assign (.Name x px) X.env))) _ _ s
  rw [e1,e2]
  refine wpAny_bind (thn (wpAny_comprehension_free (use:=some (assign (.Name x px) X.env)) (Q:=fun _ s'=>SP X pins D .next s') (g:=⟨tg,iter,ifs,0⟩) (gs:=rest) (by rw [eg];rfl) hs hcl C.kind C.nd (thn (hi pins s σ H _ I h) fun v s1 h1=>thn h1 fun itv s2 h2=>?_)) fun _ s' hq=>wpAny_pure (wpAny_pure hq))
  obtain ⟨it,fp,tn,J,H2,e,I2,T,st2,f2,lp⟩:=h2
  subst e
  refine z7e (N:=N) (inner:=inner) (R:=fun acc C=>compPost (model X.prog X.w) X.A X.xe (some (assign (.Name x px) X.env)) (fun _ s'=>SP X pins D .next s') acc C) hc C eg ht hg htt hin I2 T st2 f2 lp ?_
  intro σ' H' xs s3 s' C D' hD0 hC hn a f fC hDC hout k
  obtain ⟨m,hn⟩:=hn
  have I5:Inv X pins σ H' s':=hout s'.heap (Heap.SameBut.refl ..)
  obtain ⟨hz,its,n,r,eD⟩:=a
  have I6:Inv X pins σ (upd H' D' (.lst xs)) s':=I5.adopt f hD0 ⟨hz,its,n,r,eD⟩
  show wpAny _ X.A (assign (.Name x px) X.env (.ref D')) _ _ s'
  obtain ⟨c0,c1,c2,c3,c4,c5⟩:=fC
  have nC:upd H' D' (.lst xs) C=none:=by rw [z0d (Ne.symm (Nat.ne_of_lt hDC))];exact c0
  refine wpAny_assign_Name (z73 (v:=V.ref D') I6 hN hi' (.inl hx) rfl (fun s'' I7 ⟨a,sb,ha⟩=>?_) (.inr hx))
  have hCa:C≠a:=by
    rcases ha with z | z
    · rw [z];exact c1
    · exact Ne.symm (c4 x a z)
  refine ⟨m,hn.sameBut sb hCa,fun h' hh=>?_⟩
  have I8:Inv X pins (σ.set i (some (.ref D'))) (upd H' D' (.lst xs)) { s'' with heap:=h' }:=I7.turned (t':=s''.toks) (fun b o hb e=>(hh.2 b hb).trans e) nC c1 c3 c4 c5
  exact ⟨_,_,I8,k D' f.1⟩
end
inductive Dt where
  | non | bl (b:Bool) | int (i:Int) | str (x:Str) | tup (xs:List Dt) | lst (xs:List Dt) | dct
mutual
def Den (P:Addr→Prop) (H:Hp):Dt→V→Prop
  | .non,v=>v=.non
  | .bl b,v=>v=.bl b
  | .int i,v=>v=.int i
  | .str x,v=>v=.str x
  | .tup ds,v=>∃ a vs,v=.ref a∧H a=some (.tup vs)∧DenL P H ds vs
  | .lst ds,v=>∃ a vs,v=.ref a∧P a∧H a=some (.lst vs)∧DenL P H ds vs
  | .dct,v=>∃ a,v=.ref a∧P a∧H a=some (.dK [])
def DenL (P:Addr→Prop) (H:Hp):List Dt→List V→Prop
  | [],vs=>vs=[]
  | d::ds,vs=>∃ v r,vs=v::r∧Den P H d v∧DenL P H ds r
end
structure Keep (Q:Addr→Prop) (H H':Hp):Prop where
  at_:∀ b o,Q b→H b=some o→H' b=some o
  tup:∀ b xs,H b=some (.tup xs)→H' b=some (.tup xs)
theorem Keep.refl {Q:Addr→Prop} (H:Hp):Keep Q H H:=⟨fun _ _ _ e=>e,fun _ _ e=>e⟩
theorem Keep.trans {Q:Addr→Prop} {H H1 H2:Hp} (a:Keep Q H H1) (b:Keep Q H1 H2):Keep Q H H2:=⟨fun c o q e=>b.at_ c o q (a.at_ c o q e),fun c xs e=>b.tup c xs (a.tup c xs e)⟩
theorem Same.keep {Q:Addr→Prop} {H H':Hp} (s:Same H H'):Keep Q H H':=⟨fun b o _ e=>s b o e,fun b xs e=>s b _ e⟩
theorem Keep.mono {Q Q':Addr→Prop} {H H':Hp} (k:Keep Q H H') (h:∀ b,Q' b→Q b):Keep Q' H H':=⟨fun b o q e=>k.at_ b o (h b q) e,k.tup⟩
mutual
theorem Den.keep {P:Addr→Prop} {H H':Hp} (k:Keep P H H'):∀ (d:Dt) (v:V),Den P H d v→Den P H' d v
  | .non,v,h=>h
  | .bl b,v,h=>h
  | .int i,v,h=>h
  | .str x,v,h=>h
  | .tup ds,v,h=>by
    obtain ⟨a,vs,e,h1,h2⟩:=h
    exact ⟨a,vs,e,k.tup a vs h1,DenL.keep k ds vs h2⟩
  | .lst ds,v,h=>by
    obtain ⟨a,vs,e,p,h1,h2⟩:=h
    exact ⟨a,vs,e,p,k.at_ a _ p h1,DenL.keep k ds vs h2⟩
  | .dct,v,h=>by
    obtain ⟨a,e,p,h1⟩:=h
    exact ⟨a,e,p,k.at_ a _ p h1⟩
theorem DenL.keep {P:Addr→Prop} {H H':Hp} (k:Keep P H H'):∀ (ds:List Dt) (vs:List V),DenL P H ds vs→DenL P H' ds vs
  | [],vs,h=>h
  | d::ds,vs,h=>by
    obtain ⟨v,r,e,h1,h2⟩:=h
    exact ⟨v,r,e,Den.keep k d v h1,DenL.keep k ds r h2⟩
end
theorem DenL.length {P:Addr→Prop} {H:Hp}:∀ {ds:List Dt} {vs:List V},DenL P H ds vs→vs.length=ds.length
  | [],vs,h=>by rw [DenL] at h;rw [h];rfl
  | d::ds,vs,h=>by
    rw [DenL] at h
    obtain ⟨v,r,rfl,_,h2⟩:=h
    simp [DenL.length h2]
theorem DenL.get {P:Addr→Prop} {H:Hp}:∀ {ds:List Dt} {vs:List V} {i:Nat} {v:V},DenL P H ds vs→vs[i]?=some v→∃ d,ds[i]?=some d∧Den P H d v
  | [],vs,i,v,h,e=>by rw [DenL] at h;rw [h] at e;simp at e
  | d::ds,vs,i,v,h,e=>by
    rw [DenL] at h
    obtain ⟨w,r,rfl,h1,h2⟩:=h
    cases i with
    | zero=>simp at e;subst e;exact ⟨d,rfl,h1⟩
    | succ i=>simp at e;exact DenL.get (i:=i) h2 e
theorem DenL.nil {P:Addr→Prop} {H:Hp}:DenL P H [] []:=by rw [DenL]
theorem DenL.cons {P:Addr→Prop} {H:Hp} {d:Dt} {v:V} {ds:List Dt} {vs:List V} (h:Den P H d v) (t:DenL P H ds vs):DenL P H (d::ds) (v::vs):=by rw [DenL];exact ⟨v,vs,rfl,h,t⟩
mutual
def deq:Dt→Dt→Bool
  | .non,.non=>true
  | .bl a,.bl b=>a==b
  | .bl a,.int j=>(if a then 1 else 0)==j
  | .int i,.bl b=>i==(if b then 1 else 0)
  | .int i,.int j=>i==j
  | .str x,.str y=>x==y
  | .tup xs,.tup ys=>deqL xs ys
  | .lst xs,.lst ys=>deqL xs ys
  | _,_=>false
def deqL:List Dt→List Dt→Bool
  | [],[]=>true
  | x::xs,y::ys=>deq x y&&deqL xs ys
  | _,_=>false
end
mutual
def dep:Dt→Nat
  | .tup xs=>depL xs+1
  | .lst xs=>depL xs+1
  | _=>0
def depL:List Dt→Nat
  | []=>0
  | x::xs=>max (dep x) (depL xs)
end
mutual
def nod:Dt→Bool
  | .tup xs=>nodL xs
  | .lst xs=>nodL xs
  | .dct=>false
  | _=>true
def nodL:List Dt→Bool
  | []=>true
  | x::xs=>nod x&&nodL xs
end
mutual
theorem z6c:∀ d:Dt,nod d=true→deq d d=true
  | .non,_=>rfl
  | .bl b,_=>by simp [deq]
  | .int i,_=>by simp [deq]
  | .str x,_=>by simp [deq]
  | .tup xs,h=>by rw [deq];exact z4i xs (by rw [nod] at h;exact h)
  | .lst xs,h=>by rw [deq];exact z4i xs (by rw [nod] at h;exact h)
  | .dct,h=>by simp [nod] at h
theorem z4i:∀ l:List Dt,nodL l=true→deqL l l=true
  | [],_=>rfl
  | x::xs,h=>by
    rw [nodL,Bool.and_eq_true] at h
    rw [deqL,z6c x h.1,z4i xs h.2]
    rfl
end
theorem z6d:∀ {l:List Dt} {d:Dt},d∈l→dep d≤depL l
  | x::xs,d,h=>by
    rw [depL]
    rcases List.mem_cons.mp h with rfl | h
    · omega
    · have:=z6d h;omega
theorem z39:∀ {l:List Dt} {d:Dt},nodL l=true→d∈l→nod d=true
  | x::xs,d,h,hd=>by
    rw [nodL,Bool.and_eq_true] at h
    rcases List.mem_cons.mp hd with rfl | hd
    · exact h.1
    · exact z39 h.2 hd
theorem z29:∀ {xs ys:List Dt},xs.length=ys.length→deqL xs ys=(List.range xs.length).all fun i=>deq (xs.getD i .non) (ys.getD i .non)
  | [],[],_=>rfl
  | x::xs,y::ys,h=>by
    rw [deqL,z29 (xs:=xs) (ys:=ys) (by simpa using h),List.length_cons,List.range_succ_eq_map,List.all_cons,List.all_map]
    rfl
theorem z3a:∀ {xs ys:List Dt},xs.length≠ys.length→deqL xs ys=false
  | [],[],h=>absurd rfl h
  | [],_::_,_=>rfl
  | _::_,[],_=>rfl
  | x::xs,y::ys,h=>by
    rw [deqL,z3a (xs:=xs) (ys:=ys) (by simpa using h),Bool.and_false]
mutual
theorem Den.inj {P:Addr→Prop} {H:Hp}:∀ (d d':Dt) (v:V),Den P H d v→Den P H d' v→d=d'
  | .non,d',v,h,h'=>by
    rw [Den] at h;subst h
    cases d' <;> rw [Den] at h' <;> first | rfl | (obtain ⟨_,_,e,_⟩:=h';cases e;done) | (obtain ⟨_,e,_⟩:=h';cases e;done) | (cases h';done)
  | .bl b,d',v,h,h'=>by
    rw [Den] at h;subst h
    cases d' <;> rw [Den] at h' <;> first | (obtain ⟨_,_,e,_⟩:=h';cases e;done) | (obtain ⟨_,e,_⟩:=h';cases e;done) | (cases h';done) | (cases h';rfl)
  | .int b,d',v,h,h'=>by
    rw [Den] at h;subst h
    cases d' <;> rw [Den] at h' <;> first | (obtain ⟨_,_,e,_⟩:=h';cases e;done) | (obtain ⟨_,e,_⟩:=h';cases e;done) | (cases h';done) | (cases h';rfl)
  | .str b,d',v,h,h'=>by
    rw [Den] at h;subst h
    cases d' <;> rw [Den] at h' <;> first | (obtain ⟨_,_,e,_⟩:=h';cases e;done) | (obtain ⟨_,e,_⟩:=h';cases e;done) | (cases h';done) | (cases h';rfl)
  | .tup ds,d',v,h,h'=>by
    rw [Den] at h
    obtain ⟨a,vs,rfl,h1,h2⟩:=h
    cases d' with
    | tup ds'=>
      rw [Den] at h'
      obtain ⟨a',vs',e,h1',h2'⟩:=h'
      cases e
      rw [h1] at h1';cases h1'
      rw [DenL.inj ds ds' vs h2 h2']
    | lst ds'=>
      rw [Den] at h'
      obtain ⟨a',vs',e,_,h1',h2'⟩:=h'
      cases e
      rw [h1] at h1';cases h1'
    | dct=>
      rw [Den] at h'
      obtain ⟨a',e,_,h1'⟩:=h'
      cases e
      rw [h1] at h1';cases h1'
    | _=>rw [Den] at h';cases h'
  | .lst ds,d',v,h,h'=>by
    rw [Den] at h
    obtain ⟨a,vs,rfl,_,h1,h2⟩:=h
    cases d' with
    | tup ds'=>
      rw [Den] at h'
      obtain ⟨a',vs',e,h1',h2'⟩:=h'
      cases e
      rw [h1] at h1';cases h1'
    | lst ds'=>
      rw [Den] at h'
      obtain ⟨a',vs',e,_,h1',h2'⟩:=h'
      cases e
      rw [h1] at h1';cases h1'
      rw [DenL.inj ds ds' vs h2 h2']
    | dct=>
      rw [Den] at h'
      obtain ⟨a',e,_,h1'⟩:=h'
      cases e
      rw [h1] at h1';cases h1'
    | _=>rw [Den] at h';cases h'
  | .dct,d',v,h,h'=>by
    rw [Den] at h
    obtain ⟨a,rfl,_,h1⟩:=h
    cases d' with
    | tup ds'=>
      rw [Den] at h'
      obtain ⟨a',vs',e,h1',h2'⟩:=h'
      cases e
      rw [h1] at h1';cases h1'
    | lst ds'=>
      rw [Den] at h'
      obtain ⟨a',vs',e,_,h1',h2'⟩:=h'
      cases e
      rw [h1] at h1';cases h1'
    | dct=>rfl
    | _=>rw [Den] at h';cases h'
theorem DenL.inj {P:Addr→Prop} {H:Hp}:∀ (ds ds':List Dt) (vs:List V),DenL P H ds vs→DenL P H ds' vs→ds=ds'
  | [],ds',vs,h,h'=>by
    rw [DenL] at h;subst h
    cases ds' with
    | nil=>rfl
    | cons d ds'=>rw [DenL] at h';obtain ⟨_,_,e,_⟩:=h';cases e
  | d::ds,ds',vs,h,h'=>by
    rw [DenL] at h
    obtain ⟨v,r,rfl,h1,h2⟩:=h
    cases ds' with
    | nil=>rw [DenL] at h';cases h'
    | cons d' ds'=>
      rw [DenL] at h'
      obtain ⟨v',r',e,h1',h2'⟩:=h'
      cases e
      rw [Den.inj d d' v h1 h1',DenL.inj ds ds' r h2 h2']
end
section
variable {Pg:Program} {w:World} {P:Addr→Prop} {H:Hp} {s:Shared}
theorem z13 (hok:HOk Pg w H s.heap) {a:Addr} {vs:List V} (e:H a=some (.tup vs)):∃ its:List Value,Vals vs its∧s.heap.IsTuple a its.toArray:=by
  obtain ⟨_,its,r,p⟩:=(show ObjOk Pg w H s.heap a (.tup vs) from hok a _ e)
  exact ⟨its,r,p.tup⟩
theorem z14 (hok:HOk Pg w H s.heap) {a:Addr} {vs:List V} (e:H a=some (.lst vs)):∃ its:List Value,Vals vs its∧s.heap.IsList a its.toArray:=by
  obtain ⟨_,its,n,r,p⟩:=(show ObjOk Pg w H s.heap a (.lst vs) from hok a _ e)
  exact ⟨its,r,_,p,rfl,n,rfl⟩
theorem z6e {vs:List V} {its:List Value} (r:Vals vs its) {j:Nat} (h:j<its.toArray.size):∃ v,vs[j]?=some v∧RelV v its.toArray[j]:=by
  have hl:=r.length
  have h':j<its.length:=by simpa using h
  have hv:j<vs.length:=by omega
  obtain ⟨u,e,q⟩:=r.get (i:=j) (x:=vs[j]) (List.getElem?_eq_getElem hv)
  refine ⟨vs[j],List.getElem?_eq_getElem hv, ?_⟩
  have:its.toArray[j]=u:=by
    have:its[j]?=some its[j]:=List.getElem?_eq_getElem h'
    rw [this] at e
    simpa using e
  rw [this]
  exact q
theorem zc1 (hok:HOk Pg w H s.heap):∀ (n:Nat) (A:Around) (d d':Dt) (v v':V) (u u':Value),dep d≤n→A.units+n+1<cLine→nod d=true→nod d'=true→Den P H d v→Den P H d' v'→RelV v u→RelV v' u'→
    SeqAt.RcAt A s u u' (deq d d')∧SeqAt.EqAt A s u u' (deq d d'):=by
  intro n
  induction n with
  | zero=>
    intro A d d' v v' u u' hn hu n1 n2 h h' r r'
    have hu':A.units<cLine:=by omega
    cases d with
    | non=>
      rw [Den] at h;subst h;cases r
      cases d' with
      | non=>
        rw [Den] at h';subst h';cases r'
        exact ⟨SeqAt.RcAt.none_none,SeqAt.EqAt.same _⟩
      | bl b'=>
        rw [Den] at h';subst h';cases r'
        exact ⟨SeqAt.RcAt.none_bool _,SeqAt.EqAt.none_bool _⟩
      | int i'=>
        rw [Den] at h';subst h';obtain ⟨t2,rfl⟩:=r'
        exact ⟨SeqAt.RcAt.none_int _ _,SeqAt.EqAt.none_int _ _⟩
      | str x'=>
        rw [Den] at h';subst h';obtain ⟨t2,rfl⟩:=r'
        exact ⟨SeqAt.RcAt.none_str _ _,SeqAt.EqAt.none_str _ _⟩
      | tup ds'=>
        rw [Den] at h';obtain ⟨a2,vs2,rfl,e2,g2⟩:=h';cases r';obtain ⟨its2,q2,tp2⟩:=z13 hok e2
        exact ⟨SeqAt.RcAt.none_tuple  tp2 hu',SeqAt.EqAt.none_tuple  tp2 hu'⟩
      | lst ds'=>
        rw [Den] at h';obtain ⟨a2,vs2,rfl,_,e2,g2⟩:=h';cases r';obtain ⟨its2,q2,tp2⟩:=z14 hok e2
        exact ⟨SeqAt.RcAt.none_list  tp2 hu',SeqAt.EqAt.none_list  tp2 hu'⟩
      | dct=>simp [nod] at n2
    | bl b=>
      rw [Den] at h;subst h;cases r
      cases d' with
      | non=>
        rw [Den] at h';subst h';cases r'
        exact ⟨SeqAt.RcAt.bool_none _,SeqAt.EqAt.bool_none _⟩
      | bl b'=>
        rw [Den] at h';subst h';cases r'
        exact ⟨SeqAt.RcAt.bool_bool _ _,SeqAt.EqAt.bool_bool _ _⟩
      | int i'=>
        rw [Den] at h';subst h';obtain ⟨t2,rfl⟩:=r'
        exact ⟨SeqAt.RcAt.bool_int _ _ _,SeqAt.EqAt.bool_int _ _ _⟩
      | str x'=>
        rw [Den] at h';subst h';obtain ⟨t2,rfl⟩:=r'
        exact ⟨SeqAt.RcAt.bool_str _ _ _,SeqAt.EqAt.bool_str _ _ _⟩
      | tup ds'=>
        rw [Den] at h';obtain ⟨a2,vs2,rfl,e2,g2⟩:=h';cases r';obtain ⟨its2,q2,tp2⟩:=z13 hok e2
        exact ⟨SeqAt.RcAt.bool_tuple _ tp2 hu',SeqAt.EqAt.bool_tuple _ tp2 hu'⟩
      | lst ds'=>
        rw [Den] at h';obtain ⟨a2,vs2,rfl,_,e2,g2⟩:=h';cases r';obtain ⟨its2,q2,tp2⟩:=z14 hok e2
        exact ⟨SeqAt.RcAt.bool_list _ tp2 hu',SeqAt.EqAt.bool_list _ tp2 hu'⟩
      | dct=>simp [nod] at n2
    | int i=>
      rw [Den] at h;subst h;obtain ⟨t1,rfl⟩:=r
      cases d' with
      | non=>
        rw [Den] at h';subst h';cases r'
        exact ⟨SeqAt.RcAt.int_none _ _,SeqAt.EqAt.int_none _ _⟩
      | bl b'=>
        rw [Den] at h';subst h';cases r'
        exact ⟨SeqAt.RcAt.int_bool _ _ _,SeqAt.EqAt.int_bool _ _ _⟩
      | int i'=>
        rw [Den] at h';subst h';obtain ⟨t2,rfl⟩:=r'
        exact ⟨SeqAt.RcAt.int_int _ _ _ _,SeqAt.EqAt.int_int _ _ _ _⟩
      | str x'=>
        rw [Den] at h';subst h';obtain ⟨t2,rfl⟩:=r'
        exact ⟨SeqAt.RcAt.int_str _ _ _ _,SeqAt.EqAt.int_str _ _ _ _⟩
      | tup ds'=>
        rw [Den] at h';obtain ⟨a2,vs2,rfl,e2,g2⟩:=h';cases r';obtain ⟨its2,q2,tp2⟩:=z13 hok e2
        exact ⟨SeqAt.RcAt.int_tuple _ _ tp2 hu',SeqAt.EqAt.int_tuple _ _ tp2 hu'⟩
      | lst ds'=>
        rw [Den] at h';obtain ⟨a2,vs2,rfl,_,e2,g2⟩:=h';cases r';obtain ⟨its2,q2,tp2⟩:=z14 hok e2
        exact ⟨SeqAt.RcAt.int_list _ _ tp2 hu',SeqAt.EqAt.int_list _ _ tp2 hu'⟩
      | dct=>simp [nod] at n2
    | str x=>
      rw [Den] at h;subst h;obtain ⟨t1,rfl⟩:=r
      cases d' with
      | non=>
        rw [Den] at h';subst h';cases r'
        exact ⟨SeqAt.RcAt.str_none _ _,SeqAt.EqAt.str_none _ _⟩
      | bl b'=>
        rw [Den] at h';subst h';cases r'
        exact ⟨SeqAt.RcAt.str_bool _ _ _,SeqAt.EqAt.str_bool _ _ _⟩
      | int i'=>
        rw [Den] at h';subst h';obtain ⟨t2,rfl⟩:=r'
        exact ⟨SeqAt.RcAt.str_int _ _ _ _,SeqAt.EqAt.str_int _ _ _ _⟩
      | str x'=>
        rw [Den] at h';subst h';obtain ⟨t2,rfl⟩:=r'
        exact ⟨SeqAt.RcAt.str_str _ _ _ _,SeqAt.EqAt.str_str _ _ _ _⟩
      | tup ds'=>
        rw [Den] at h';obtain ⟨a2,vs2,rfl,e2,g2⟩:=h';cases r';obtain ⟨its2,q2,tp2⟩:=z13 hok e2
        exact ⟨SeqAt.RcAt.str_tuple _ _ tp2 hu',SeqAt.EqAt.str_tuple _ _ tp2 hu'⟩
      | lst ds'=>
        rw [Den] at h';obtain ⟨a2,vs2,rfl,_,e2,g2⟩:=h';cases r';obtain ⟨its2,q2,tp2⟩:=z14 hok e2
        exact ⟨SeqAt.RcAt.str_list _ _ tp2 hu',SeqAt.EqAt.str_list _ _ tp2 hu'⟩
      | dct=>simp [nod] at n2
    | tup ds=>rw [dep] at hn;omega
    | lst ds=>rw [dep] at hn;omega
    | dct=>simp [nod] at n1
  | succ n ih=>
    intro A d d' v v' u u' hn hu n1 n2 h h' r r'
    have hu':A.units<cLine:=by omega
    have hin:∀ {vs vs':List V} {ds ds':List Dt} {its its':List Value},depL ds≤n→nodL ds=true→nodL ds'=true→DenL P H ds vs→DenL P H ds' vs'→Vals vs its→Vals vs' its'→
        ∀ j (h1:j<its.toArray.size) (h2:j<its'.toArray.size),SeqAt.EqAt A.in1 s its.toArray[j] its'.toArray[j] (deq (ds.getD j .non) (ds'.getD j .non)):=by
      intro vs vs' ds ds' its its' hd m1 m2 g g' q q' j h1 h2
      obtain ⟨x,ex,rx⟩:=z6e q h1
      obtain ⟨x',ex',rx'⟩:=z6e q' h2
      obtain ⟨dx,edx,gx⟩:=g.get ex
      obtain ⟨dx',edx',gx'⟩:=g'.get ex'
      have e1:ds.getD j .non=dx:=by simp [List.getD,edx]
      have e2:ds'.getD j .non=dx':=by simp [List.getD,edx']
      rw [e1,e2]
      have hm:=List.mem_of_getElem? edx
      exact (ih A.in1 dx dx' x x' _ _ (Nat.le_trans (z6d hm) hd) (by show A.units+1+n+1<cLine;omega) (z39 m1 hm) (z39 m2 (List.mem_of_getElem? edx')) gx gx' rx rx').2
    cases d with
    | non=>
      rw [Den] at h;subst h;cases r
      cases d' with
      | non=>
        rw [Den] at h';subst h';cases r'
        exact ⟨SeqAt.RcAt.none_none,SeqAt.EqAt.same _⟩
      | bl b'=>
        rw [Den] at h';subst h';cases r'
        exact ⟨SeqAt.RcAt.none_bool _,SeqAt.EqAt.none_bool _⟩
      | int i'=>
        rw [Den] at h';subst h';obtain ⟨t2,rfl⟩:=r'
        exact ⟨SeqAt.RcAt.none_int _ _,SeqAt.EqAt.none_int _ _⟩
      | str x'=>
        rw [Den] at h';subst h';obtain ⟨t2,rfl⟩:=r'
        exact ⟨SeqAt.RcAt.none_str _ _,SeqAt.EqAt.none_str _ _⟩
      | tup ds'=>
        rw [Den] at h';obtain ⟨a2,vs2,rfl,e2,g2⟩:=h';cases r';obtain ⟨its2,q2,tp2⟩:=z13 hok e2
        exact ⟨SeqAt.RcAt.none_tuple  tp2 hu',SeqAt.EqAt.none_tuple  tp2 hu'⟩
      | lst ds'=>
        rw [Den] at h';obtain ⟨a2,vs2,rfl,_,e2,g2⟩:=h';cases r';obtain ⟨its2,q2,tp2⟩:=z14 hok e2
        exact ⟨SeqAt.RcAt.none_list  tp2 hu',SeqAt.EqAt.none_list  tp2 hu'⟩
      | dct=>simp [nod] at n2
    | bl b=>
      rw [Den] at h;subst h;cases r
      cases d' with
      | non=>
        rw [Den] at h';subst h';cases r'
        exact ⟨SeqAt.RcAt.bool_none _,SeqAt.EqAt.bool_none _⟩
      | bl b'=>
        rw [Den] at h';subst h';cases r'
        exact ⟨SeqAt.RcAt.bool_bool _ _,SeqAt.EqAt.bool_bool _ _⟩
      | int i'=>
        rw [Den] at h';subst h';obtain ⟨t2,rfl⟩:=r'
        exact ⟨SeqAt.RcAt.bool_int _ _ _,SeqAt.EqAt.bool_int _ _ _⟩
      | str x'=>
        rw [Den] at h';subst h';obtain ⟨t2,rfl⟩:=r'
        exact ⟨SeqAt.RcAt.bool_str _ _ _,SeqAt.EqAt.bool_str _ _ _⟩
      | tup ds'=>
        rw [Den] at h';obtain ⟨a2,vs2,rfl,e2,g2⟩:=h';cases r';obtain ⟨its2,q2,tp2⟩:=z13 hok e2
        exact ⟨SeqAt.RcAt.bool_tuple _ tp2 hu',SeqAt.EqAt.bool_tuple _ tp2 hu'⟩
      | lst ds'=>
        rw [Den] at h';obtain ⟨a2,vs2,rfl,_,e2,g2⟩:=h';cases r';obtain ⟨its2,q2,tp2⟩:=z14 hok e2
        exact ⟨SeqAt.RcAt.bool_list _ tp2 hu',SeqAt.EqAt.bool_list _ tp2 hu'⟩
      | dct=>simp [nod] at n2
    | int i=>
      rw [Den] at h;subst h;obtain ⟨t1,rfl⟩:=r
      cases d' with
      | non=>
        rw [Den] at h';subst h';cases r'
        exact ⟨SeqAt.RcAt.int_none _ _,SeqAt.EqAt.int_none _ _⟩
      | bl b'=>
        rw [Den] at h';subst h';cases r'
        exact ⟨SeqAt.RcAt.int_bool _ _ _,SeqAt.EqAt.int_bool _ _ _⟩
      | int i'=>
        rw [Den] at h';subst h';obtain ⟨t2,rfl⟩:=r'
        exact ⟨SeqAt.RcAt.int_int _ _ _ _,SeqAt.EqAt.int_int _ _ _ _⟩
      | str x'=>
        rw [Den] at h';subst h';obtain ⟨t2,rfl⟩:=r'
        exact ⟨SeqAt.RcAt.int_str _ _ _ _,SeqAt.EqAt.int_str _ _ _ _⟩
      | tup ds'=>
        rw [Den] at h';obtain ⟨a2,vs2,rfl,e2,g2⟩:=h';cases r';obtain ⟨its2,q2,tp2⟩:=z13 hok e2
        exact ⟨SeqAt.RcAt.int_tuple _ _ tp2 hu',SeqAt.EqAt.int_tuple _ _ tp2 hu'⟩
      | lst ds'=>
        rw [Den] at h';obtain ⟨a2,vs2,rfl,_,e2,g2⟩:=h';cases r';obtain ⟨its2,q2,tp2⟩:=z14 hok e2
        exact ⟨SeqAt.RcAt.int_list _ _ tp2 hu',SeqAt.EqAt.int_list _ _ tp2 hu'⟩
      | dct=>simp [nod] at n2
    | str x=>
      rw [Den] at h;subst h;obtain ⟨t1,rfl⟩:=r
      cases d' with
      | non=>
        rw [Den] at h';subst h';cases r'
        exact ⟨SeqAt.RcAt.str_none _ _,SeqAt.EqAt.str_none _ _⟩
      | bl b'=>
        rw [Den] at h';subst h';cases r'
        exact ⟨SeqAt.RcAt.str_bool _ _ _,SeqAt.EqAt.str_bool _ _ _⟩
      | int i'=>
        rw [Den] at h';subst h';obtain ⟨t2,rfl⟩:=r'
        exact ⟨SeqAt.RcAt.str_int _ _ _ _,SeqAt.EqAt.str_int _ _ _ _⟩
      | str x'=>
        rw [Den] at h';subst h';obtain ⟨t2,rfl⟩:=r'
        exact ⟨SeqAt.RcAt.str_str _ _ _ _,SeqAt.EqAt.str_str _ _ _ _⟩
      | tup ds'=>
        rw [Den] at h';obtain ⟨a2,vs2,rfl,e2,g2⟩:=h';cases r';obtain ⟨its2,q2,tp2⟩:=z13 hok e2
        exact ⟨SeqAt.RcAt.str_tuple _ _ tp2 hu',SeqAt.EqAt.str_tuple _ _ tp2 hu'⟩
      | lst ds'=>
        rw [Den] at h';obtain ⟨a2,vs2,rfl,_,e2,g2⟩:=h';cases r';obtain ⟨its2,q2,tp2⟩:=z14 hok e2
        exact ⟨SeqAt.RcAt.str_list _ _ tp2 hu',SeqAt.EqAt.str_list _ _ tp2 hu'⟩
      | dct=>simp [nod] at n2
    | tup ds=>
      rw [Den] at h;obtain ⟨a1,vs1,rfl,e1,g1⟩:=h;cases r;obtain ⟨its1,q1,tp1⟩:=z13 hok e1
      cases d' with
      | non=>
        rw [Den] at h';subst h';cases r'
        exact ⟨SeqAt.RcAt.tuple_none  tp1 hu',SeqAt.EqAt.tuple_none  tp1 hu'⟩
      | bl b'=>
        rw [Den] at h';subst h';cases r'
        exact ⟨SeqAt.RcAt.tuple_bool _ tp1 hu',SeqAt.EqAt.tuple_bool _ tp1 hu'⟩
      | int i'=>
        rw [Den] at h';subst h';obtain ⟨t2,rfl⟩:=r'
        exact ⟨SeqAt.RcAt.tuple_int _ _ tp1 hu',SeqAt.EqAt.tuple_int _ _ tp1 hu'⟩
      | str x'=>
        rw [Den] at h';subst h';obtain ⟨t2,rfl⟩:=r'
        exact ⟨SeqAt.RcAt.tuple_str _ _ tp1 hu',SeqAt.EqAt.tuple_str _ _ tp1 hu'⟩
      | tup ds'=>
        rw [Den] at h';obtain ⟨a2,vs2,rfl,e2,g2⟩:=h';cases r';obtain ⟨its2,q2,tp2⟩:=z13 hok e2
        rw [nod] at n1 n2;rw [dep] at hn
        have hl1:=g1.length;have hl2:=g2.length;have hq1:=q1.length;have hq2:=q2.length
        have key:SeqAt.RcAt A s (.ref a1) (.ref a2) (deq (.tup ds) (.tup ds')):=by
          rw [deq]
          have z:=SeqAt.RcAt.tuples (e:=fun j=>deq (ds.getD j .non) (ds'.getD j .non)) tp1 tp2 hu' (hin (by omega) n1 n2 g1 g2 q1 q2)
          have s1:its1.toArray.size=ds.length:=by simp;omega
          have s2:its2.toArray.size=ds'.length:=by simp;omega
          rw [s1,s2] at z
          by_cases hlen:ds.length=ds'.length
          · rw [z29 hlen];rw [← hlen,Nat.min_self] at z;simpa using z
          · rw [z3a hlen];rw [show (ds.length==ds'.length)=false from beq_eq_false_iff_ne.mpr hlen,Bool.and_false] at z;exact z
        refine ⟨key, ?_⟩
        by_cases hab:a1=a2
        · subst hab;rw [e1] at e2;cases e2;rw [DenL.inj ds ds' _ g1 g2,z6c _ (by rw [nod];exact n2)];exact SeqAt.EqAt.same _
        · exact SeqAt.EqAt.of_refs hab key
      | lst ds'=>
        rw [Den] at h';obtain ⟨a2,vs2,rfl,_,e2,g2⟩:=h';cases r';obtain ⟨its2,q2,tp2⟩:=z14 hok e2
        exact ⟨SeqAt.RcAt.tuple_list tp1 tp2 hu',SeqAt.EqAt.tuple_list tp1 tp2 hu'⟩
      | dct=>simp [nod] at n2
    | lst ds=>
      rw [Den] at h;obtain ⟨a1,vs1,rfl,_,e1,g1⟩:=h;cases r;obtain ⟨its1,q1,tp1⟩:=z14 hok e1
      cases d' with
      | non=>
        rw [Den] at h';subst h';cases r'
        exact ⟨SeqAt.RcAt.list_none  tp1 hu',SeqAt.EqAt.list_none  tp1 hu'⟩
      | bl b'=>
        rw [Den] at h';subst h';cases r'
        exact ⟨SeqAt.RcAt.list_bool _ tp1 hu',SeqAt.EqAt.list_bool _ tp1 hu'⟩
      | int i'=>
        rw [Den] at h';subst h';obtain ⟨t2,rfl⟩:=r'
        exact ⟨SeqAt.RcAt.list_int _ _ tp1 hu',SeqAt.EqAt.list_int _ _ tp1 hu'⟩
      | str x'=>
        rw [Den] at h';subst h';obtain ⟨t2,rfl⟩:=r'
        exact ⟨SeqAt.RcAt.list_str _ _ tp1 hu',SeqAt.EqAt.list_str _ _ tp1 hu'⟩
      | tup ds'=>
        rw [Den] at h';obtain ⟨a2,vs2,rfl,e2,g2⟩:=h';cases r';obtain ⟨its2,q2,tp2⟩:=z13 hok e2
        exact ⟨SeqAt.RcAt.list_tuple tp1 tp2 hu',SeqAt.EqAt.list_tuple tp1 tp2 hu'⟩
      | lst ds'=>
        rw [Den] at h';obtain ⟨a2,vs2,rfl,_,e2,g2⟩:=h';cases r';obtain ⟨its2,q2,tp2⟩:=z14 hok e2
        rw [nod] at n1 n2;rw [dep] at hn
        have hl1:=g1.length;have hl2:=g2.length;have hq1:=q1.length;have hq2:=q2.length
        have key:SeqAt.RcAt A s (.ref a1) (.ref a2) (deq (.lst ds) (.lst ds')):=by
          rw [deq]
          by_cases hlen:ds.length=ds'.length
          · have z:=SeqAt.RcAt.lists (e:=fun j=>deq (ds.getD j .non) (ds'.getD j .non)) tp1 tp2 (by simp;omega) hu' (hin (by omega) n1 n2 g1 g2 q1 q2)
            rw [z29 hlen];simpa [hq1.symm,hl1] using z
          · rw [z3a hlen];exact SeqAt.RcAt.lists_lengths tp1 tp2 (by simp;omega) hu'
        refine ⟨key, ?_⟩
        by_cases hab:a1=a2
        · subst hab;rw [e1] at e2;cases e2;rw [DenL.inj ds ds' _ g1 g2,z6c _ (by rw [nod];exact n2)];exact SeqAt.EqAt.same _
        · exact SeqAt.EqAt.of_refs hab key
      | dct=>simp [nod] at n2
    | dct=>simp [nod] at n1
end
end L2
namespace L2.Mr
open PySem PySem.Spec PyProof.Rows
inductive Dv where
  | non | bl (b:Bool) | int (i:Int) | str (x:Str) | tup (xs:List Dv) | ref (i:Nat) | edc | exc (c:Nat) | scr
inductive Ob where
  | lst (xs:List Dv)
abbrev Hs:=List Ob
abbrev Ev:=List (Option Dv)
inductive Rs (α:Type) where
  | ok (a:α) (h:Hs) | ex (c:Nat) (h:Hs) | bad
def Rs.bind {α β:Type} (r:Rs α) (f:α→Hs→Rs β):Rs β:=match r with
  | .ok a h=>f a h
  | .ex c h=>.ex c h
  | .bad=>.bad
@[simp] theorem Rs.bind_ok {α β:Type} (a:α) (h:Hs) (f:α→Hs→Rs β):(Rs.ok a h).bind f=f a h:=rfl
@[simp] theorem Rs.bind_ex {α β:Type} (c:Nat) (h:Hs) (f:α→Hs→Rs β):(Rs.ex c h).bind f=.ex c h:=rfl
@[simp] theorem Rs.bind_bad {α β:Type} (f:α→Hs→Rs β):(Rs.bad).bind f=.bad:=rfl
abbrev M (α:Type):=Ev→Hs→Rs α
structure Cfg where
  K:PySem.W.Frag
  cl:Nat→Addr
  scr:List Int
  sa:Addr
  tab:Option Addr:=none
  lq:Str:=Str.empty
def ExO (C:Value) (e T:Addr) (a0:Value) (h:Heap):Prop:=∃ oe vs,h.get? e=some oe∧oe.cls=C∧oe.data=.fields vs∧vs[0]?=some a0∧vs[1]?=some (.ref T)∧oe.dict=none
def FlyE (G:Cfg) (H:Hp) (c:Nat) (u:Value):Prop:=∃ e φ,u=.ref e∧H e=some (.ext φ)∧∀ h,φ h→∃ o,h.get? e=some o∧o.cls=.ref (G.cl c)
def Imm:HO→Prop
  | .tup _=>True
  | .dK kvs=>kvs=[]
  | .frz _ _=>True
  | _=>False
def FzL (K:PySem.W.Frag) (H:Hp) (a:Addr) (xs:List V):Prop:=(∃ o,H a=some (.frz o (.lst xs))) ∨
    ∃ (o:Obj) (its:Array Value) (n:Nat),K.lookup a=some o∧o.cls=.type "list"∧o.dict=none∧o.data=.seq its n∧its.size≤sizeLine∧Vals xs its.toList
theorem FzL.sq {K:PySem.W.Frag} {H:Hp} {a:Addr} {xs:List V} (h:FzL K H a xs):SqL K H a xs:=by
  rcases h with ⟨o,h⟩ | h
  · exact .inl (.inr ⟨o,h⟩)
  · exact .inr h
theorem FzL.keep {K:PySem.W.Frag} {H H':Hp} {a:Addr} {xs:List V} (h:FzL K H a xs) (k:∀ a o,Imm o→H a=some o→H' a=some o):FzL K H' a xs:=by
  rcases h with ⟨o,h⟩ | h
  · exact .inl ⟨o,k a _ trivial h⟩
  · exact .inr h
mutual
def RelD (G:Cfg) (μ:Nat→Addr) (n:Nat) (H:Hp):Dv→V→Prop
  | .non,v=>v=.non
  | .bl b,v=>v=.bl b
  | .int i,v=>v=.int i
  | .str x,v=>v=.str x
  | .tup ds,v=>∃ a vs,v=.ref a∧H a=some (.tup vs)∧RelDL G μ n H ds vs
  | .ref i,v=>i<n∧v=.ref (μ i)
  | .edc,v=>∃ a,v=.ref a∧H a=some (.dK [])
  | .exc c,v=>∃ a o u,v=.ref a∧H a=some (.frz o u)∧o.cls=.ref (G.cl c)∧o.dict=none∧∃ vs,o.data=.fields vs
  | .scr,v=>v=.ref G.sa∧FzL G.K H G.sa (G.scr.map V.int)
def RelDL (G:Cfg) (μ:Nat→Addr) (n:Nat) (H:Hp):List Dv→List V→Prop
  | [],vs=>vs=[]
  | d::ds,vs=>∃ v r,vs=v::r∧RelD G μ n H d v∧RelDL G μ n H ds r
end
structure Ext (μ:Nat→Addr) (n:Nat) (H:Hp) (μ':Nat→Addr) (n':Nat) (H':Hp):Prop where
  le:n≤n'
  mu:∀ i,i<n→μ' i=μ i
  im:∀ a o,Imm o→H a=some o→H' a=some o
theorem Ext.refl {μ:Nat→Addr} {n:Nat} {H:Hp}:Ext μ n H μ n H:=⟨Nat.le_refl _,fun _ _=>rfl,fun _ _ _ e=>e⟩
theorem Ext.trans {μ μ1 μ2:Nat→Addr} {n n1 n2:Nat} {H H1 H2:Hp} (a:Ext μ n H μ1 n1 H1) (b:Ext μ1 n1 H1 μ2 n2 H2):Ext μ n H μ2 n2 H2:=
  ⟨Nat.le_trans a.le b.le,fun i hi=>(b.mu i (Nat.lt_of_lt_of_le hi a.le)).trans (a.mu i hi),fun c o i e=>b.im c o i (a.im c o i e)⟩
section
variable {G:Cfg} {μ μ':Nat→Addr} {n n':Nat} {H H':Hp}
mutual
theorem RelD.mono (x:Ext μ n H μ' n' H'):∀ (d:Dv) (v:V),RelD G μ n H d v→RelD G μ' n' H' d v
  | .non,v,h=>h
  | .bl b,v,h=>h
  | .int i,v,h=>h
  | .str s,v,h=>h
  | .tup ds,v,h=>by
    obtain ⟨a,vs,e,h1,h2⟩:=h
    exact ⟨a,vs,e,x.im a _ trivial h1,RelDL.mono x ds vs h2⟩
  | .ref i,v,h=>by
    obtain ⟨h1,h2⟩:=h
    exact ⟨Nat.lt_of_lt_of_le h1 x.le,by rw [x.mu i h1];exact h2⟩
  | .edc,v,h=>by
    obtain ⟨a,e,h1⟩:=h
    exact ⟨a,e,x.im a _ rfl h1⟩
  | .exc c,v,h=>by
    obtain ⟨a,o,u,e,h1,h2⟩:=h
    exact ⟨a,o,u,e,x.im a _ trivial h1,h2⟩
  | .scr,v,h=>by
    obtain ⟨h1,h2⟩:=h
    exact ⟨h1,h2.keep x.im⟩
theorem RelDL.mono (x:Ext μ n H μ' n' H'):∀ (ds:List Dv) (vs:List V),RelDL G μ n H ds vs→RelDL G μ' n' H' ds vs
  | [],vs,h=>h
  | d::ds,vs,h=>by
    obtain ⟨v,r,e,h1,h2⟩:=h
    exact ⟨v,r,e,RelD.mono x d v h1,RelDL.mono x ds r h2⟩
end
theorem RelDL.length:∀ {ds:List Dv} {vs:List V},RelDL G μ n H ds vs→vs.length=ds.length
  | [],_,h=>by rw [RelDL] at h;subst h;rfl
  | d::ds,_,h=>by
    rw [RelDL] at h;obtain ⟨v,r,rfl,_,h2⟩:=h
    rw [List.length_cons,List.length_cons,RelDL.length h2]
theorem RelDL.get:∀ {ds:List Dv} {vs:List V} {i:Nat} {d:Dv},RelDL G μ n H ds vs→ds[i]?=some d→∃ v,vs[i]?=some v∧RelD G μ n H d v
  | [],_,_,_,_,e=>by simp at e
  | d::ds,_,0,d',h,e=>by
    rw [RelDL] at h;obtain ⟨v,r,rfl,h1,_⟩:=h
    simp at e;subst e
    exact ⟨v,rfl,h1⟩
  | d::ds,_,i+1,d',h,e=>by
    rw [RelDL] at h;obtain ⟨v,r,rfl,_,h2⟩:=h
    obtain ⟨u,e1,h3⟩:=RelDL.get (i:=i) h2 (by simpa using e)
    exact ⟨u,by simpa using e1,h3⟩
theorem RelDL.nil:RelDL G μ n H [] []:=by rw [RelDL]
theorem RelDL.cons {d:Dv} {v:V} {ds:List Dv} {vs:List V} (h:RelD G μ n H d v) (t:RelDL G μ n H ds vs):RelDL G μ n H (d::ds) (v::vs):=by rw [RelDL];exact ⟨v,vs,rfl,h,t⟩
theorem RelDL.append:∀ {ds es:List Dv} {vs ws:List V},RelDL G μ n H ds vs→RelDL G μ n H es ws→RelDL G μ n H (ds++es) (vs++ws)
  | [],_,_,_,h,h'=>by rw [RelDL] at h;subst h;exact h'
  | d::ds,_,_,_,h,h'=>by
    rw [RelDL] at h;obtain ⟨v,r,rfl,h1,h2⟩:=h
    exact RelDL.cons h1 (RelDL.append h2 h')
theorem RelDL.take:∀ {ds:List Dv} {vs:List V} (k:Nat),RelDL G μ n H ds vs→RelDL G μ n H (ds.take k) (vs.take k)
  | [],_,k,h=>by rw [RelDL] at h;subst h;simp [RelDL.nil]
  | d::ds,_,0,h=>by simp [RelDL.nil]
  | d::ds,_,k+1,h=>by
    rw [RelDL] at h;obtain ⟨v,r,rfl,h1,h2⟩:=h
    exact RelDL.cons h1 (RelDL.take k h2)
theorem RelDL.drop:∀ {ds:List Dv} {vs:List V} (k:Nat),RelDL G μ n H ds vs→RelDL G μ n H (ds.drop k) (vs.drop k)
  | [],_,k,h=>by rw [RelDL] at h;subst h;simp [RelDL.nil]
  | d::ds,_,0,h=>h
  | d::ds,_,k+1,h=>by
    rw [RelDL] at h;obtain ⟨v,r,rfl,h1,h2⟩:=h
    exact RelDL.drop k h2
theorem RelDL.set {x:Dv} {u:V} (hx:RelD G μ n H x u):∀ {ds:List Dv} {vs:List V} (i:Nat),RelDL G μ n H ds vs→RelDL G μ n H (ds.set i x) (vs.set i u)
  | [],_,_,h=>by rw [RelDL] at h;subst h;exact RelDL.nil
  | d::ds,_,0,h=>by
    rw [RelDL] at h;obtain ⟨v,r,rfl,h1,h2⟩:=h
    exact RelDL.cons hx h2
  | d::ds,_,i+1,h=>by
    rw [RelDL] at h;obtain ⟨v,r,rfl,h1,h2⟩:=h
    exact RelDL.cons h1 (RelDL.set hx i h2)
end
def ObR (G:Cfg) (μ:Nat→Addr) (n:Nat) (H:Hp) (a:Addr):Ob→Prop
  | .lst xs=>∃ vs,H a=some (.lst vs)∧RelDL G μ n H xs vs
def zf8 (q:Str) (oc:Obj):Prop:=∃ vs t,oc.data=.fields vs∧vs[1]?=some (.str q t)
def TabOk (G:Cfg) (H:Hp):Prop:=∀ P,G.tab=some P→∃ ps,H P=some (.tbl ps)∧TriplesOk ps.toList∧∀ pos cv,codeAmong pos ps.toList=some cv→∃ q oc,cv=.ref q∧H q=some (.frz oc (.own 0))∧zf8 G.lq oc
theorem TabOk.keep {G:Cfg} {H H':Hp} (t:TabOk G H) (k:∀ a o,(∀ xs,o≠.lst xs)→(∀ φ,o≠.ext φ)→H a=some o→H' a=some o):TabOk G H':=fun P e=>by
  obtain ⟨ps,h1,h2,h3⟩:=t P e
  refine ⟨ps,k P _ (fun _ z=>by cases z) (fun _ z=>by cases z) h1,h2,fun pos cv q=>?_⟩
  obtain ⟨a,oc,e1,e2,e3⟩:=h3 pos cv q
  exact ⟨a,oc,e1,k a _ (fun _ z=>by cases z) (fun _ z=>by cases z) e2,e3⟩
structure Sim (G:Cfg) (μ:Nat→Addr) (h:Hs) (H:Hp):Prop where
  inj:∀ i j,i<h.length→j<h.length→μ i=μ j→i=j
  ob:∀ (i:Nat) (o:Ob),h[i]?=some o→ObR G μ h.length H (μ i) o
  tab:TabOk G H
structure RelS (G:Cfg) (μ:Nat→Addr) (n:Nat) (H:Hp) (ρ:Ev) (σ:St):Prop where
  len:ρ.length=σ.length
  at_:∀ (i:Nat) (d:Dv),ρ[i]?=some (some d)→∃ v,σ[i]?=some (some v)∧RelD G μ n H d v
theorem RelS.mono {G:Cfg} {μ μ':Nat→Addr} {n n':Nat} {H H':Hp} {ρ:Ev} {σ:St} (r:RelS G μ n H ρ σ) (x:Ext μ n H μ' n' H'):RelS G μ' n' H' ρ σ:=
  ⟨r.len,fun i d e=>let ⟨v,e1,h⟩:=r.at_ i d e;⟨v,e1,RelD.mono x d v h⟩⟩
def Out {α β:Type} (G:Cfg) (E:XK) (μ:Nat→Addr) (n:Nat) (H:Hp) (r:Rs α) (R:(Nat→Addr)→Nat→Hp→α→β→Prop) (Q:β→Hp→Prop):Prop:=
  match r with
  | .ok d h'=>∀ μ' H' v,Ext μ n H μ' h'.length H'→Sim G μ' h' H'→R μ' h'.length H' d v→Q v H'
  | .ex c h'=>∀ μ' H' u,Ext μ n H μ' h'.length H'→Sim G μ' h' H'→FlyE G H' c u→E u none H'
  | .bad=>False
theorem Out.bind {α β γ δ:Type} {G:Cfg} {E:XK} {μ:Nat→Addr} {n:Nat} {H:Hp} {r:Rs α} {f:α→Hs→Rs γ} {R:(Nat→Addr)→Nat→Hp→γ→δ→Prop} {Q:δ→Hp→Prop} {R1:(Nat→Addr)→Nat→Hp→α→β→Prop}
    (o:Out G E μ n H (r.bind f) R Q):Out G E μ n H r R1 fun v H1=>∃ μ1 d h1,Ext μ n H μ1 h1.length H1∧Sim G μ1 h1 H1∧R1 μ1 h1.length H1 d v∧Out G E μ1 h1.length H1 (f d h1) R Q:=by
  cases r with
  | bad=>exact o
  | ex c h'=>exact o
  | ok d h'=>
    intro μ1 H1 v x1 s1 r1
    refine ⟨μ1,d,h',x1,s1,r1, ?_⟩
    have o':Out G E μ n H (f d h') R Q:=o
    cases e:f d h' with
    | bad=>rw [e] at o';exact o'
    | ex c h2=>rw [e] at o';exact fun μ2 H2 u x2 s2 r2=>o' μ2 H2 u (x1.trans x2) s2 r2
    | ok d2 h2=>rw [e] at o';exact fun μ2 H2 u x2 s2 r2=>o' μ2 H2 u (x1.trans x2) s2 r2
theorem Out.mono {α β:Type} {G:Cfg} {E:XK} {μ:Nat→Addr} {n:Nat} {H:Hp} {r:Rs α} {R:(Nat→Addr)→Nat→Hp→α→β→Prop} {Q Q':β→Hp→Prop} (o:Out G E μ n H r R Q) (h:∀ v H',Q v H'→Q' v H'):Out G E μ n H r R Q':=by
  cases r with
  | bad=>exact o
  | ex c h'=>exact o
  | ok d h'=>exact fun μ' H' v x s r=>h _ _ (o μ' H' v x s r)
abbrev RB:(Nat→Addr)→Nat→Hp→Bool→Bool→Prop:=fun _ _ _ b b'=>b'=b
def tOf (G:Cfg) (E:XK) (m:M Dv):TE:=fun σ H Q=>∃ μ ρ h,RelS G μ h.length H ρ σ∧Sim G μ h H∧Out G E μ h.length H (m ρ h) (RelD G) Q
def ttOf (G:Cfg) (E:XK) (m:M Bool):TT:=fun σ H Q=>∃ μ ρ h,RelS G μ h.length H ρ σ∧Sim G μ h H∧Out G E μ h.length H (m ρ h) RB Q
def taOf (G:Cfg) (E:XK) (m:M (List Dv)):TA:=fun σ H Q=>∃ μ ρ h,RelS G μ h.length H ρ σ∧Sim G μ h H∧Out G E μ h.length H (m ρ h) (RelDL G) Q
def Snd (X:Cx) (G:Cfg) (E:XK) (pe:Expr) (m:M Dv):Prop:=X.K=G.K→PE X pe (tOf G E m)
def SndT (X:Cx) (G:Cfg) (E:XK) (pe:Expr) (m:M Bool):Prop:=X.K=G.K→PT X pe (ttOf G E m)
def SndA (X:Cx) (G:Cfg) (E:XK) (pe:List Expr) (m:M (List Dv)):Prop:=X.K=G.K→PA X pe (taOf G E m)
theorem PE.imp {X:Cx} {e:Expr} {t t':TE} (h:PE X e t) (i:∀ σ H Q,t' σ H Q→t σ H Q):PE X e t':=fun pins s σ H Q I q=>h pins s σ H Q I (i σ H Q q)
theorem PT.imp {X:Cx} {e:Expr} {t t':TT} (h:PT X e t) (i:∀ σ H Q,t' σ H Q→t σ H Q):PT X e t':=fun pins s σ H Q I q=>h pins s σ H Q I (i σ H Q q)
theorem PA.imp {X:Cx} {e:List Expr} {t t':TA} (h:PA X e t) (i:∀ σ H Q,t' σ H Q→t σ H Q):PA X e t':=fun pos pins s σ H Q I q=>h pos pins s σ H Q I (i σ H Q q)
section
variable {G:Cfg} {E:XK} {σ:St} {H:Hp}
theorem z0m {m:M Dv} {γ δ:Type} {f:Dv→Hs→Rs γ} {R:(Nat→Addr)→Nat→Hp→γ→δ→Prop} {Q:δ→Hp→Prop} {Q1:V→Hp→Prop} {μ:Nat→Addr} {ρ:Ev} {h:Hs} (rs:RelS G μ h.length H ρ σ) (s:Sim G μ h H) (o:Out G E μ h.length H ((m ρ h).bind f) R Q)
    (k:∀ μ1 d h1 v H1,Ext μ h.length H μ1 h1.length H1→RelS G μ1 h1.length H1 ρ σ→Sim G μ1 h1 H1→RelD G μ1 h1.length H1 d v→Out G E μ1 h1.length H1 (f d h1) R Q→Q1 v H1):tOf G E m σ H Q1:=
  ⟨μ,ρ,h,rs,s,(o.bind (R1:=RelD G)).mono fun v H1 ⟨μ1,d,h1,x,s1,r1,o1⟩=>k μ1 d h1 v H1 x (rs.mono x) s1 r1 o1⟩
theorem z7f {m:M Bool} {γ δ:Type} {f:Bool→Hs→Rs γ} {R:(Nat→Addr)→Nat→Hp→γ→δ→Prop} {Q:δ→Hp→Prop} {Q1:Bool→Hp→Prop} {μ:Nat→Addr} {ρ:Ev} {h:Hs} (rs:RelS G μ h.length H ρ σ) (s:Sim G μ h H) (o:Out G E μ h.length H ((m ρ h).bind f) R Q)
    (k:∀ μ1 b h1 H1,Ext μ h.length H μ1 h1.length H1→RelS G μ1 h1.length H1 ρ σ→Sim G μ1 h1 H1→Out G E μ1 h1.length H1 (f b h1) R Q→Q1 b H1):ttOf G E m σ H Q1:=
  ⟨μ,ρ,h,rs,s,(o.bind (R1:=RB)).mono fun v H1 ⟨μ1,d,h1,x,s1,r1,o1⟩=>by
    have e:v=d:=r1
    subst e
    exact k μ1 v h1 H1 x (rs.mono x) s1 o1⟩
theorem z19 {m:M (List Dv)} {γ δ:Type} {f:List Dv→Hs→Rs γ} {R:(Nat→Addr)→Nat→Hp→γ→δ→Prop} {Q:δ→Hp→Prop} {Q1:List V→Hp→Prop} {μ:Nat→Addr} {ρ:Ev} {h:Hs} (rs:RelS G μ h.length H ρ σ) (s:Sim G μ h H) (o:Out G E μ h.length H ((m ρ h).bind f) R Q)
    (k:∀ μ1 d h1 v H1,Ext μ h.length H μ1 h1.length H1→RelS G μ1 h1.length H1 ρ σ→Sim G μ1 h1 H1→RelDL G μ1 h1.length H1 d v→Out G E μ1 h1.length H1 (f d h1) R Q→Q1 v H1):taOf G E m σ H Q1:=
  ⟨μ,ρ,h,rs,s,(o.bind (R1:=RelDL G)).mono fun v H1 ⟨μ1,d,h1,x,s1,r1,o1⟩=>k μ1 d h1 v H1 x (rs.mono x) s1 r1 o1⟩
theorem Out.val {α β:Type} {μ:Nat→Addr} {h:Hs} {d:α} {R:(Nat→Addr)→Nat→Hp→α→β→Prop} {Q:β→Hp→Prop} {v:β} (s:Sim G μ h H) (o:Out G E μ h.length H (.ok d h) R Q) (r:R μ h.length H d v):Q v H:=o μ H v Ext.refl s r
end
section
variable {G:Cfg} {μ:Nat→Addr} {h:Hs} {H H':Hp} {p:Addr} {n:Nat}
theorem Ext.same (e:Same H H'):Ext μ n H μ n H':=⟨Nat.le_refl _,fun _ _=>rfl,fun a o _ q=>e a o q⟩
theorem Sim.same (s:Sim G μ h H) (e:Same H H'):Sim G μ h H':=⟨s.inj,fun i o q=>by
  have r:=s.ob i o q
  cases o with
  | lst xs=>obtain ⟨vs,e1,r1⟩:=r;exact ⟨vs,e _ _ e1,RelDL.mono (Ext.same e) _ _ r1⟩,s.tab.keep fun a o _ _ q=>e a o q⟩
theorem z0a {o:HO} (h:H p=none):Same H (upd H p o):=fun b u e=>by rw [z0d (z0h e h)];exact e
theorem Sim.not (s:Sim G μ h H) (hp:H p=none):∀ (i:Nat),i<h.length→μ i≠p:=fun i hi z=>by
  have q:h[i]?=some h[i]:=List.getElem?_eq_getElem hi
  generalize h[i]=o at q
  cases o with
  | lst xs=>
    obtain ⟨vs,e1,_⟩:=s.ob i _ q
    rw [z,hp] at e1;cases e1
theorem Sim.alloc {ds:List Dv} {vs:List V} (s:Sim G μ h H) (hp:H p=none) (r:RelDL G μ h.length H ds vs):
    Ext μ h.length H (fun i=>if i=h.length then p else μ i) (h++[Ob.lst ds]).length (upd H p (.lst vs))∧Sim G (fun i=>if i=h.length then p else μ i) (h++[.lst ds]) (upd H p (.lst vs)):=by
  have hl:(h++[Ob.lst ds]).length=h.length+1:=by simp
  have hq:=s.not hp
  have x:Ext μ h.length H (fun i=>if i=h.length then p else μ i) (h++[Ob.lst ds]).length (upd H p (.lst vs)):=
    ⟨by omega,fun i hi=>if_neg (Nat.ne_of_lt hi),fun a o _ e=>z0a hp a o e⟩
  refine ⟨x,fun i j hi hj e=>?_,fun i o q=>?_,s.tab.keep fun a o _ _ q=>z0a hp a o q⟩
  · rw [hl] at hi hj
    by_cases h1:i=h.length <;> by_cases h2:j=h.length
    · omega
    · rw [if_pos h1,if_neg h2] at e;exact absurd e.symm (hq j (by omega))
    · rw [if_neg h1,if_pos h2] at e;exact absurd e (hq i (by omega))
    · rw [if_neg h1,if_neg h2] at e;exact s.inj i j (by omega) (by omega) e
  · by_cases h1:i<h.length
    · rw [List.getElem?_append_left h1] at q
      have r1:=s.ob i o q
      cases o with
      | lst xs=>obtain ⟨ws,e1,r2⟩:=r1;exact ⟨ws,by rw [if_neg (Nat.ne_of_lt h1)];exact z0a hp _ _ e1,RelDL.mono x _ _ r2⟩
    · rw [List.getElem?_append_right (by omega)] at q
      have h2:i=h.length:=by
        have:=(List.getElem?_eq_some_iff.mp q).1
        simp at this;omega
      subst h2
      simp at q;subst q
      exact ⟨vs,by rw [if_pos rfl];exact z0b,RelDL.mono x _ _ r⟩
theorem Sim.write {xs ys:List Dv} {i:Nat} {vs:List V} (s:Sim G μ h H) (q:h[i]?=some (.lst xs)) (r:RelDL G μ h.length H ys vs):
    Ext μ h.length H μ (h.set i (.lst ys)).length (upd H (μ i) (.lst vs))∧Sim G μ (h.set i (.lst ys)) (upd H (μ i) (.lst vs)):=by
  obtain ⟨us,e0,r0⟩:=s.ob i _ q
  have hi:i<h.length:=(List.getElem?_eq_some_iff.mp q).1
  have im:∀ a o,Imm o→H a=some o→upd H (μ i) (.lst vs) a=some o:=fun a o m e=>by
    rw [z0d];exact e
    rintro rfl;rw [e0] at e;cases e;exact m
  have x:Ext μ h.length H μ (h.set i (.lst ys)).length (upd H (μ i) (.lst vs)):=⟨by simp,fun _ _=>rfl,im⟩
  refine ⟨x,fun a b ha hb=>?_,fun j o e=>?_,s.tab.keep fun a o n1 _ q=>?_⟩
  rotate_left 2
  · rw [z0d];exact q
    rintro rfl;rw [e0] at q;cases q;exact n1 _ rfl
  · rw [List.length_set] at ha hb;exact s.inj a b ha hb
  · by_cases hij:i=j
    · subst hij
      rw [List.getElem?_set_self hi] at e;cases e
      exact ⟨vs,z0b,RelDL.mono x _ _ r⟩
    · rw [List.getElem?_set_ne hij] at e
      have hj:j<h.length:=(List.getElem?_eq_some_iff.mp e).1
      have r1:=s.ob j o e
      have ne:μ j≠μ i:=fun z=>hij (s.inj j i hj hi z).symm
      cases o with
      | lst zs=>obtain ⟨ws,e1,r2⟩:=r1;exact ⟨ws,by rw [z0d ne];exact e1,RelDL.mono x _ _ r2⟩
end
def lim {α:Type} (n:Nat) (r:Rs α):Rs α:=if n≤1000000 then r else .bad
theorem z3b {n:Nat} (h:n≤1000000):n≤sizeLine:=Nat.le_trans h (by decide)
def getL (h:Hs) (i:Nat):Option (List Dv):=match h[i]? with
  | some (.lst xs)=>some xs
  | none=>none
theorem z0e {h:Hs} {i:Nat} {xs:List Dv} (e:getL h i=some xs):h[i]?=some (.lst xs):=by
  unfold getL at e
  cases q:h[i]? with
  | none=>rw [q] at e;cases e
  | some o=>cases o;rw [q] at e;cases e;rfl
section
variable {X:Cx} {G:Cfg} {E:XK} {a b c:Expr} {ma mb mc:M Dv} {pos:Pos} {es:List Expr} {mas:M (List Dv)}
def mVar (i:Nat):M Dv:=fun ρ h=>match ρ[i]? with
  | some (some d)=>.ok d h
  | _=>.bad
theorem z01 (i:Nat) {x:Str} (hN:X.N[i]?=some x:=by rfl) (hv:Vis X.env.scope x:=by first | exact Or.inl rfl | exact Or.inr (Or.inl rfl) | exact Or.inr (Or.inr rfl))
    (hd:(x==("__debug__" : Str))=false:=by decide) (hcd:(x==("__classdict__" : Str))=false:=by decide):Snd X G E (.Name x pos) (mVar i):=fun _=>PE.imp (zbi hN hv hd hcd) fun σ H Q ⟨μ,ρ,h,rs,s,o⟩=>by
  unfold mVar at o
  split at o
  · rename_i d e
    obtain ⟨v,e1,r⟩:=rs.at_ i d e
    exact ⟨v,e1,o.val s r⟩
  · exact o.elim
def mC (d:Dv):M Dv:=fun _ h=>.ok d h
theorem z07 {i j}:Snd X G E (.Constant (.int i) j pos) (mC (.int i)):=fun _=>PE.imp zli fun σ H Q ⟨μ,ρ,h,rs,s,o⟩=>o.val s (show RelD G μ _ H (.int i) (.int i) from rfl)
theorem z1u {i j}:Snd X G E (.Constant (.bool i) j pos) (mC (.bl i)):=fun _=>PE.imp zog fun σ H Q ⟨μ,ρ,h,rs,s,o⟩=>o.val s (show RelD G μ _ H (.bl i) (.bl i) from rfl)
theorem z8g {j}:Snd X G E (.Constant .none j pos) (mC .non):=fun _=>PE.imp zhj fun σ H Q ⟨μ,ρ,h,rs,s,o⟩=>o.val s (show RelD G μ _ H .non .non from rfl)
theorem z4j {x j}:Snd X G E (.Constant (.str x) j pos) (mC (.str x)):=fun _=>PE.imp zlj fun σ H Q ⟨μ,ρ,h,rs,s,o⟩=>o.val s (show RelD G μ _ H (.str x) (.str x) from rfl)
def mNil:M (List Dv):=fun _ h=>.ok [] h
def z00 (m:M Dv) (ms:M (List Dv)):M (List Dv):=fun ρ h=>(m ρ h).bind fun d h1=>(ms ρ h1).bind fun ds h2=>.ok (d::ds) h2
theorem z06:SndA X G E [] mNil:=fun _=>PA.imp z27 fun σ H Q ⟨μ,ρ,h,rs,s,o⟩=>o.val s RelDL.nil
theorem z02 (ha:Snd X G E a ma) (hr:SndA X G E es mas) (hs:starEach (a::es) X.env=(false,eval a X.env)::starEach es X.env:=by rfl):SndA X G E (a::es) (z00 ma mas):=fun hK=>
  PA.imp (z17 (ha hK) (hr hK) hs) fun σ H Q ⟨μ,ρ,h,rs,s,o⟩=>z0m rs s o fun μ1 d h1 v H1 x1 rs1 s1 r1 o1=>z19 rs1 s1 o1 fun μ2 ds h2 vs H2 x2 rs2 s2 r2 o2=>o2.val s2 (RelDL.cons (RelD.mono x2 _ _ r1) r2)
def mTup (ms:M (List Dv)):M Dv:=fun ρ h=>(ms ρ h).bind fun ds h1=>lim ds.length (.ok (.tup ds) h1)
theorem z1r {k} (h:SndA X G E es mas):Snd X G E (.Tuple es k pos) (mTup mas):=fun hK=>PE.imp (zhm (h hK)) fun σ H Q ⟨μ,ρ,h,rs,s,o⟩=>z19 rs s o fun μ1 ds h1 vs H1 x1 rs1 s1 r1 o1=>by
  unfold lim at o1
  split at o1
  · rename_i hl
    refine ⟨by rw [r1.length];exact z3b hl,fun p hp=>?_⟩
    exact o1 μ1 _ _ (Ext.same (z0a hp)) (s1.same (z0a hp)) ⟨p,vs,rfl,z0b,RelDL.mono (Ext.same (z0a hp)) _ _ r1⟩
  · exact o1.elim
def mLst (ms:M (List Dv)):M Dv:=fun ρ h=>(ms ρ h).bind fun ds h1=>lim ds.length (.ok (.ref h1.length) (h1++[.lst ds]))
theorem z3m {μ:Nat→Addr} {h:Hs} {H:Hp} {ds:List Dv} {vs:List V} {Q:VK} {p:Addr} (s:Sim G μ h H) (r:RelDL G μ h.length H ds vs) (hp:H p=none) (o:Out G E μ h.length H (.ok (.ref h.length) (h++[.lst ds])) (RelD G) Q):Q (.ref p) (upd H p (.lst vs)):=by
  obtain ⟨x,s'⟩:=s.alloc hp r
  exact o _ _ _ x s' ⟨by simp,by show V.ref p=V.ref (if h.length=h.length then p else μ h.length);rw [if_pos rfl]⟩
theorem z1e (h:SndA X G E es mas):Snd X G E (.List es pos) (mLst mas):=fun hK=>PE.imp (zm4 (h hK)) fun σ H Q ⟨μ,ρ,h,rs,s,o⟩=>z19 rs s o fun μ1 ds h1 vs H1 x1 rs1 s1 r1 o1=>by
  unfold lim at o1
  split at o1
  · rename_i hl
    exact ⟨by rw [r1.length];exact z3b hl,fun p hp=>z3m s1 r1 hp o1⟩
  · exact o1.elim
def m2 (f:Dv→Dv→Hs→Rs Dv) (ma mb:M Dv):M Dv:=fun ρ h=>(ma ρ h).bind fun x h1=>(mb ρ h1).bind fun y h2=>f x y h2
def OpD (G:Cfg) (r:R2) (f:Dv→Dv→Hs→Rs Dv):Prop:=∀ (E:XK) (μ:Nat→Addr) (h:Hs) (H:Hp) (x y:Dv) (vx vy:V) (Q:VK),Sim G μ h H→RelD G μ h.length H x vx→RelD G μ h.length H y vy→Out G E μ h.length H (f x y h) (RelD G) Q→r vx vy H Q
theorem z7g {r:R2} {f:Dv→Dv→Hs→Rs Dv} (hd:OpD G r f) {σ:St} {H:Hp} {Q:VK} (t:tOf G E (m2 f ma mb) σ H Q):tOp r (tOf G E ma) (tOf G E mb) σ H Q:=by
  obtain ⟨μ,ρ,h,rs,s,o⟩:=t
  exact z0m rs s o fun μ1 x h1 vx H1 x1 rs1 s1 r1 o1=>z0m rs1 s1 o1 fun μ2 y h2 vy H2 x2 rs2 s2 r2 o2=>hd E μ2 h2 H2 x y vx vy Q s2 (RelD.mono x2 _ _ r1) r2 o2
theorem z5m {op:Operator} {r:R2} {f:Dv→Dv→Hs→Rs Dv} (ho:OpR X (binaryOp op) r) (hd:OpD G r f) (ha:Snd X G E a ma) (hb:Snd X G E b mb):Snd X G E (.BinOp a op b pos) (m2 f ma mb):=fun hK=>
  PE.imp (zor ho (ha hK) (hb hK)) fun _ _ _ t=>z7g hd t
theorem z6f {op:CmpOp} {r:R2} {f:Dv→Dv→Hs→Rs Dv} (ho:OpR X (compareOp op) r) (hd:OpD G r f) (ha:Snd X G E a ma) (hb:Snd X G E b mb) (hm:behindInMarks op b=false):Snd X G E (.Compare a [op] [b] pos) (m2 f ma mb):=fun hK=>
  PE.imp (zix ho (ha hK) (hb hK) hm) fun _ _ _ t=>z7g hd t
def asB:Dv→Hs→Rs Bool
  | .bl b,h=>.ok b h
  | _,_=>.bad
def mB (m:M Dv):M Bool:=fun ρ h=>(m ρ h).bind asB
theorem zmf {m:M Dv} {σ:St} {H:Hp} {Q:Bool→Hp→Prop} (t:ttOf G E (mB m) σ H Q):tOf G E m σ H fun x H'=>∃ k,x=.bl k∧Q k H':=by
  obtain ⟨μ,ρ,h,rs,s,o⟩:=t
  refine z0m rs s o fun μ1 x h1 vx H1 x1 rs1 s1 r1 o1=>?_
  cases x with
  | bl k=>exact ⟨k,r1,o1.val s1 rfl⟩
  | _=>exact o1.elim
theorem z7h {op:CmpOp} {r:R2} {f:Dv→Dv→Hs→Rs Dv} (ho:OpR X (compareOp op) r) (hd:OpD G r f) (ha:Snd X G E a ma) (hb:Snd X G E b mb) (hm:behindInMarks op b=false):SndT X G E (.Compare a [op] [b] pos) (mB (m2 f ma mb)):=fun hK=>
  PT.imp (ziy ho (ha hK) (hb hK) hm) fun σ H Q t=>z7g hd (zmf t)
def z5n (f f':Dv→Dv→Hs→Rs Dv) (ma mb mc:M Dv):M Dv:=fun ρ h=>(ma ρ h).bind fun x h1=>(mb ρ h1).bind fun y h2=>(f x y h2).bind fun z h3=>match z with
  | .bl true=>(mc ρ h3).bind fun w h4=>f' y w h4
  | .bl false=>.ok (.bl false) h3
  | _=>.bad
theorem zc2 {r r':R2} {f f':Dv→Dv→Hs→Rs Dv} (hd:OpD G r f) (hd':OpD G r' f') {σ:St} {H:Hp} {Q:VK} (t:tOf G E (z5n f f' ma mb mc) σ H Q):zhl r r' (tOf G E ma) (tOf G E mb) (tOf G E mc) σ H Q:=by
  obtain ⟨μ,ρ,h,rs,s,o⟩:=t
  refine z0m rs s o fun μ1 x h1 vx H1 x1 rs1 s1 r1 o1=>z0m rs1 s1 o1 fun μ2 y h2 vy H2 x2 rs2 s2 r2 o2=>?_
  refine hd E μ2 h2 H2 x y vx vy _ s2 (RelD.mono x2 _ _ r1) r2 ((o2.bind (R1:=RelD G)).mono fun vz H3 ⟨μ3,z,h3,x3,s3,r3,o3⟩=>?_)
  cases z with
  | bl k=>
    refine ⟨k,r3, ?_⟩
    cases k with
    | true=>exact iteT (z0m (rs2.mono x3) s3 o3 fun μ4 w h4 vw H4 x4 rs4 s4 r4 o4=>hd' E μ4 h4 H4 y w vy vw Q s4 (RelD.mono (x3.trans x4) _ _ r2) r4 o4)
    | false=>exact iteF (o3.val s3 rfl)
  | _=>exact o3.elim
theorem zc3 {op op':CmpOp} {r r':R2} {f f':Dv→Dv→Hs→Rs Dv} (ho:OpR X (compareOp op) r) (ho':OpR X (compareOp op') r') (hd:OpD G r f) (hd':OpD G r' f') (ha:Snd X G E a ma) (hb:Snd X G E b mb) (hc:Snd X G E c mc)
    (hm:lastMarks [op,op'] [b,c]=false:=by with_unfolding_all rfl):Snd X G E (.Compare a [op,op'] [b,c] pos) (z5n f f' ma mb mc):=fun hK=>
  PE.imp (zex ho ho' (ha hK) (hb hK) (hc hK) hm) fun _ _ _ t=>zc2 hd hd' t
def UnD (G:Cfg) (r:V→Hp→VK→Prop) (f:Dv→Hs→Rs Dv):Prop:=∀ (E:XK) (μ:Nat→Addr) (h:Hs) (H:Hp) (x:Dv) (vx:V) (Q:VK),Sim G μ h H→RelD G μ h.length H x vx→Out G E μ h.length H (f x h) (RelD G) Q→r vx H Q
def m1 (f:Dv→Hs→Rs Dv) (ma:M Dv):M Dv:=fun ρ h=>(ma ρ h).bind f
theorem zmg {op:UnaryOp} {r:V→Hp→VK→Prop} {f:Dv→Hs→Rs Dv} (ho:UnR X (unaryOp op) r) (hd:UnD G r f) (ha:Snd X G E a ma):Snd X G E (.UnaryOp op a pos) (m1 f ma):=fun hK=>
  PE.imp (zos ho (ha hK)) fun σ H Q ⟨μ,ρ,h,rs,s,o⟩=>z0m rs s o fun μ1 x h1 vx H1 x1 rs1 s1 r1 o1=>hd E μ1 h1 H1 x vx Q s1 r1 o1
variable {tA tB':M Bool} {rest:List Expr}
def mOr (t u:M Bool):M Bool:=fun ρ h=>(t ρ h).bind fun c h1=>if c=true then .ok true h1 else u ρ h1
def mNot (t:M Bool):M Bool:=fun ρ h=>(t ρ h).bind fun c h1=>.ok (!c) h1
def SndW (X:Cx) (G:Cfg) (E:XK) (pe:Expr) (m:M Bool):Prop:=X.K=G.K→PW X pe (ttOf G E m)
theorem SndW.t {pe:Expr} {m:M Bool} (h:SndW X G E pe m):SndT X G E pe m:=fun hK=>(h hK).pt
theorem PW.imp {e:Expr} {t t':TT} (h:PW X e t) (i:∀ σ H Q,t' σ H Q→t σ H Q):PW X e t':=fun wh pins s σ H Q I q=>h wh pins s σ H Q I (i σ H Q q)
theorem z9g (ha:SndT X G E a tA):SndW X G E (.BoolOp .Or [a] pos) tA:=fun hK=>zlk (ha hK)
theorem zmh {σ:St} {H:Hp} {Q:Bool→Hp→Prop} (t:ttOf G E (mOr tA tB') σ H Q):tOr (ttOf G E tA) (ttOf G E tB') σ H Q:=by
  obtain ⟨μ,ρ,h,rs,s,o⟩:=t
  refine z7f rs s o fun μ1 k h1 H1 x1 rs1 s1 o1=>?_
  cases k with
  | false=>rw [if_neg (by decide)] at o1 ⊢;exact ⟨μ1,ρ,h1,rs1,s1,o1⟩
  | true=>rw [if_pos rfl] at o1 ⊢;exact o1.val s1 rfl
theorem zf9 (ha:SndT X G E a tA) (hb:SndW X G E (.BoolOp .Or (b::rest) pos) tB'):SndW X G E (.BoolOp .Or (a::b::rest) pos) (mOr tA tB'):=fun hK=>PW.imp (zoh (ha hK) (hb hK)) fun _ _ _ t=>zmh t
theorem z3c (ha:SndT X G E a tA):SndT X G E (.UnaryOp .Not a pos) (mNot tA):=fun hK=>PT.imp (zll (ha hK)) fun σ H Q ⟨μ,ρ,h,rs,s,o⟩=>z7f rs s o fun μ1 k h1 H1 x1 rs1 s1 o1=>o1.val s1 rfl
def z20 (m u:M Dv):M Dv:=fun ρ h=>(m ρ h).bind fun d h1=>match d with
  | .bl true=>u ρ h1
  | .bl false=>.ok (.bl false) h1
  | _=>.bad
def notD:Dv→Hs→Rs Dv
  | .bl b,h=>.ok (.bl (!b)) h
  | _,_=>.bad
theorem z3n {op} {m:M Dv} (h:Snd X G E a m):Snd X G E (.BoolOp op [a] pos) m:=fun hK=>zlm (h hK)
theorem z3o (ha:Snd X G E a ma) (hb:Snd X G E (.BoolOp .And (b::rest) pos) mb):Snd X G E (.BoolOp .And (a::b::rest) pos) (z20 ma mb):=fun hK=>PE.imp (zln (ha hK) (hb hK)) fun σ H Q ⟨μ,ρ,h,rs,s,o⟩=>
  z0m rs s o fun μ1 x h1 vx H1 x1 rs1 s1 r1 o1=>by
    cases x with
    | bl k=>
      refine ⟨k,r1, ?_⟩
      cases k with
      | true=>exact iteT ⟨μ1,ρ,h1,rs1,s1,o1⟩
      | false=>exact iteF (o1.val s1 rfl)
    | _=>exact o1.elim
theorem zc4 (ha:Snd X G E a ma):Snd X G E (.UnaryOp .Not a pos) (m1 notD ma):=fun hK=>PE.imp (zlo (ha hK)) fun σ H Q ⟨μ,ρ,h,rs,s,o⟩=>
  z0m rs s o fun μ1 x h1 vx H1 x1 rs1 s1 r1 o1=>by
    cases x with
    | bl k=>exact ⟨k,r1,o1.val s1 rfl⟩
    | _=>exact o1.elim
def truD:Dv→Hs→Rs Bool
  | .non,h=>.ok false h
  | .bl b,h=>.ok b h
  | .int i,h=>.ok (i != 0) h
  | .tup xs,h=>.ok (!xs.isEmpty) h
  | .ref i,h=>match getL h i with
    | some xs=>.ok (!xs.isEmpty) h
    | none=>.bad
  | _,_=>.bad
def mTru (m:M Dv):M Bool:=fun ρ h=>(m ρ h).bind truD
theorem z4k {μ:Nat→Addr} {n:Nat} {H:Hp} {ds:List Dv} {vs:List V} (r:RelDL G μ n H ds vs):vs.isEmpty=ds.isEmpty:=by
  have:=r.length
  cases ds <;> cases vs <;> simp_all
theorem z22 (ha:Snd X G E a ma) (he:∀ whole,isTrue a X.env whole=(do let v ← whole;standAt a.pos;holding [v] (truthy v)):=by intro _;rfl):SndT X G E a (mTru ma):=fun hK=>PT.imp (zey (ha hK) he) fun σ H Q ⟨μ,ρ,h,rs,s,o⟩=>
  z0m rs s o fun μ1 x h1 vx H1 x1 rs1 s1 r1 o1=>by
    cases x with
    | non=>rw [RelD] at r1;subst r1;exact ⟨_,rfl,o1.val s1 rfl⟩
    | bl k=>rw [RelD] at r1;subst r1;exact ⟨_,rfl,o1.val s1 rfl⟩
    | int i=>rw [RelD] at r1;subst r1;exact ⟨_,rfl,o1.val s1 rfl⟩
    | tup ds=>
      obtain ⟨p,vs,rfl,e,r⟩:=r1
      exact ⟨_,.inr (.inl ⟨vs,SqT.of e,rfl⟩),by rw [z4k r];exact o1.val s1 rfl⟩
    | ref i=>
      obtain ⟨hi,rfl⟩:=r1
      dsimp only [truD] at o1
      cases q:getL h1 i with
      | none=>rw [q] at o1;exact o1.elim
      | some xs=>
        obtain ⟨vs,e,r⟩:=s1.ob i _ (z0e q)
        rw [q] at o1
        exact ⟨_,.inl ⟨vs,SqL.of e,rfl⟩,by rw [z4k r];exact o1.val s1 rfl⟩
    | _=>exact o1.elim
end
end L2.Mr
namespace L2
open PySem PySem.Spec PyProof.Rows
section
variable {Pg:Program} {w:World} {P:Addr→Prop} {H:Hp} {s:Shared}
theorem zmi (hok:HOk Pg w H s.heap) (n:Nat) (A:Around) (d d':Dt) (v v':V) (u u':Value) (hn:dep d≤n) (hu:A.units+n+1<cLine) (n1:nod d=true) (n2:nod d'=true) (h:Den P H d v) (h':Den P H d' v') (r:RelV v u) (r':RelV v' u'):
    SeqAt.RcNeAt A s u u' (!deq d d'):=by
  have hu':A.units<cLine:=by omega
  have hin:∀ {vs vs':List V} {ds ds':List Dt} {its its':List Value},depL ds+1≤n→nodL ds=true→nodL ds'=true→DenL P H ds vs→DenL P H ds' vs'→Vals vs its→Vals vs' its'→
      ∀ j (h1:j<its.toArray.size) (h2:j<its'.toArray.size),SeqAt.EqAt A.in1 s its.toArray[j] its'.toArray[j] (deq (ds.getD j .non) (ds'.getD j .non)):=by
    intro vs vs' ds ds' its its' hd m1 m2 g g' q q' j h1 h2
    obtain ⟨x,ex,rx⟩:=z6e q h1
    obtain ⟨x',ex',rx'⟩:=z6e q' h2
    obtain ⟨dx,edx,gx⟩:=g.get ex
    obtain ⟨dx',edx',gx'⟩:=g'.get ex'
    have e1:ds.getD j .non=dx:=by simp [List.getD,edx]
    have e2:ds'.getD j .non=dx':=by simp [List.getD,edx']
    rw [e1,e2]
    have hm:=List.mem_of_getElem? edx
    have hdm:=z6d hm
    exact (zc1 hok (n - 1) A.in1 dx dx' x x' _ _ (by omega) (by show A.units+1+(n - 1)+1<cLine;omega) (z39 m1 hm) (z39 m2 (List.mem_of_getElem? edx')) gx gx' rx rx').2
  cases d with
  | non=>
    rw [Den] at h;subst h;cases r
    cases d' with
    | non=>
      rw [Den] at h';subst h';cases r'
      exact SeqAt.RcNeAt.none_none
    | bl b'=>
      rw [Den] at h';subst h';cases r'
      exact SeqAt.RcNeAt.none_bool  _
    | int i'=>
      rw [Den] at h';subst h';obtain ⟨t2,rfl⟩:=r'
      exact SeqAt.RcNeAt.none_int  _ _
    | str x'=>
      rw [Den] at h';subst h';obtain ⟨t2,rfl⟩:=r'
      exact SeqAt.RcNeAt.none_str  _ _
    | tup ds'=>
      rw [Den] at h';obtain ⟨a2,vs2,rfl,e2,g2⟩:=h';cases r';obtain ⟨its2,q2,tp2⟩:=z13 hok e2
      exact SeqAt.RcNeAt.none_tuple  tp2 hu'
    | lst ds'=>
      rw [Den] at h';obtain ⟨a2,vs2,rfl,_,e2,g2⟩:=h';cases r';obtain ⟨its2,q2,tp2⟩:=z14 hok e2
      exact SeqAt.RcNeAt.none_list  tp2 hu'
    | dct=>simp [nod] at n2
  | bl b=>
    rw [Den] at h;subst h;cases r
    cases d' with
    | non=>
      rw [Den] at h';subst h';cases r'
      exact SeqAt.RcNeAt.bool_none _
    | bl b'=>
      rw [Den] at h';subst h';cases r'
      exact SeqAt.RcNeAt.bool_bool _ _
    | int i'=>
      rw [Den] at h';subst h';obtain ⟨t2,rfl⟩:=r'
      exact SeqAt.RcNeAt.bool_int _ _ _
    | str x'=>
      rw [Den] at h';subst h';obtain ⟨t2,rfl⟩:=r'
      exact SeqAt.RcNeAt.bool_str _ _ _
    | tup ds'=>
      rw [Den] at h';obtain ⟨a2,vs2,rfl,e2,g2⟩:=h';cases r';obtain ⟨its2,q2,tp2⟩:=z13 hok e2
      exact SeqAt.RcNeAt.bool_tuple _ tp2 hu'
    | lst ds'=>
      rw [Den] at h';obtain ⟨a2,vs2,rfl,_,e2,g2⟩:=h';cases r';obtain ⟨its2,q2,tp2⟩:=z14 hok e2
      exact SeqAt.RcNeAt.bool_list _ tp2 hu'
    | dct=>simp [nod] at n2
  | int i=>
    rw [Den] at h;subst h;obtain ⟨t1,rfl⟩:=r
    cases d' with
    | non=>
      rw [Den] at h';subst h';cases r'
      exact SeqAt.RcNeAt.int_none _ _
    | bl b'=>
      rw [Den] at h';subst h';cases r'
      exact SeqAt.RcNeAt.int_bool _ _ _
    | int i'=>
      rw [Den] at h';subst h';obtain ⟨t2,rfl⟩:=r'
      exact SeqAt.RcNeAt.int_int _ _ _ _
    | str x'=>
      rw [Den] at h';subst h';obtain ⟨t2,rfl⟩:=r'
      exact SeqAt.RcNeAt.int_str _ _ _ _
    | tup ds'=>
      rw [Den] at h';obtain ⟨a2,vs2,rfl,e2,g2⟩:=h';cases r';obtain ⟨its2,q2,tp2⟩:=z13 hok e2
      exact SeqAt.RcNeAt.int_tuple _ _ tp2 hu'
    | lst ds'=>
      rw [Den] at h';obtain ⟨a2,vs2,rfl,_,e2,g2⟩:=h';cases r';obtain ⟨its2,q2,tp2⟩:=z14 hok e2
      exact SeqAt.RcNeAt.int_list _ _ tp2 hu'
    | dct=>simp [nod] at n2
  | str x=>
    rw [Den] at h;subst h;obtain ⟨t1,rfl⟩:=r
    cases d' with
    | non=>
      rw [Den] at h';subst h';cases r'
      exact SeqAt.RcNeAt.str_none _ _
    | bl b'=>
      rw [Den] at h';subst h';cases r'
      exact SeqAt.RcNeAt.str_bool _ _ _
    | int i'=>
      rw [Den] at h';subst h';obtain ⟨t2,rfl⟩:=r'
      exact SeqAt.RcNeAt.str_int _ _ _ _
    | str x'=>
      rw [Den] at h';subst h';obtain ⟨t2,rfl⟩:=r'
      exact SeqAt.RcNeAt.str_str _ _ _ _
    | tup ds'=>
      rw [Den] at h';obtain ⟨a2,vs2,rfl,e2,g2⟩:=h';cases r';obtain ⟨its2,q2,tp2⟩:=z13 hok e2
      exact SeqAt.RcNeAt.str_tuple _ _ tp2 hu'
    | lst ds'=>
      rw [Den] at h';obtain ⟨a2,vs2,rfl,_,e2,g2⟩:=h';cases r';obtain ⟨its2,q2,tp2⟩:=z14 hok e2
      exact SeqAt.RcNeAt.str_list _ _ tp2 hu'
    | dct=>simp [nod] at n2
  | tup ds=>
    rw [Den] at h;obtain ⟨a1,vs1,rfl,e1,g1⟩:=h;cases r;obtain ⟨its1,q1,tp1⟩:=z13 hok e1
    cases d' with
    | non=>
      rw [Den] at h';subst h';cases r'
      exact SeqAt.RcNeAt.tuple_none  tp1 hu'
    | bl b'=>
      rw [Den] at h';subst h';cases r'
      exact SeqAt.RcNeAt.tuple_bool _ tp1 hu'
    | int i'=>
      rw [Den] at h';subst h';obtain ⟨t2,rfl⟩:=r'
      exact SeqAt.RcNeAt.tuple_int _ _ tp1 hu'
    | str x'=>
      rw [Den] at h';subst h';obtain ⟨t2,rfl⟩:=r'
      exact SeqAt.RcNeAt.tuple_str _ _ tp1 hu'
    | tup ds'=>
      rw [Den] at h';obtain ⟨a2,vs2,rfl,e2,g2⟩:=h';cases r';obtain ⟨its2,q2,tp2⟩:=z13 hok e2
      rw [nod] at n1 n2;rw [dep] at hn
      have hl1:=g1.length;have hl2:=g2.length;have hq1:=q1.length;have hq2:=q2.length
      rw [deq]
      have z:=SeqAt.RcNeAt.tuples (e:=fun j=>deq (ds.getD j .non) (ds'.getD j .non)) tp1 tp2 hu' (hin hn n1 n2 g1 g2 q1 q2)
      have s1:its1.toArray.size=ds.length:=by simp;omega
      have s2:its2.toArray.size=ds'.length:=by simp;omega
      rw [s1,s2] at z
      by_cases hlen:ds.length=ds'.length
      · rw [z29 hlen];rw [← hlen,Nat.min_self] at z;simpa using z
      · rw [z3a hlen];rw [show (ds.length==ds'.length)=false from beq_eq_false_iff_ne.mpr hlen,Bool.and_false] at z;exact z
    | lst ds'=>
      rw [Den] at h';obtain ⟨a2,vs2,rfl,_,e2,g2⟩:=h';cases r';obtain ⟨its2,q2,tp2⟩:=z14 hok e2
      exact SeqAt.RcNeAt.tuple_list tp1 tp2 hu'
    | dct=>simp [nod] at n2
  | lst ds=>
    rw [Den] at h;obtain ⟨a1,vs1,rfl,_,e1,g1⟩:=h;cases r;obtain ⟨its1,q1,tp1⟩:=z14 hok e1
    cases d' with
    | non=>
      rw [Den] at h';subst h';cases r'
      exact SeqAt.RcNeAt.list_none  tp1 hu'
    | bl b'=>
      rw [Den] at h';subst h';cases r'
      exact SeqAt.RcNeAt.list_bool _ tp1 hu'
    | int i'=>
      rw [Den] at h';subst h';obtain ⟨t2,rfl⟩:=r'
      exact SeqAt.RcNeAt.list_int _ _ tp1 hu'
    | str x'=>
      rw [Den] at h';subst h';obtain ⟨t2,rfl⟩:=r'
      exact SeqAt.RcNeAt.list_str _ _ tp1 hu'
    | tup ds'=>
      rw [Den] at h';obtain ⟨a2,vs2,rfl,e2,g2⟩:=h';cases r';obtain ⟨its2,q2,tp2⟩:=z13 hok e2
      exact SeqAt.RcNeAt.list_tuple tp1 tp2 hu'
    | lst ds'=>
      rw [Den] at h';obtain ⟨a2,vs2,rfl,_,e2,g2⟩:=h';cases r';obtain ⟨its2,q2,tp2⟩:=z14 hok e2
      rw [nod] at n1 n2;rw [dep] at hn
      have hl1:=g1.length;have hl2:=g2.length;have hq1:=q1.length;have hq2:=q2.length
      rw [deq]
      by_cases hlen:ds.length=ds'.length
      · have z:=SeqAt.RcNeAt.lists (e:=fun j=>deq (ds.getD j .non) (ds'.getD j .non)) tp1 tp2 (by simp;omega) hu' (hin hn n1 n2 g1 g2 q1 q2)
        rw [z29 hlen];simpa [hq1.symm,hl1] using z
      · rw [z3a hlen];exact SeqAt.RcNeAt.lists_lengths tp1 tp2 (by simp;omega) hu'
    | dct=>simp [nod] at n2
  | dct=>simp [nod] at n1
end
end L2
namespace L2.Mr
open PySem PySem.Spec PyProof.Rows
def optL {α β:Type} (f:α→Option β):List α→Option (List β)
  | []=>some []
  | x::xs=>match f x with
    | none=>none
    | some y=>match optL f xs with
      | none=>none
      | some ys=>some (y::ys)
def pur:Nat→Hs→Dv→Option Dt
  | 0,_,_=>none
  | k+1,h,d=>match d with
    | .non=>some .non
    | .bl b=>some (.bl b)
    | .int i=>some (.int i)
    | .str x=>some (.str x)
    | .tup xs=>match optL (pur k h) xs with
      | some ts=>some (.tup ts)
      | none=>none
    | .ref i=>match getL h i with
      | some xs=>match optL (pur k h) xs with
        | some ts=>some (.lst ts)
        | none=>none
      | none=>none
    | _=>none
abbrev Tru:Addr→Prop:=fun _=>True
section
variable {G:Cfg} {μ:Nat→Addr} {h:Hs} {H:Hp}
theorem z5o (s:Sim G μ h H):∀ (k:Nat) (d:Dv) (v:V) (t:Dt),RelD G μ h.length H d v→pur k h d=some t→Den Tru H t v∧dep t≤k∧nod t=true:=by
  intro k
  induction k with
  | zero=>intro d v t _ e;cases e
  | succ k ih=>
    have il:∀ (xs:List Dv) (vs:List V) (ts:List Dt),RelDL G μ h.length H xs vs→optL (pur k h) xs=some ts→DenL Tru H ts vs∧depL ts≤k∧nodL ts=true:=by
      intro xs
      induction xs with
      | nil=>intro vs ts r e;cases e;rw [RelDL] at r;subst r;exact ⟨DenL.nil,by simp [depL],rfl⟩
      | cons x xs ihx=>
        intro vs ts r e
        rw [RelDL] at r;obtain ⟨v,rr,rfl,r1,r2⟩:=r
        unfold optL at e
        cases q:pur k h x with
        | none=>rw [q] at e;cases e
        | some y=>
          rw [q] at e
          dsimp only at e
          cases q2:optL (pur k h) xs with
          | none=>rw [q2] at e;cases e
          | some ys=>
            rw [q2] at e;cases e
            obtain ⟨a1,a2,a3⟩:=ih x v y r1 q
            obtain ⟨b1,b2,b3⟩:=ihx rr ys r2 q2
            exact ⟨DenL.cons a1 b1,by rw [depL];omega,by rw [nodL,a3,b3];rfl⟩
    intro d v t r e
    unfold pur at e
    cases d with
    | non=>cases e;rw [RelD] at r;subst r;exact ⟨by rw [Den],by simp [dep],rfl⟩
    | bl b=>cases e;rw [RelD] at r;subst r;exact ⟨by rw [Den],by simp [dep],rfl⟩
    | int b=>cases e;rw [RelD] at r;subst r;exact ⟨by rw [Den],by simp [dep],rfl⟩
    | str b=>cases e;rw [RelD] at r;subst r;exact ⟨by rw [Den],by simp [dep],rfl⟩
    | tup xs=>
      dsimp only at e
      cases q:optL (pur k h) xs with
      | none=>rw [q] at e;cases e
      | some ts=>
        rw [q] at e;cases e
        obtain ⟨a,vs,rfl,e1,r1⟩:=r
        obtain ⟨b1,b2,b3⟩:=il xs vs ts r1 q
        exact ⟨by rw [Den];exact ⟨a,vs,rfl,e1,b1⟩,by rw [dep];omega,by rw [nod];exact b3⟩
    | ref i=>
      dsimp only at e
      cases g:getL h i with
      | none=>rw [g] at e;cases e
      | some xs=>
        rw [g] at e
        dsimp only at e
        cases q:optL (pur k h) xs with
        | none=>rw [q] at e;cases e
        | some ts=>
          rw [q] at e;cases e
          obtain ⟨hi,rfl⟩:=r
          obtain ⟨vs,e1,r1⟩:=s.ob i _ (z0e g)
          obtain ⟨b1,b2,b3⟩:=il xs vs ts r1 q
          exact ⟨by rw [Den];exact ⟨_,vs,rfl,trivial,e1,b1⟩,by rw [dep];omega,by rw [nod];exact b3⟩
    | edc=>cases e
    | exc c=>cases e
    | scr=>cases e
end
def z0w:Nat:=30
def eqD (x y:Dv) (h:Hs):Rs Dv:=match pur z0w h x,pur z0w h y with
  | some s,some t=>.ok (.bl (deq s t)) h
  | _,_=>.bad
def neD (x y:Dv) (h:Hs):Rs Dv:=match pur z0w h x,pur z0w h y with
  | some s,some t=>.ok (.bl (!deq s t)) h
  | _,_=>.bad
def rEqG (neg:Bool):R2:=fun x y H Q=>∃ t t',Den Tru H t x∧Den Tru H t' y∧dep t≤z0w∧nod t=true∧nod t'=true∧Q (.bl (if neg then !deq t t' else deq t t')) H
section
variable {X:Cx} {G:Cfg}
theorem zht (hu:X.A.units+64<cLine):OpR X (compareOp .Eq) (rEqG false):=by
  intro pins s σ H x y v u Q I r1 r2 ⟨t,t',d,d',hd,n1,n2,q⟩
  exact EqBoolInt.of_rc (zc1 I.hok z0w X.A t t' x y v u hd (by unfold z0w;omega) n1 n2 d d' r1 r2).1 ⟨.bl _,H,I,rfl,q⟩
theorem zmj (hu:X.A.units+64<cLine):OpR X (compareOp .NotEq) (rEqG true):=by
  intro pins s σ H x y v u Q I r1 r2 ⟨t,t',d,d',hd,n1,n2,q⟩
  exact EqBoolInt.of_rcne (zmi I.hok z0w X.A t t' x y v u hd (by unfold z0w;omega) n1 n2 d d' r1 r2) ⟨.bl _,H,I,rfl,q⟩
theorem zhu:OpD G (rEqG false) eqD:=by
  intro E μ h H x y vx vy Q s rx ry o
  unfold eqD at o
  split at o
  · rename_i t t' e e'
    obtain ⟨a1,a2,a3⟩:=z5o s _ x vx t rx e
    obtain ⟨b1,b2,b3⟩:=z5o s _ y vy t' ry e'
    exact ⟨t,t',a1,b1,a2,a3,b3,o.val s rfl⟩
  · exact o.elim
theorem zmk:OpD G (rEqG true) neD:=by
  intro E μ h H x y vx vy Q s rx ry o
  unfold neD at o
  split at o
  · rename_i t t' e e'
    obtain ⟨a1,a2,a3⟩:=z5o s _ x vx t rx e
    obtain ⟨b1,b2,b3⟩:=z5o s _ y vy t' ry e'
    exact ⟨t,t',a1,b1,a2,a3,b3,o.val s rfl⟩
  · exact o.elim
end
def iOp (g:Int→Int→Dv):Dv→Dv→Hs→Rs Dv
  | .int i,.int j,h=>.ok (g i j) h
  | _,_,_=>.bad
def iOpC (C:Int→Int→Bool) (g:Int→Int→Dv):Dv→Dv→Hs→Rs Dv
  | .int i,.int j,h=>if C i j=true then .ok (g i j) h else .bad
  | _,_,_=>.bad
section
variable {X:Cx} {G:Cfg}
theorem zjf {f:Int→Int→Int}:OpD G (rI0 fun i j=>.int (f i j)) (iOp fun i j=>.int (f i j)):=by
  intro E μ h H x y vx vy Q s rx ry o
  cases x with
  | int i=>
    cases y with
    | int j=>exact ⟨i,j,rx,ry,o.val s rfl⟩
    | _=>exact o.elim
  | _=>exact o.elim
theorem z7i {f:Int→Int→Bool}:OpD G (rI0 fun i j=>.bl (f i j)) (iOp fun i j=>.bl (f i j)):=by
  intro E μ h H x y vx vy Q s rx ry o
  cases x with
  | int i=>
    cases y with
    | int j=>exact ⟨i,j,rx,ry,o.val s rfl⟩
    | _=>exact o.elim
  | _=>exact o.elim
theorem z46 {C:Int→Int→Prop} {B:Int→Int→Bool} {f:Int→Int→Int} (hB:∀ i j,B i j=true→C i j):OpD G (rI C fun i j=>.int (f i j)) (iOpC B fun i j=>.int (f i j)):=by
  intro E μ h H x y vx vy Q s rx ry o
  cases x with
  | int i=>
    cases y with
    | int j=>
      dsimp only [iOpC] at o
      split at o
      · rename_i hb;exact ⟨i,j,rx,ry,hB i j hb,o.val s rfl⟩
      · exact o.elim
    | _=>exact o.elim
  | _=>exact o.elim
def inW (i:Int):Bool:=decide (-18446744073709551616<i)&&decide (i<18446744073709551616)
def mulB (i j:Int):Bool:=inW i||inW j
theorem zjg (i j:Int) (h:mulB i j=true):CMul i j:=by
  unfold mulB inW at h
  unfold CMul
  simp only [Bool.or_eq_true,Bool.and_eq_true,decide_eq_true_eq] at h
  rcases h with h | h
  · exact .inl ⟨by omega,by omega⟩
  · exact .inr ⟨by omega,by omega⟩
def modB (_ j:Int):Bool:=decide (0<j)
theorem zjh (i j:Int) (h:modB i j=true):0<j:=by unfold modB at h;simpa using h
def powB (i j:Int):Bool:=decide (0≤j)&&decide (j≤1000000)&&decide (i.natAbs<18446744073709551616)
theorem zji (i j:Int) (h:powB i j=true):CPow i j:=by
  unfold powB at h;unfold CPow
  simp only [Bool.and_eq_true,decide_eq_true_eq] at h
  exact ⟨h.1.1,h.1.2,by have:=h.2;omega⟩
def addD:Dv→Dv→Hs→Rs Dv
  | .int i,.int j,h=>.ok (.int (i+j)) h
  | .ref i,.ref j,h=>match getL h i,getL h j with
    | some xs,some ys=>lim (xs.length+ys.length) (.ok (.ref h.length) (h++[.lst (xs++ys)]))
    | _,_=>.bad
  | .tup xs,.tup ys,h=>if xs.isEmpty=true then .bad else lim (xs.length+ys.length) (.ok (.tup (xs++ys)) h)
  | _,_,_=>.bad
def zjj (K:PySem.W.Frag):R2:=fun x y H Q=>(rI0 fun i j=>.int (i+j)) x y H Q∨rCat x y H Q∨zm8 K x y H Q
theorem zjk:OpR X (binaryOp .Add) (zjj X.K):=op_add.or (op_cat.or zj3)
theorem zjl:OpD G (zjj G.K) addD:=by
  intro E μ h H x y vx vy Q s rx ry o
  cases x with
  | int i=>
    cases y with
    | int j=>exact .inl ⟨i,j,rx,ry,o.val s rfl⟩
    | _=>exact o.elim
  | ref i=>
    cases y with
    | ref j=>
      dsimp only [addD] at o
      cases g1:getL h i with
      | none=>rw [g1] at o;exact o.elim
      | some xs=>
        cases g2:getL h j with
        | none=>rw [g1,g2] at o;exact o.elim
        | some ys=>
          rw [g1,g2] at o
          dsimp only at o
          unfold lim at o
          split at o
          · rename_i hl
            obtain ⟨vs,e1,r1⟩:=s.ob i _ (z0e g1)
            obtain ⟨ws,e2,r2⟩:=s.ob j _ (z0e g2)
            obtain ⟨_,rfl⟩:=rx
            obtain ⟨_,rfl⟩:=ry
            exact .inr (.inl ⟨_,_,vs,ws,rfl,rfl,e1,e2,by rw [r1.length,r2.length];exact z3b hl,fun p hp=>z3m s (r1.append r2) hp o⟩)
          · exact o.elim
    | _=>exact o.elim
  | tup xs=>
    cases y with
    | tup ys=>
      dsimp only [addD] at o
      split at o
      · exact o.elim
      · rename_i hne
        unfold lim at o
        split at o
        · rename_i hl
          obtain ⟨a,vs,rfl,e1,r1⟩:=rx
          obtain ⟨b,ws,rfl,e2,r2⟩:=ry
          refine .inr (.inr ⟨a,b,vs,ws,rfl,rfl,SqT.of e1,SqT.of e2, ?_,by rw [r1.length,r2.length];exact z3b hl,fun z=>?_,fun _ p hp=>?_⟩)
          · intro z;subst z
            have:=r1.length
            cases xs <;> simp_all
          · subst z
            have e3:ys=[]:=by have:=r2.length;cases ys <;> simp_all
            subst e3
            refine o.val s ?_
            rw [List.append_nil]
            exact ⟨a,vs,rfl,e1,r1⟩
          · exact o μ _ _ (Ext.same (z0a hp)) (s.same (z0a hp)) ⟨p,_,rfl,z0b,RelDL.mono (Ext.same (z0a hp)) _ _ (r1.append r2)⟩
        · exact o.elim
    | _=>exact o.elim
  | _=>exact o.elim
def atL (xs:List Dv) (i:Int) (h:Hs):Rs Dv:=match atI xs i with
  | some d=>.ok d h
  | none=>.bad
def ixD (scr:List Int):Dv→Dv→Hs→Rs Dv
  | .tup xs,.int i,h=>atL xs i h
  | .ref k,.int i,h=>match getL h k with
    | some xs=>atL xs i h
    | none=>.bad
  | .scr,.int i,h=>atL (scr.map Dv.int) i h
  | _,_,_=>.bad
theorem z2a {μ:Nat→Addr} {n:Nat} {H:Hp}:∀ ns:List Int,RelDL G μ n H (ns.map Dv.int) (ns.map V.int)
  | []=>RelDL.nil
  | i::ns=>RelDL.cons rfl (z2a ns)
theorem zc5 {E:XK} {μ:Nat→Addr} {h:Hs} {H:Hp} {xs:List Dv} {vs:List V} {i:Int} {Q:VK} (s:Sim G μ h H) (r:RelDL G μ h.length H xs vs) (o:Out G E μ h.length H (atL xs i h) (RelD G) Q):∃ v,atI vs i=some v∧Q v H:=by
  unfold atL at o
  cases e:atI xs i with
  | none=>rw [e] at o;exact o.elim
  | some d=>
    rw [e] at o
    unfold atI at e ⊢
    rw [r.length]
    cases q:ixN xs.length i with
    | none=>rw [q] at e;cases e
    | some j=>
      rw [q] at e
      obtain ⟨v,e1,r1⟩:=r.get e
      exact ⟨v,e1,o.val s r1⟩
theorem zhv:OpD G (rIx G.K) (ixD G.scr):=by
  intro E μ h H x y vx vy Q s rx ry o
  cases y with
  | int i=>
    cases x with
    | tup xs=>
      obtain ⟨a,vs,rfl,e1,r1⟩:=rx
      obtain ⟨v,e2,q⟩:=zc5 s r1 o
      exact .inr (.inl ⟨a,vs,i,v,rfl,ry,SqT.of e1,e2,q⟩)
    | ref k=>
      dsimp only [ixD] at o
      cases g:getL h k with
      | none=>rw [g] at o;exact o.elim
      | some xs=>
        rw [g] at o
        obtain ⟨vs,e1,r1⟩:=s.ob k _ (z0e g)
        obtain ⟨_,rfl⟩:=rx
        obtain ⟨v,e2,q⟩:=zc5 s r1 o
        exact .inl ⟨_,vs,i,v,rfl,ry,SqL.of e1,e2,q⟩
    | scr=>
      obtain ⟨rfl,hf⟩:=rx
      obtain ⟨v,e2,q⟩:=zc5 s (z2a G.scr) o
      exact .inl ⟨_,_,i,v,rfl,ry,hf.sq,e2,q⟩
    | _=>exact o.elim
  | _=>cases x <;> exact o.elim
theorem zml {E:XK} {a b:Expr} {ma mb:M Dv} {pos:Pos} (ha:Snd X G E a ma) (hb:Snd X G E b mb) (hs:z8f b:=by intro _ _;rfl):Snd X G E (.Subscript a b pos) (m2 (ixD G.scr) ma mb):=fun hK=>
  PE.imp (zm9 (by have:=zho (X:=X);rw [hK] at this;exact this) (ha hK) (hb hK) hs) fun _ _ _ t=>z7g zhv t
theorem z6g:bootBuiltins "tuple" = some (.type "tuple"):=by decide +kernel
theorem z9h:bootBuiltins "list" = some (.type "list"):=by decide +kernel
theorem zoz:bootBuiltins "max" = some (.builtin "max"):=by decide +kernel
theorem zp0:bootBuiltins "min" = some (.builtin "min"):=by decide +kernel
variable {E:XK} {mas:M (List Dv)} {e:Expr} {es:List Expr} {x:Str} {p pos:Pos} {id T:String}
def z8h (G:Cfg) (r:List V→Hp→VK→Prop) (f:List Dv→Hs→Rs Dv):Prop:=∀ (E:XK) (μ:Nat→Addr) (h:Hs) (H:Hp) (xs:List Dv) (vs:List V) (Q:VK),Sim G μ h H→RelDL G μ h.length H xs vs→Out G E μ h.length H (f xs h) (RelD G) Q→r vs H Q
def z05 (f:List Dv→Hs→Rs Dv) (ms:M (List Dv)):M Dv:=fun ρ h=>(ms ρ h).bind f
theorem zhw {r:List V→Hp→VK→Prop} {f:List Dv→Hs→Rs Dv} (hd:z8h G r f) {σ:St} {H:Hp} {Q:VK} (t:tOf G E (z05 f mas) σ H Q):tCB r (taOf G E mas) σ H Q:=by
  obtain ⟨μ,ρ,h,rs,s,o⟩:=t
  exact z19 rs s o fun μ1 ds h1 vs H1 x1 rs1 s1 r1 o1=>hd E μ1 h1 H1 ds vs Q s1 r1 o1
theorem z3d {r:List V→Hp→VK→Prop} {f:List Dv→Hs→Rs Dv} (hc:CallR X (.builtin id) r) (hd:z8h G r f) (hg:Gl X x) (hm:X.mg x=none) (hv:bootBuiltins x=some (.builtin id)) (ha:SndA X G E (e::es) mas) (hn:x ≠ "__name__" := by decide) (hdb:(x==("__debug__" : Str))=false:=by decide)
    (he:starEach (e::es) X.env=(false,eval e X.env)::starEach es X.env:=by rfl) (hpl:(backTo pos (starEach es X.env)).any (·.1)=false:=by rfl):Snd X G E (.Call (.Name x p) (e::es) [] pos) (z05 f mas):=fun hK=>
  PE.imp (z35 hc hg hm hv (ha hK) hn hdb he hpl) fun _ _ _ t=>zhw hd t
theorem z5p {r:List V→Hp→VK→Prop} {f:List Dv→Hs→Rs Dv} (hc:CallR X (.type T) r) (hd:z8h G r f) (hg:Gl X x) (hm:X.mg x=none) (hv:bootBuiltins x=some (.type T)) (ha:SndA X G E (e::es) mas) (hn:x ≠ "__name__" := by decide) (hdb:(x==("__debug__" : Str))=false:=by decide)
    (he:starEach (e::es) X.env=(false,eval e X.env)::starEach es X.env:=by rfl) (hpl:(backTo pos (starEach es X.env)).any (·.1)=false:=by rfl):Snd X G E (.Call (.Name x p) (e::es) [] pos) (z05 f mas):=fun hK=>
  PE.imp (z2o hc hg hm hv (ha hK) hn hdb he hpl) fun _ _ _ t=>zhw hd t
def seqD (scr:List Int):Dv→Hs→Option (List Dv)
  | .tup xs,_=>some xs
  | .ref i,h=>getL h i
  | .scr,_=>some (scr.map Dv.int)
  | _,_=>none
def f1 (g:Dv→Hs→Rs Dv):List Dv→Hs→Rs Dv
  | [d],h=>g d h
  | _,_=>.bad
def lenD (scr:List Int) (d:Dv) (h:Hs):Rs Dv:=match seqD scr d h with
  | some xs=>.ok (.int xs.length) h
  | none=>.bad
theorem z2q {μ:Nat→Addr} {n:Nat} {H:Hp} {d:Dv} {vs:List V} (r:RelDL G μ n H [d] vs):∃ v,vs=[v]∧RelD G μ n H d v:=by
  rw [RelDL] at r;obtain ⟨v,rr,rfl,h1,h2⟩:=r
  rw [RelDL] at h2;subst h2
  exact ⟨v,rfl,h1⟩
theorem zfa {r:V→Hp→VK→Prop} {g:Dv→Hs→Rs Dv} (hg:UnD G r g):z8h G (fun xs H Q=>∃ v,xs=[v]∧r v H Q) (f1 g):=by
  intro E μ h H xs vs Q s rr o
  match xs,rr,o with
  | [],_,o=>exact o.elim
  | _::_::_,_,o=>exact o.elim
  | [d],rr,o=>
    obtain ⟨v,rfl,r1⟩:=z2q rr
    exact ⟨v,rfl,hg E μ h H d v Q s r1 o⟩
theorem z4l {μ:Nat→Addr} {n:Nat} {H:Hp} {d d':Dv} {vs:List V} (r:RelDL G μ n H [d,d'] vs):∃ v v',vs=[v,v']∧RelD G μ n H d v∧RelD G μ n H d' v':=by
  rw [RelDL] at r;obtain ⟨v,rr,rfl,h1,h2⟩:=r
  obtain ⟨v',rfl,h3⟩:=z2q h2
  exact ⟨v,v',rfl,h1,h3⟩
theorem z8i {μ:Nat→Addr} {h:Hs} {H:Hp} {d:Dv} {v:V} {xs:List Dv} (s:Sim G μ h H) (r:RelD G μ h.length H d v) (e:seqD G.scr d h=some xs):∃ a vs,v=.ref a∧(SqL G.K H a vs∨SqT G.K H a vs)∧RelDL G μ h.length H xs vs:=by
  cases d with
  | tup ds=>cases e;obtain ⟨a,vs,rfl,e1,r1⟩:=r;exact ⟨a,vs,rfl,.inr (SqT.of e1),r1⟩
  | ref i=>obtain ⟨_,rfl⟩:=r;obtain ⟨vs,e1,r1⟩:=s.ob i _ (z0e e);exact ⟨_,vs,rfl,.inl (SqL.of e1),r1⟩
  | scr=>cases e;obtain ⟨rfl,hf⟩:=r;exact ⟨_,_,rfl,.inl hf.sq,z2a _⟩
  | _=>cases e
def zmm (K:PySem.W.Frag):V→Hp→VK→Prop:=fun x H Q=>∃ p ys,x=.ref p∧(SqL K H p ys∨SqT K H p ys)∧Q (.int ys.length) H
theorem zc6:UnD G (zmm G.K) (lenD G.scr):=by
  intro E μ h H d v Q s r1 o
  unfold lenD at o
  cases e:seqD G.scr d h with
  | none=>rw [e] at o;exact o.elim
  | some ys=>
    rw [e] at o
    obtain ⟨a,ws,rfl,hs,r2⟩:=z8i s r1 e
    exact ⟨a,ws,rfl,hs,by rw [r2.length];exact o.val s rfl⟩
theorem CallR.imp {f:Value} {r r':List V→Hp→VK→Prop} (h:CallR X f r) (i:∀ xs H Q,r' xs H Q→r xs H Q):CallR X f r':=fun pins s σ H xs us Q I rv q=>h pins s σ H xs us Q I rv (i xs H Q q)
theorem zc7 (hg:Gl X "len") (hm:X.mg "len" = none) (ha:SndA X G E (e::es) mas)
    (he:starEach (e::es) X.env=(false,eval e X.env)::starEach es X.env:=by rfl) (hpl:(backTo pos (starEach es X.env)).any (·.1)=false:=by rfl):Snd X G E (.Call (.Name "len" p) (e::es) [] pos) (z05 (f1 (lenD G.scr)) mas):=fun hK=>
  z3d (CallR.imp (z3y (X:=X)) fun xs H Q ⟨v,h1,a,ys,h2,h3,h4⟩=>⟨a,ys,by rw [h1,h2],by rw [hK];exact h3,h4⟩) (zfa zc6) hg hm PySem.boot_len ha (by decide) (by decide) he hpl hK
def z6h:List Dv→Hs→Rs Dv
  | [.int i,.int j],h=>.ok (.int (if j>i then j else i)) h
  | _,_=>.bad
def zay:List Dv→Hs→Rs Dv
  | [.int i,.int j],h=>.ok (.int (if j<i then j else i)) h
  | _,_=>.bad
theorem zhx {f:List Dv→Hs→Rs Dv} {g:Int→Int→Int} (h2:∀ i j h,f [.int i,.int j] h=.ok (.int (g i j)) h) (hb:∀ xs h,(∀ i j,xs≠[.int i,.int j])→f xs h=.bad):
    z8h G (fun xs H Q=>∃ i j,xs=[.int i,.int j]∧Q (.int (g i j)) H) f:=by
  intro E μ h H xs vs Q s r o
  by_cases hx:∃ i j,xs=[.int i,.int j]
  · obtain ⟨i,j,rfl⟩:=hx
    obtain ⟨v,v',rfl,r1,r2⟩:=z4l r
    rw [RelD] at r1 r2;subst r1;subst r2
    rw [h2] at o
    exact ⟨i,j,rfl,o.val s rfl⟩
  · rw [hb xs h (fun i j e=>hx ⟨i,j,e⟩)] at o
    exact o.elim
theorem zfb:z8h G (fun xs H Q=>∃ i j,xs=[.int i,.int j]∧Q (.int (if j>i then j else i)) H) z6h:=zhx (fun _ _ _=>rfl) fun xs h hx=>by
  unfold z6h;split
  · rename_i i j;exact absurd rfl (hx i j)
  · rfl
theorem zfc:z8h G (fun xs H Q=>∃ i j,xs=[.int i,.int j]∧Q (.int (if j<i then j else i)) H) zay:=zhx (fun _ _ _=>rfl) fun xs h hx=>by
  unfold zay;split
  · rename_i i j;exact absurd rfl (hx i j)
  · rfl
def z2k:Dv→Hs→Rs Dv
  | .tup xs,h=>.ok (.tup xs) h
  | .ref i,h=>match getL h i with
    | some xs=>.ok (.tup xs) h
    | none=>.bad
  | _,_=>.bad
def zp1 (K:PySem.W.Frag):V→Hp→VK→Prop:=fun x H Q=>∃ p ys,x=.ref p∧((SqL K H p ys∧∀ l,H l=none→Q (.ref l) (upd H l (.tup ys)))∨(SqT K H p ys∧Q (.ref p) H))
theorem zc8:UnD G (zp1 G.K) z2k:=by
  intro E μ h H d v Q s r1 o
  cases d with
  | tup ds=>
    have r1':=r1
    obtain ⟨a,ws,rfl,e1,r2⟩:=r1
    exact ⟨a,ws,rfl,.inr ⟨SqT.of e1,o.val s r1'⟩⟩
  | ref i=>
    dsimp only [z2k] at o
    cases g:getL h i with
    | none=>rw [g] at o;exact o.elim
    | some ys=>
      rw [g] at o
      obtain ⟨_,rfl⟩:=r1
      obtain ⟨ws,e1,r2⟩:=s.ob i _ (z0e g)
      exact ⟨_,ws,rfl,.inl ⟨SqL.of e1,fun l hl=>o μ _ _ (Ext.same (z0a hl)) (s.same (z0a hl)) ⟨l,ws,rfl,z0b,RelDL.mono (Ext.same (z0a hl)) _ _ r2⟩⟩⟩
  | _=>exact o.elim
theorem z7j (hg:Gl X "tuple") (hm:X.mg "tuple" = none) (ha:SndA X G E (e::es) mas)
    (he:starEach (e::es) X.env=(false,eval e X.env)::starEach es X.env:=by rfl) (hpl:(backTo pos (starEach es X.env)).any (·.1)=false:=by rfl):Snd X G E (.Call (.Name "tuple" p) (e::es) [] pos) (z05 (f1 z2k) mas):=fun hK=>
  z5p (CallR.imp (z36 (X:=X)) fun xs H Q ⟨v,h1,a,ys,h2,h3⟩=>⟨a,ys,by rw [h1,h2],by rw [hK];exact h3⟩) (zfa zc8) hg hm z6g ha (by decide) (by decide) he hpl hK
def zaz (scr:List Int) (d:Dv) (h:Hs):Rs Dv:=match seqD scr d h with
  | some xs=>.ok (.ref h.length) (h++[.lst xs])
  | none=>.bad
theorem zfd:UnD G (fun x H Q=>∃ p ys,x=.ref p∧(SqL G.K H p ys∨SqT G.K H p ys)∧∀ l,H l=none→Q (.ref l) (upd H l (.lst ys))) (zaz G.scr):=by
  intro E μ h H d v Q s r1 o
  unfold zaz at o
  cases e:seqD G.scr d h with
  | none=>rw [e] at o;exact o.elim
  | some ys=>
    rw [e] at o
    obtain ⟨a,ws,rfl,hs,r2⟩:=z8i s r1 e
    exact ⟨a,ws,rfl,hs,fun l hl=>z3m s r2 hl o⟩
theorem z9i (hc:X.calm=true) (hg:Gl X "max") (hm:X.mg "max" = none) (ha:SndA X G E (e::es) mas)
    (he:starEach (e::es) X.env=(false,eval e X.env)::starEach es X.env:=by rfl) (hpl:(backTo pos (starEach es X.env)).any (·.1)=false:=by rfl):Snd X G E (.Call (.Name "max" p) (e::es) [] pos) (z05 z6h mas):=
  z3d (zbq hc) zfb hg hm zoz ha (by decide) (by decide) he hpl
theorem zfe (hc:X.calm=true) (hg:Gl X "min") (hm:X.mg "min" = none) (ha:SndA X G E (e::es) mas)
    (he:starEach (e::es) X.env=(false,eval e X.env)::starEach es X.env:=by rfl) (hpl:(backTo pos (starEach es X.env)).any (·.1)=false:=by rfl):Snd X G E (.Call (.Name "min" p) (e::es) [] pos) (z05 zay mas):=
  z3d (zbr hc) zfc hg hm zp0 ha (by decide) (by decide) he hpl
end
inductive Sr where
  | nx (ρ:Ev) (h:Hs) | rt (d:Dv) (h:Hs) | bk (ρ:Ev) (h:Hs) | ct (ρ:Ev) (h:Hs) | ex (c:Nat) (h:Hs) | bad
abbrev MS:=Ev→Hs→Sr
def SOut (G:Cfg) (E:XK) (μ:Nat→Addr) (n:Nat) (H:Hp) (r:Sr) (D:Ends):Prop:=match r with
  | .nx ρ h'=>∀ μ' H' σ',Ext μ n H μ' h'.length H'→Sim G μ' h' H'→RelS G μ' h'.length H' ρ σ'→D.nx σ' H'
  | .bk ρ h'=>∀ μ' H' σ',Ext μ n H μ' h'.length H'→Sim G μ' h' H'→RelS G μ' h'.length H' ρ σ'→D.bk σ' H'
  | .ct ρ h'=>∀ μ' H' σ',Ext μ n H μ' h'.length H'→Sim G μ' h' H'→RelS G μ' h'.length H' ρ σ'→D.ct σ' H'
  | .rt d h'=>∀ μ' H' v,Ext μ n H μ' h'.length H'→Sim G μ' h' H'→RelD G μ' h'.length H' d v→D.rt v H'
  | .ex c h'=>∀ μ' H' u,Ext μ n H μ' h'.length H'→Sim G μ' h' H'→FlyE G H' c u→E u none H'
  | .bad=>False
theorem SOut.ext {G:Cfg} {E:XK} {μ μ1:Nat→Addr} {n n1:Nat} {H H1:Hp} {r:Sr} {D:Ends} (o:SOut G E μ n H r D) (x:Ext μ n H μ1 n1 H1):SOut G E μ1 n1 H1 r D:=by
  cases r with
  | nx ρ h'=>exact fun μ' H' σ' y=>o μ' H' σ' (x.trans y)
  | bk ρ h'=>exact fun μ' H' σ' y=>o μ' H' σ' (x.trans y)
  | ct ρ h'=>exact fun μ' H' σ' y=>o μ' H' σ' (x.trans y)
  | rt d h'=>exact fun μ' H' σ' y=>o μ' H' σ' (x.trans y)
  | ex c h'=>exact fun μ' H' σ' y=>o μ' H' σ' (x.trans y)
  | bad=>exact o
def tsOf (G:Cfg) (E:XK) (m:MS):TS:=fun D σ H=>∃ μ ρ h,RelS G μ h.length H ρ σ∧Sim G μ h H∧SOut G E μ h.length H (m ρ h) D
def SndS (X:Cx) (G:Cfg) (E:XK) (st:Stmt) (m:MS):Prop:=X.K=G.K→PS X st (tsOf G E m)
def z3p (X:Cx) (G:Cfg) (E:XK) (st:List Stmt) (m:MS):Prop:=X.K=G.K→PSs X st (tsOf G E m)
theorem PS.imp {X:Cx} {e:Stmt} {t t':TS} (h:PS X e t) (i:∀ D σ H,t' D σ H→t D σ H):PS X e t':=fun pins s σ H D I q=>h pins s σ H D I (i D σ H q)
theorem PSs.imp {X:Cx} {e:List Stmt} {t t':TS} (h:PSs X e t) (i:∀ D σ H,t' D σ H→t D σ H):PSs X e t':=fun pins s σ H D I q=>h pins s σ H D I (i D σ H q)
def Rs.thenS {α:Type} (r:Rs α) (f:α→Hs→Sr):Sr:=match r with
  | .ok a h=>f a h
  | .ex c h=>.ex c h
  | .bad=>.bad
@[simp] theorem Rs.thenS_ok {α:Type} (a:α) (h:Hs) (f:α→Hs→Sr):(Rs.ok a h).thenS f=f a h:=rfl
@[simp] theorem Rs.thenS_ex {α:Type} (c:Nat) (h:Hs) (f:α→Hs→Sr):(Rs.ex c h).thenS f=.ex c h:=rfl
@[simp] theorem Rs.thenS_bad {α:Type} (f:α→Hs→Sr):(Rs.bad).thenS f=.bad:=rfl
theorem SOut.thenS {α β:Type} {G:Cfg} {E:XK} {μ:Nat→Addr} {n:Nat} {H:Hp} {r:Rs α} {f:α→Hs→Sr} {D:Ends} {R:(Nat→Addr)→Nat→Hp→α→β→Prop}
    (o:SOut G E μ n H (r.thenS f) D):Out G E μ n H r R fun v H1=>∃ μ1 d h1,Ext μ n H μ1 h1.length H1∧Sim G μ1 h1 H1∧R μ1 h1.length H1 d v∧SOut G E μ1 h1.length H1 (f d h1) D:=by
  cases r with
  | bad=>exact o
  | ex c h'=>exact o
  | ok d h'=>exact fun μ1 H1 v x1 s1 r1=>⟨μ1,d,h',x1,s1,r1,SOut.ext o x1⟩
section
variable {X:Cx} {G:Cfg} {E:XK} {st:Stmt} {rest:List Stmt} {m u:MS} {e:Expr} {me:M Dv} {pos:Pos}
theorem z1o {m:M Dv} {σ:St} {H:Hp} {f:Dv→Hs→Sr} {D:Ends} {Q1:V→Hp→Prop} {μ:Nat→Addr} {ρ:Ev} {h:Hs} (rs:RelS G μ h.length H ρ σ) (s:Sim G μ h H) (o:SOut G E μ h.length H ((m ρ h).thenS f) D)
    (k:∀ μ1 d h1 v H1,Ext μ h.length H μ1 h1.length H1→RelS G μ1 h1.length H1 ρ σ→Sim G μ1 h1 H1→RelD G μ1 h1.length H1 d v→SOut G E μ1 h1.length H1 (f d h1) D→Q1 v H1):tOf G E m σ H Q1:=
  ⟨μ,ρ,h,rs,s,(o.thenS (R:=RelD G)).mono fun v H1 ⟨μ1,d,h1,x,s1,r1,o1⟩=>k μ1 d h1 v H1 x (rs.mono x) s1 r1 o1⟩
theorem z5q {m:M Bool} {σ:St} {H:Hp} {f:Bool→Hs→Sr} {D:Ends} {Q1:Bool→Hp→Prop} {μ:Nat→Addr} {ρ:Ev} {h:Hs} (rs:RelS G μ h.length H ρ σ) (s:Sim G μ h H) (o:SOut G E μ h.length H ((m ρ h).thenS f) D)
    (k:∀ μ1 b h1 H1,Ext μ h.length H μ1 h1.length H1→RelS G μ1 h1.length H1 ρ σ→Sim G μ1 h1 H1→SOut G E μ1 h1.length H1 (f b h1) D→Q1 b H1):ttOf G E m σ H Q1:=
  ⟨μ,ρ,h,rs,s,(o.thenS (R:=RB)).mono fun v H1 ⟨μ1,d,h1,x,s1,r1,o1⟩=>by
    have e:v=d:=r1
    subst e
    exact k μ1 v h1 H1 x (rs.mono x) s1 o1⟩
def z0x:MS:=fun ρ h=>.nx ρ h
def mSeq (m u:MS):MS:=fun ρ h=>match m ρ h with
  | .nx ρ1 h1=>u ρ1 h1
  | r=>r
theorem z1d:z3p X G E [] z0x:=fun _=>PSs.imp ziq fun D σ H ⟨μ,ρ,h,rs,s,o⟩=>o μ H σ Ext.refl s rs
theorem z08 (h1:SndS X G E st m) (h2:z3p X G E rest u):z3p X G E (st::rest) (mSeq m u):=fun hK=>PSs.imp (zeu (h1 hK) (h2 hK)) fun D σ H ⟨μ,ρ,h,rs,s,o⟩=>by
  refine ⟨μ,ρ,h,rs,s, ?_⟩
  unfold mSeq at o
  cases q:m ρ h with
  | nx ρ1 h1=>
    rw [q] at o
    exact fun μ1 H1 σ1 x1 s1 rs1=>⟨μ1,ρ1,h1,rs1,s1,SOut.ext o x1⟩
  | bk ρ1 h1=>rw [q] at o;exact o
  | ct ρ1 h1=>rw [q] at o;exact o
  | rt ρ1 h1=>rw [q] at o;exact o
  | ex ρ1 h1=>rw [q] at o;exact o
  | bad=>rw [q] at o;exact o
theorem z0f (h1:SndS X G E st m):z3p X G E [st] m:=fun hK=>zbk (h1 hK)
def z1s (me:M Dv):MS:=fun ρ h=>(me ρ h).thenS fun _ h1=>.nx ρ h1
theorem z4m (he:Snd X G E e me) (hs:swapsWith e none pos.line X.env=pure false:=by rfl):SndS X G E (.Expr e pos) (z1s me):=fun hK=>PS.imp (zir (he hK) hs) fun D σ H ⟨μ,ρ,h,rs,s,o⟩=>
  z1o rs s o fun μ1 d h1 v H1 x1 rs1 s1 r1 o1=>o1 μ1 H1 σ Ext.refl s1 rs1
def mRet (me:M Dv):MS:=fun ρ h=>(me ρ h).thenS fun d h1=>.rt d h1
theorem z0q (he:Snd X G E e me):SndS X G E (.Return (some e) pos) (mRet me):=fun hK=>PS.imp (zlp (he hK)) fun D σ H ⟨μ,ρ,h,rs,s,o⟩=>
  z1o rs s o fun μ1 d h1 v H1 x1 rs1 s1 r1 o1=>o1 μ1 H1 v Ext.refl s1 r1
def mIf (c:M Bool) (t u:MS):MS:=fun ρ h=>(c ρ h).thenS fun b h1=>if b=true then t ρ h1 else u ρ h1
theorem z25 {c:Expr} {a b:List Stmt} {mc:M Bool} (hc:SndT X G E c mc) (ha:z3p X G E a m) (hb:z3p X G E b u):SndS X G E (.If c a b pos) (mIf mc m u):=fun hK=>PS.imp (zom (hc hK) (ha hK) (hb hK)) fun D σ H ⟨μ,ρ,h,rs,s,o⟩=>
  z5q rs s o fun μ1 k h1 H1 x1 rs1 s1 o1=>by
    cases k with
    | true=>rw [if_pos rfl] at o1 ⊢;exact ⟨μ1,ρ,h1,rs1,s1,o1⟩
    | false=>rw [if_neg (by decide)] at o1 ⊢;exact ⟨μ1,ρ,h1,rs1,s1,o1⟩
theorem RelS.set {μ:Nat→Addr} {n:Nat} {H:Hp} {ρ:Ev} {σ:St} {d:Dv} {v:V} (rs:RelS G μ n H ρ σ) (i:Nat) (r:RelD G μ n H d v):RelS G μ n H (ρ.set i (some d)) (σ.set i (some v)):=⟨by rw [List.length_set,List.length_set];exact rs.len,fun j d' e=>by
  have hl:=rs.len
  by_cases hij:i=j
  · subst hij
    have hi:i<ρ.length:=by
      have:=(List.getElem?_eq_some_iff.mp e).1
      simpa using this
    rw [List.getElem?_set_self hi] at e
    cases e
    exact ⟨v,List.getElem?_set_self (by omega),r⟩
  · rw [List.getElem?_set_ne hij] at e ⊢
    exact rs.at_ j d' e⟩
abbrev Tgt:=Dv→Ev→Option Ev
def tgOf (G:Cfg) (st:Tgt):TG:=fun v σ H Q=>∃ μ ρ h d ρ',RelS G μ h H ρ σ∧RelD G μ h H d v∧st d ρ=some ρ'∧∀ σ',RelS G μ h H ρ' σ'→Q σ' H
def SndG (X:Cx) (G:Cfg) (tg:Expr) (st:Tgt):Prop:=X.K=G.K→PG X tg (tgOf G st)
theorem PG.imp {tg:Expr} {t t':TG} (h:PG X tg t) (i:∀ v σ H Q,t' v σ H Q→t v σ H Q):PG X tg t':=fun pins s σ H v u Q I r q=>h pins s σ H v u Q I r (i v σ H Q q)
theorem PGs.imp {tg:List Expr} {t t':TGs} (h:PGs X tg t) (i:∀ v σ H Q,t' v σ H Q→t v σ H Q):PGs X tg t':=fun pins s σ H v u Q I r q=>h pins s σ H v u Q I r (i v σ H Q q)
def z03 (i:Nat):Tgt:=fun d ρ=>some (ρ.set i (some d))
theorem z0j {i:Nat} {x:Str} (hN:X.N.Nodup) (hi:X.N[i]?=some x) (hx:Loc X.env.scope x) (hf:X.fn x=true∨X.env.scope.names.lookup x=some .local:=by first | exact .inl rfl | exact .inr rfl | assumption):SndG X G (.Name x pos) (z03 i):=fun _=>
  PG.imp (zit hN hi hx hf) fun v σ H Q ⟨μ,ρ,h,d,ρ',rs,r,e,k⟩=>by
    cases e
    exact k _ (rs.set i r)
abbrev Tgts:=List Dv→Ev→Option Ev
def zp2 (G:Cfg) (st:Tgts):TGs:=fun vs σ H Q=>∃ μ ρ h ds ρ',RelS G μ h H ρ σ∧RelDL G μ h H ds vs∧st ds ρ=some ρ'∧∀ σ',RelS G μ h H ρ' σ'→Q σ' H
def zff (X:Cx) (G:Cfg) (tg:List Expr) (st:Tgts):Prop:=X.K=G.K→PGs X tg (zp2 G st)
def sNil:Tgts:=fun ds ρ=>match ds with
  | []=>some ρ
  | _=>none
def z0l (s:Tgt) (t:Tgts):Tgts:=fun ds ρ=>match ds with
  | d::r=>match s d ρ with
    | some ρ1=>t r ρ1
    | none=>none
  | []=>none
theorem z1v:zff X G [] sNil:=fun _=>PGs.imp ziu fun vs σ H Q ⟨μ,ρ,h,ds,ρ',rs,r,e,k⟩=>by
  cases ds with
  | nil=>cases e;rw [RelDL] at r;subst r;exact ⟨rfl,k _ rs⟩
  | cons d r=>cases e
theorem z0n {tg:Expr} {tgs:List Expr} {s:Tgt} {t:Tgts} (h1:SndG X G tg s) (h2:zff X G tgs t)
    (hs:(assignEach (tg::tgs) X.env).map (·.2)=assign tg X.env::(assignEach tgs X.env).map (·.2):=by rfl):zff X G (tg::tgs) (z0l s t):=fun hK=>PGs.imp (zev (h1 hK) (h2 hK) hs) fun vs σ H Q ⟨μ,ρ,h,ds,ρ',rs,r,e,k⟩=>by
  cases ds with
  | nil=>cases e
  | cons d ds=>
    rw [RelDL] at r
    obtain ⟨v,rr,rfl,r1,r2⟩:=r
    unfold z0l at e
    dsimp only at e
    cases q:s d ρ with
    | none=>rw [q] at e;cases e
    | some ρ1=>
      rw [q] at e
      exact ⟨v,rr,rfl,μ,ρ,h,d,ρ1,rs,r1,q,fun σ1 rs1=>⟨μ,ρ1,h,ds,ρ',rs1,r2,e,k⟩⟩
def sTup (n:Nat) (t:Tgts):Tgt:=fun d ρ=>match d with
  | .tup ds=>if ds.length=n then t ds ρ else none
  | _=>none
theorem z2r {tgs:List Expr} {k:Nat} {t:Tgts} {n:Nat} (hc:X.calm=true) (h:zff X G tgs t)
    (hn:(assignEach tgs X.env).length=n:=by rfl) (hst:(assignEach tgs X.env).findIdx? (·.1)=none:=by rfl):SndG X G (.Tuple tgs k pos) (sTup n t):=fun hK=>
  PG.imp (zlq hc (h hK) hn hst) fun v σ H Q ⟨μ,ρ,hh,d,ρ',rs,r,e,kk⟩=>by
    cases d with
    | tup ds=>
      dsimp only [sTup] at e
      split at e
      · rename_i hl
        obtain ⟨a,vs,rfl,e1,r1⟩:=r
        exact ⟨a,vs,rfl,SqT.of e1,by rw [r1.length];exact hl,μ,ρ,hh,ds,ρ',rs,r1,e,kk⟩
      · cases e
    | _=>cases e
def mAsg (me:M Dv) (st:Tgt):MS:=fun ρ h=>(me ρ h).thenS fun d h1=>match st d ρ with
  | some ρ1=>.nx ρ1 h1
  | none=>.bad
theorem zjm {st:Tgt} {σ:St} {H:Hp} {D:Ends} (t:tsOf G E (mAsg me st) D σ H):tAsg (tOf G E me) (tgOf G st) D σ H:=by
  obtain ⟨μ,ρ,h,rs,s,o⟩:=t
  refine z1o rs s o fun μ1 d h1 v H1 x1 rs1 s1 r1 o1=>?_
  cases q:st d ρ with
  | none=>rw [q] at o1;exact o1.elim
  | some ρ1=>
    rw [q] at o1
    exact ⟨μ1,ρ,h1.length,d,ρ1,rs1,r1,q,fun σ' rs'=>o1 μ1 H1 σ' Ext.refl s1 rs'⟩
theorem zhy {tg:Expr} {st:Tgt} (he:Snd X G E e me) (hg:SndG X G tg st) (hs:swapsWithSole [tg] e pos.line X.env=pure false:=by rfl) (hw:swappedStores [tg] e X.env=pure none:=by rfl)
    (h1:(assignEach [tg] X.env).map (·.2)=[assign tg X.env]:=by rfl):SndS X G E (.Assign [tg] e pos) (mAsg me st):=fun hK=>PS.imp (zhk (he hK) (hg hK) hs hw h1) fun _ _ _ t=>zjm t
theorem z0u {i:Nat} {x:Str} {pos':Pos} (hN:X.N.Nodup) (hi:X.N[i]?=some x) (hx:Loc X.env.scope x) (he:Snd X G E e me) (hs:swapsWith e (some (.Name x pos')) pos.line X.env=pure false:=by rfl) (hf:X.fn x=true∨X.env.scope.names.lookup x=some .local:=by first | exact .inl rfl | exact .inr rfl | assumption):
    SndS X G E (.Assign [.Name x pos'] e pos) (mAsg me (z03 i)):=fun hK=>PS.imp (zbl hN hi hx (he hK) hs hf) fun D σ H t=>by
  obtain ⟨μ,ρ,h,rs,s,o⟩:=t
  exact z1o rs s o fun μ1 d h1 v H1 x1 rs1 s1 r1 o1=>o1 μ1 H1 _ Ext.refl s1 (rs1.set i r1)
end
structure Src where
  n:Nat
  get:Nat→Hs→Option Dv
  fin:Hs→Bool
def ItOk (G:Cfg) (μ0:Nat→Addr) (n0:Nat) (H0:Hp) (src:Src) (J:It):Prop:=
  ∀ (k:Nat) (μ:Nat→Addr) (h:Hs) (H:Hp),Ext μ0 n0 H0 μ h.length H→Sim G μ h H→
    (k<src.n→∀ d,src.get k h=some d→J.go k H∧∀ x H',J.yld k H x H'→Same H H'∧RelD G μ h.length H' d x)∧(k=src.n→src.fin h=true→J.stop k H)
def tiOf (G:Cfg) (E:XK) (m:M Src):TI:=fun σ H R=>∃ μ ρ h,RelS G μ h.length H ρ σ∧Sim G μ h H∧Out G E μ h.length H (m ρ h) (ItOk G) R
def SndI (X:Cx) (G:Cfg) (E:XK) (tg iter:Expr) (m:M Src):Prop:=X.K=G.K→PI X tg iter (tiOf G E m)
theorem PI.imp {X:Cx} {tg iter:Expr} {t t':TI} (h:PI X tg iter t) (i:∀ σ H R,t' σ H R→t σ H R):PI X tg iter t':=fun pins s σ H R I q=>h pins s σ H R I (i σ H R q)
def srcL (xs:List Dv):Src:=⟨xs.length,fun k _=>xs[k]?,fun _=>true⟩
def srcR (i n:Nat):Src:=⟨n,fun k h=>match getL h i with
  | some xs=>if xs.length=n then xs[k]? else none
  | none=>none,fun h=>match getL h i with
  | some xs=>xs.length==n
  | none=>false⟩
def z0y (lo hi:Int):Src:=⟨(hi - lo).toNat,fun k _=>some (.int (lo+k)),fun _=>true⟩
def m1s (f:Dv→Hs→Rs Src) (m:M Dv):M Src:=fun ρ h=>(m ρ h).bind f
section
variable {X:Cx} {G:Cfg} {E:XK} {tg e a b:Expr} {me ma mb:M Dv} {pos p:Pos}
def lstD:Dv→Hs→Rs Src
  | .ref i,h=>match getL h i with
    | some xs=>.ok (srcR i xs.length) h
    | none=>.bad
  | _,_=>.bad
def tupS:Dv→Hs→Rs Src
  | .tup xs,h=>.ok (srcL xs) h
  | _,_=>.bad
theorem z8j (he:Snd X G E e me):SndI X G E tg e (m1s lstD me):=fun hK=>PI.imp (ziw (he hK)) fun σ H R ⟨μ,ρ,h,rs,s,o⟩=>z0m rs s o fun μ1 x h1 vx H1 x1 rs1 s1 r1 o1=>by
  rw [hK]
  cases x with
  | ref i=>
    obtain ⟨hi,rfl⟩:=r1
    dsimp only [lstD] at o1
    cases g:getL h1 i with
    | none=>rw [g] at o1;exact o1.elim
    | some xs=>
      rw [g] at o1
      obtain ⟨vs,e1,r2⟩:=s1.ob i _ (z0e g)
      refine ⟨_,rfl,⟨vs,SqL.of e1⟩,o1.val s1 fun k μ2 h2 H2 x2 s2=>?_⟩
      have emu:=x2.mu i hi
      constructor
      · intro hk d hd
        dsimp only [srcR] at hd
        cases g2:getL h2 i with
        | none=>rw [g2] at hd;cases hd
        | some ys=>
          rw [g2] at hd
          dsimp only at hd
          split at hd
          · obtain ⟨ws,e2,r3⟩:=s2.ob i _ (z0e g2)
            rw [emu] at e2
            obtain ⟨v,ev,rv⟩:=r3.get hd
            refine ⟨⟨ws,v,SqL.of e2,ev⟩,fun x H' hy=>?_⟩
            obtain ⟨rfl,hy⟩:=hy
            have:=hy ws (SqL.of e2)
            rw [ev] at this;cases this
            exact ⟨Same.refl _,rv⟩
          · cases hd
      · intro hk hf
        dsimp only [srcR] at hf
        cases g2:getL h2 i with
        | none=>rw [g2] at hf;cases hf
        | some ys=>
          rw [g2] at hf
          obtain ⟨ws,e2,r3⟩:=s2.ob i _ (z0e g2)
          rw [emu] at e2
          refine ⟨ws,SqL.of e2, ?_⟩
          have h3:ys.length=xs.length:=by simpa using hf
          rw [r3.length,h3,hk];exact Nat.le_refl _
  | _=>exact o1.elim
theorem ItOk.tup {μ:Nat→Addr} {n:Nat} {H:Hp} {a:Addr} {vs:List V} {xs:List Dv} {K:PySem.W.Frag} (e:H a=some (.tup vs)) (r:RelDL G μ n H xs vs) (hi:∀ (X:Cx),True):ItOk G μ n H (srcL xs) (Itt K a):=by
  intro k μ2 h2 H2 x2 s2
  have e2:=x2.im a (.tup vs) trivial e
  have r2:=RelDL.mono x2 _ _ r
  have inj:∀ ws,SqT K H2 a ws→ws=vs→True:=fun _ _ _=>trivial
  constructor
  · intro hk d hd
    obtain ⟨v,ev,rv⟩:=r2.get hd
    refine ⟨⟨vs,v,SqT.of e2,ev⟩,fun x H' hy=>?_⟩
    obtain ⟨rfl,hy⟩:=hy
    have:=hy vs (SqT.of e2)
    rw [ev] at this;cases this
    exact ⟨Same.refl _,rv⟩
  · intro hk _
    exact ⟨vs,SqT.of e2,by rw [r2.length,hk];exact Nat.le_refl _⟩
theorem z4n (he:Snd X G E e me):SndI X G E tg e (m1s tupS me):=fun hK=>PI.imp (zlt (he hK)) fun σ H R ⟨μ,ρ,h,rs,s,o⟩=>z0m rs s o fun μ1 x h1 vx H1 x1 rs1 s1 r1 o1=>by
  cases x with
  | tup xs=>
    obtain ⟨a,vs,rfl,e1,r2⟩:=r1
    exact ⟨a,rfl,⟨vs,SqT.of e1⟩,o1.val s1 (ItOk.tup e1 r2 fun _=>trivial)⟩
  | _=>exact o1.elim
def inR (i:Int):Bool:=decide (-4611686018427387904≤i)&&decide (i<4611686018427387904)
def z1a:List Dv→Hs→Rs Src
  | [.int j],h=>if inR j=true then .ok (z0y 0 j) h else .bad
  | _,_=>.bad
def z8k:List Dv→Hs→Rs Src
  | [.int i,.int j],h=>if inR i=true∧inR j=true then .ok (z0y i j) h else .bad
  | _,_=>.bad
def mas (f:List Dv→Hs→Rs Src) (ms:M (List Dv)):M Src:=fun ρ h=>(ms ρ h).bind f
theorem ItOk.rng {μ:Nat→Addr} {n:Nat} {H:Hp} (lo hi:Int):ItOk G μ n H (z0y lo hi) (Itr lo (hi - lo).toNat):=by
  intro k μ2 h2 H2 x2 s2
  constructor
  · intro hk d hd
    cases hd
    exact ⟨hk,fun x H' hy=>by obtain ⟨rfl,rfl⟩:=hy;exact ⟨Same.refl _,rfl⟩⟩
  · intro hk _
    exact Nat.le_of_eq hk.symm
variable {ms:M (List Dv)}
theorem z1p (hg:Gl X "range") (hm:X.mg "range" = none) (ha:SndA X G E [a] ms) (hs:starEach [a] X.env=[(false,eval a X.env)]:=by rfl):SndI X G E tg (.Call (.Name "range" p) [a] [] pos) (mas z1a ms):=fun hK=>
  PI.imp (zbn hg hm (ha hK) hs) fun σ H R ⟨μ,ρ,h,rs,s,o⟩=>z19 rs s o fun μ1 ds h1 vs H1 x1 rs1 s1 r1 o1=>by
    unfold z1a at o1
    split at o1
    · rename_i j
      split at o1
      · rename_i hj
        obtain ⟨v,rfl,rv⟩:=z2q r1
        rw [RelD] at rv;subst rv
        simp only [inR,Bool.and_eq_true,decide_eq_true_eq] at hj
        refine ⟨j,rfl,by omega,by omega, ?_⟩
        have:=o1.val s1 (ItOk.rng (G:=G) (μ:=μ1) (n:=h1.length) (H:=H1) 0 j)
        rw [Int.sub_zero] at this
        exact this
      · exact o1.elim
    · exact o1.elim
theorem zc9 (hg:Gl X "range") (hm:X.mg "range" = none) (ha:SndA X G E [a,b] ms) (hs:starEach [a,b] X.env=[(false,eval a X.env),(false,eval b X.env)]:=by rfl) (hs2:starEach [b] X.env=[(false,eval b X.env)]:=by rfl):SndI X G E tg (.Call (.Name "range" p) [a,b] [] pos) (mas z8k ms):=fun hK=>
  PI.imp (zbo hg hm (ha hK) hs hs2) fun σ H R ⟨μ,ρ,h,rs,s,o⟩=>z19 rs s o fun μ1 ds h1 vs H1 x1 rs1 s1 r1 o1=>by
    unfold z8k at o1
    split at o1
    · rename_i i j
      split at o1
      · rename_i hj
        obtain ⟨v,v',rfl,rv,rv'⟩:=z4l r1
        rw [RelD] at rv rv';subst rv;subst rv'
        simp only [inR,Bool.and_eq_true,decide_eq_true_eq] at hj
        exact ⟨i,j,rfl,⟨by omega,by omega,by omega,by omega⟩,o1.val s1 (ItOk.rng (G:=G) (μ:=μ1) (n:=h1.length) (H:=H1) i j)⟩
      · exact o1.elim
    · exact o1.elim
end
def forM (src:Src) (st:Tgt) (body:MS):Nat→Nat→MS
  | 0,_=>fun ρ h=>if src.fin h=true then .nx ρ h else .bad
  | f+1,k=>fun ρ h=>match src.get k h with
    | none=>.bad
    | some d=>match st d ρ with
      | none=>.bad
      | some ρ1=>match body ρ1 h with
        | .nx ρ2 h2=>forM src st body f (k+1) ρ2 h2
        | .ct ρ2 h2=>forM src st body f (k+1) ρ2 h2
        | .bk ρ2 h2=>.nx ρ2 h2
        | r=>r
def mFor (mi:M Src) (st:Tgt) (body:MS):MS:=fun ρ h=>(mi ρ h).thenS fun src h1=>forM src st body src.n 0 ρ h1
section
variable {X:Cx} {G:Cfg} {E:XK} {tg iter:Expr} {body:List Stmt} {mi:M Src} {st:Tgt} {mb:MS} {pos:Pos}
theorem z5r (hp:PassesOwn (model X.prog X.w) X.A X.env X.xe) (hc:X.calm=true) (hi:SndI X G E tg iter mi) (hg:SndG X G tg st) (hb:z3p X G E body mb)
    (hs:∀ x,foldedSetIterable iter X.env x=pure x:=by intro _;rfl):SndS X G E (.For tg iter body [] pos) (mFor mi st mb):=fun hK=>PS.imp (zlu hp hc (hi hK) (hg hK) (hb hK) hs) fun D σ H ⟨μ,ρ,h,rs,s,o⟩=>by
  refine ⟨μ,ρ,h,rs,s,(o.thenS (R:=ItOk G)).mono fun J H1 ⟨μ1,src,h1,x1,s1,ok,o1⟩=>?_⟩
  refine ⟨fun i m σ H=>∃ μ2 ρ2 h2,Ext μ1 h1.length H1 μ2 h2.length H∧RelS G μ2 h2.length H ρ2 σ∧Sim G μ2 h2 H∧i+m=src.n∧SOut G E μ2 h2.length H (forM src st mb m i ρ2 h2) D,⟨src.n,μ1,ρ,h1,Ext.refl,rs.mono x1,s1,Nat.zero_add _,o1⟩, ?_⟩
  rintro i m σ2 H2 ⟨μ2,ρ2,h2,x2,rs2,s2,him,o2⟩
  cases m with
  | zero=>
    unfold forM at o2
    split at o2
    · rename_i hf
      exact .inl ⟨(ok i μ2 h2 H2 x2 s2).2 (by omega) hf,o2 μ2 H2 σ2 Ext.refl s2 rs2⟩
    · exact o2.elim
  | succ m=>
    unfold forM at o2
    cases q:src.get i h2 with
    | none=>rw [q] at o2;exact o2.elim
    | some d=>
      rw [q] at o2
      dsimp only at o2
      cases q2:st d ρ2 with
      | none=>rw [q2] at o2;exact o2.elim
      | some ρ3=>
        rw [q2] at o2
        dsimp only at o2
        obtain ⟨go,yl⟩:=(ok i μ2 h2 H2 x2 s2).1 (by omega) d q
        refine .inr ⟨go,fun σ' H'=>∃ μ3 ρ4 h4,Ext μ1 h1.length H1 μ3 h4.length H'∧RelS G μ3 h4.length H' ρ4 σ'∧Sim G μ3 h4 H'∧(i+1)+m=src.n∧SOut G E μ3 h4.length H' (forM src st mb m (i+1) ρ4 h4) D,fun σ' H' z=>⟨m,Nat.lt_succ_self m,z⟩,fun x H' hy=>?_⟩
        obtain ⟨sm,rx⟩:=yl x H' hy
        have xs:Ext μ2 h2.length H2 μ2 h2.length H':=Ext.same sm
        refine ⟨μ2,ρ2,h2.length,d,ρ3,rs2.mono xs,rx,q2,fun σ3 rs3=>⟨μ2,ρ3,h2,rs3,s2.same sm, ?_⟩⟩
        have step:∀ ρ5 h5,SOut G E μ2 h2.length H2 (forM src st mb m (i+1) ρ5 h5) D→∀ μ6 H6 σ6,Ext μ2 h2.length H' μ6 h5.length H6→Sim G μ6 h5 H6→RelS G μ6 h5.length H6 ρ5 σ6→
            ∃ μ3 ρ4 h4,Ext μ1 h1.length H1 μ3 h4.length H6∧RelS G μ3 h4.length H6 ρ4 σ6∧Sim G μ3 h4 H6∧(i+1)+m=src.n∧SOut G E μ3 h4.length H6 (forM src st mb m (i+1) ρ4 h4) D:=
          fun ρ5 h5 o5 μ6 H6 σ6 x6 s6 rs6=>⟨μ6,ρ5,h5,(x2.trans xs).trans x6,rs6,s6,by omega,o5.ext (xs.trans x6)⟩
        cases q3:mb ρ3 h2 with
        | nx ρ5 h5=>rw [q3] at o2;exact step ρ5 h5 o2
        | ct ρ5 h5=>rw [q3] at o2;exact step ρ5 h5 o2
        | bk ρ5 h5=>rw [q3] at o2;exact fun μ6 H6 σ6 x6 s6 rs6=>o2 μ6 H6 σ6 (xs.trans x6) s6 rs6
        | rt d5 h5=>rw [q3] at o2;exact fun μ6 H6 σ6 x6 s6 rs6=>o2 μ6 H6 σ6 (xs.trans x6) s6 rs6
        | ex d5 h5=>rw [q3] at o2;exact fun μ6 H6 σ6 x6 s6 rs6=>o2 μ6 H6 σ6 (xs.trans x6) s6 rs6
        | bad=>rw [q3] at o2;exact o2.elim
end
abbrev MC:=Ev→Hs→List Dv→Rs (Ev×List Dv)
def z0t (me:M Dv):MC:=fun ρ h acc=>match me ρ h with
  | .ok d h1=>if acc.length<1000000 then .ok (ρ,acc++[d]) h1 else .bad
  | _=>.bad
def z2l (src:Src) (st:Tgt) (test:M Bool) (inner:MC):Nat→Nat→MC
  | 0,_=>fun ρ h acc=>if src.fin h=true then .ok (ρ,acc) h else .bad
  | f+1,k=>fun ρ h acc=>match src.get k h with
    | none=>.bad
    | some d=>match st d ρ with
      | none=>.bad
      | some ρ1=>match test ρ1 h with
        | .ok true h2=>match inner ρ1 h2 acc with
          | .ok r h3=>z2l src st test inner f (k+1) r.1 h3 r.2
          | _=>.bad
        | .ok false h2=>z2l src st test inner f (k+1) ρ1 h2 acc
        | _=>.bad
def z2f (mi:M Src) (st:Tgt) (test:M Bool) (inner:MC):MC:=fun ρ h acc=>match mi ρ h with
  | .ok src h1=>z2l src st test inner src.n 0 ρ h1 acc
  | _=>.bad
def z26:M Bool:=fun _ h=>.ok true h
def z42 (cap:List (Option Nat)) (ρ:Ev):Ev:=cap.map fun o=>match o with
  | some j=>(ρ[j]?).getD none
  | none=>none
def z0v (mi:M Src) (cap:List (Option Nat)) (st:Tgt) (test:M Bool) (inner:MC):M (List Dv):=fun ρ h=>(mi ρ h).bind fun src h1=>match z2l src st test inner src.n 0 (z42 cap ρ) h1 [] with
  | .ok r h2=>.ok r.2 h2
  | _=>.bad
def tcOf (G:Cfg) (m:MC):TC:=fun σ H vs K=>∃ μ ρ h xs ρ' xs' h',RelS G μ h.length H ρ σ∧Sim G μ h H∧RelDL G μ h.length H xs vs∧m ρ h xs=.ok (ρ',xs') h' ∧
  ∀ μ' H' σ' vs',Ext μ h.length H μ' h'.length H'→Sim G μ' h' H'→RelS G μ' h'.length H' ρ' σ'→RelDL G μ' h'.length H' xs' vs'→K σ' H' vs'
section
variable {G:Cfg}
theorem zfg {μ:Nat→Addr} {n:Nat} {H:Hp} {ρ:Ev} {σ:St} (rs:RelS G μ n H ρ σ) (cap:List (Option Nat)):RelS G μ n H (z42 cap ρ) (zav cap σ):=⟨by simp [z42,zav],fun i d e=>by
  unfold z42 at e
  rw [List.getElem?_map] at e
  cases q:cap[i]? with
  | none=>rw [q] at e;cases e
  | some o=>
    rw [q] at e
    cases o with
    | none=>cases e
    | some j=>
      have e':(ρ[j]?).getD none=some d:=by simpa using e
      have e2:ρ[j]?=some (some d):=by
        cases z:ρ[j]? with
        | none=>rw [z] at e';cases e'
        | some y=>rw [z] at e';simp at e';rw [e']
      obtain ⟨v,e3,r⟩:=rs.at_ j d e2
      refine ⟨v, ?_,r⟩
      unfold zav
      rw [List.getElem?_map,q]
      simp [e3]⟩
theorem z8l {E:XK} {me:M Dv} {σ:St} {H:Hp} {vs:List V} {K:St→Hp→List V→Prop} (t:tcOf G (z0t me) σ H vs K):zme (tOf G E me) σ H vs K:=by
  obtain ⟨μ,ρ,h,xs,ρ',xs',h',rs,s,r,e,k⟩:=t
  refine ⟨μ,ρ,h,rs,s, ?_⟩
  unfold z0t at e
  cases q:me ρ h with
  | bad=>rw [q] at e;cases e
  | ex c h1=>rw [q] at e;cases e
  | ok d h1=>
    rw [q] at e
    dsimp only at e
    split at e
    · rename_i hl
      cases e
      intro μ1 H1 v x1 s1 r1
      refine ⟨?_,k μ1 H1 σ _ x1 s1 (rs.mono x1) ((RelDL.mono x1 _ _ r).append (RelDL.cons r1 RelDL.nil))⟩
      rw [r.length]
      exact Nat.lt_of_lt_of_le hl (by decide)
    · cases e
theorem zca {E:XK} {src:Src} {st:Tgt} {test:M Bool} {inner:MC} {J:It} {μ1:Nat→Addr} {h1:Hs} {H1:Hp} {ρ ρ':Ev} {σ:St} {xs xs':List Dv} {vs:List V} {h':Hs} {K:St→Hp→List V→Prop}
    (ok:ItOk G μ1 h1.length H1 src J) (rs:RelS G μ1 h1.length H1 ρ σ) (s1:Sim G μ1 h1 H1) (r:RelDL G μ1 h1.length H1 xs vs) (e:z2l src st test inner src.n 0 ρ h1 xs=.ok (ρ',xs') h')
    (k:∀ μ' H' σ' vs',Ext μ1 h1.length H1 μ' h'.length H'→Sim G μ' h' H'→RelS G μ' h'.length H' ρ' σ'→RelDL G μ' h'.length H' xs' vs'→K σ' H' vs'):
    z7c J (tgOf G st) (ttOf G E test) (tcOf G inner) K σ H1 vs:=by
  refine ⟨fun i m σ H vs=>∃ μ2 ρ2 h2 xs2,Ext μ1 h1.length H1 μ2 h2.length H∧RelS G μ2 h2.length H ρ2 σ∧Sim G μ2 h2 H∧RelDL G μ2 h2.length H xs2 vs∧i+m=src.n∧z2l src st test inner m i ρ2 h2 xs2=.ok (ρ',xs') h',⟨src.n,μ1,ρ,h1,xs,Ext.refl,rs,s1,r,Nat.zero_add _,e⟩, ?_⟩
  rintro i m σ2 H2 vs2 ⟨μ2,ρ2,h2,xs2,x2,rs2,s2,r2,him,e2⟩
  cases m with
  | zero=>
    unfold z2l at e2
    split at e2
    · rename_i hf
      cases e2
      exact .inl ⟨(ok i μ2 _ H2 x2 s2).2 (by omega) hf,k μ2 H2 σ2 vs2 x2 s2 rs2 r2⟩
    · cases e2
  | succ m=>
    unfold z2l at e2
    cases q:src.get i h2 with
    | none=>rw [q] at e2;cases e2
    | some d=>
      rw [q] at e2
      dsimp only at e2
      cases q2:st d ρ2 with
      | none=>rw [q2] at e2;cases e2
      | some ρ3=>
        rw [q2] at e2
        dsimp only at e2
        obtain ⟨go,yl⟩:=(ok i μ2 h2 H2 x2 s2).1 (by omega) d q
        refine .inr ⟨go,fun σ' H' vs'=>∃ μ3 ρ4 h4 xs4,Ext μ1 h1.length H1 μ3 h4.length H'∧RelS G μ3 h4.length H' ρ4 σ'∧Sim G μ3 h4 H'∧RelDL G μ3 h4.length H' xs4 vs'∧(i+1)+m=src.n∧z2l src st test inner m (i+1) ρ4 h4 xs4=.ok (ρ',xs') h',
          fun σ' H' vs' z=>⟨m,Nat.lt_succ_self m,z⟩,fun x H' hy=>?_⟩
        obtain ⟨sm,rx⟩:=yl x H' hy
        have xsm:Ext μ2 h2.length H2 μ2 h2.length H':=Ext.same sm
        refine ⟨μ2,ρ2,h2.length,d,ρ3,rs2.mono xsm,rx,q2,fun σ3 rs3=>⟨μ2,ρ3,h2,rs3,s2.same sm, ?_⟩⟩
        cases q3:test ρ3 h2 with
        | bad=>rw [q3] at e2;cases e2
        | ex c h3=>rw [q3] at e2;cases e2
        | ok b h3=>
          rw [q3] at e2
          intro μ4 H4 b' x4 s4 rb
          have eb:b'=b:=rb
          subst eb
          cases b' with
          | false=>
            rw [if_neg (by decide)]
            exact ⟨μ4,ρ3,h3,xs2,(x2.trans xsm).trans x4,rs3.mono x4,s4,RelDL.mono (xsm.trans x4) _ _ r2,by omega,e2⟩
          | true=>
            rw [if_pos rfl]
            dsimp only at e2
            cases q4:inner ρ3 h3 xs2 with
            | bad=>rw [q4] at e2;cases e2
            | ex c h5=>rw [q4] at e2;cases e2
            | ok rr h5=>
              rw [q4] at e2
              obtain ⟨ρ5,xs5⟩:=rr
              exact ⟨μ4,ρ3,h3,xs2,ρ5,xs5,h5,rs3.mono x4,s4,RelDL.mono (xsm.trans x4) _ _ r2,q4,fun μ6 H6 σ6 vs6 x6 s6 rs6 r6=>⟨μ6,ρ5,h5,xs5,((x2.trans xsm).trans x4).trans x6,rs6,s6,r6,by omega,e2⟩⟩
theorem zcb {E:XK} {mi:M Src} {st:Tgt} {test:M Bool} {inner:MC} {σ:St} {H:Hp} {vs:List V} {K:St→Hp→List V→Prop} (t:tcOf G (z2f mi st test inner) σ H vs K):zbz (tiOf G E mi) (tgOf G st) (ttOf G E test) (tcOf G inner) σ H vs K:=by
  obtain ⟨μ,ρ,h,xs,ρ',xs',h',rs,s,r,e,k⟩:=t
  refine ⟨μ,ρ,h,rs,s, ?_⟩
  unfold z2f at e
  cases q:mi ρ h with
  | bad=>rw [q] at e;cases e
  | ex c h1=>rw [q] at e;cases e
  | ok src h1=>
    rw [q] at e
    exact fun μ1 H1 J x1 s1 ok=>zca ok (rs.mono x1) s1 (RelDL.mono x1 _ _ r) e fun μ2 H2 σ2 vs2 x2=>k μ2 H2 σ2 vs2 (x1.trans x2)
def RL (G:Cfg):(Nat→Addr)→Nat→Hp→List Dv→V→Prop:=fun μ n H xs v=>∃ p vs,v=.ref p∧H p=some (.lst vs)∧(∀ i,i<n→μ i≠p)∧RelDL G μ n H xs vs
def tlOf (G:Cfg) (E:XK) (m:M (List Dv)):TE:=fun σ H Q=>∃ μ ρ h,RelS G μ h.length H ρ σ∧Sim G μ h H∧Out G E μ h.length H (m ρ h) (RL G) Q
def SndL (X:Cx) (G:Cfg) (E:XK) (pe:Expr) (m:M (List Dv)):Prop:=X.K=G.K→PE X pe (tlOf G E m)
theorem Sim.adopt {μ:Nat→Addr} {h:Hs} {H:Hp} {p:Addr} {ds:List Dv} {vs:List V} (s:Sim G μ h H) (e:H p=some (.lst vs)) (hq:∀ i,i<h.length→μ i≠p) (r:RelDL G μ h.length H ds vs):
    Ext μ h.length H (fun i=>if i=h.length then p else μ i) (h++[Ob.lst ds]).length H∧Sim G (fun i=>if i=h.length then p else μ i) (h++[.lst ds]) H:=by
  have hl:(h++[Ob.lst ds]).length=h.length+1:=by simp
  have x:Ext μ h.length H (fun i=>if i=h.length then p else μ i) (h++[Ob.lst ds]).length H:=
    ⟨by omega,fun i hi=>if_neg (Nat.ne_of_lt hi),fun a o _ e=>e⟩
  refine ⟨x,fun i j hi hj e=>?_,fun i o q=>?_,s.tab⟩
  · rw [hl] at hi hj
    by_cases h1:i=h.length <;> by_cases h2:j=h.length
    · omega
    · rw [if_pos h1,if_neg h2] at e;exact absurd e.symm (hq j (by omega))
    · rw [if_neg h1,if_pos h2] at e;exact absurd e (hq i (by omega))
    · rw [if_neg h1,if_neg h2] at e;exact s.inj i j (by omega) (by omega) e
  · by_cases h1:i<h.length
    · rw [List.getElem?_append_left h1] at q
      have r1:=s.ob i o q
      cases o with
      | lst xs=>obtain ⟨ws,e1,r2⟩:=r1;exact ⟨ws,by rw [if_neg (Nat.ne_of_lt h1)];exact e1,RelDL.mono x _ _ r2⟩
    · rw [List.getElem?_append_right (by omega)] at q
      have h2:i=h.length:=by
        have:=(List.getElem?_eq_some_iff.mp q).1
        simp at this;omega
      subst h2
      simp at q;subst q
      exact ⟨vs,by rw [if_pos rfl];exact e,RelDL.mono x _ _ r⟩
def mAl (m:M (List Dv)):M Dv:=fun ρ h=>(m ρ h).bind fun xs h1=>.ok (.ref h1.length) (h1++[.lst xs])
theorem zhz {E:XK} {m:M (List Dv)} {σ:St} {H:Hp} {Q:VK} (t:tOf G E (mAl m) σ H Q):tlOf G E m σ H Q:=by
  obtain ⟨μ,ρ,h,rs,s,o⟩:=t
  refine ⟨μ,ρ,h,rs,s,(o.bind (R1:=RL G)).mono fun v H1 ⟨μ1,xs,h1,x1,s1,⟨p,vs,ev,e1,hq,r1⟩,o1⟩=>?_⟩
  subst ev
  obtain ⟨x2,s2⟩:=s1.adopt e1 hq r1
  exact o1 _ _ _ x2 s2 ⟨by simp,by show V.ref p=V.ref (if h1.length=h1.length then p else μ1 h1.length);rw [if_pos rfl]⟩
theorem z4o {X:Cx} {E:XK} {pe:Expr} {m:M (List Dv)} (h:SndL X G E pe m):Snd X G E pe (mAl m):=fun hK=>PE.imp (h hK) fun _ _ _ t=>zhz t
theorem z6i {E E':XK} {mi:M Src} {cap:List (Option Nat)} {st:Tgt} {test:M Bool} {inner:MC} {σ:St} {H:Hp} {Q:VK} (t:tlOf G E (z0v mi cap st test inner) σ H Q):zje (tiOf G E mi) cap (tgOf G st) (ttOf G E' test) (tcOf G inner) σ H Q:=by
  obtain ⟨μ,ρ,h,rs,s,o⟩:=t
  refine ⟨μ,ρ,h,rs,s,(o.bind (R1:=ItOk G)).mono fun J H1 ⟨μ1,src,h1,x1,s1,ok,o1⟩=>?_⟩
  cases q:z2l src st test inner src.n 0 (z42 cap ρ) h1 [] with
  | bad=>rw [q] at o1;exact o1.elim
  | ex c h2=>rw [q] at o1;exact o1.elim
  | ok r h2=>
    rw [q] at o1
    obtain ⟨ρ',xs'⟩:=r
    refine zca ok (zfg (rs.mono x1) cap) s1 RelDL.nil q fun μ2 H2 σ2 vs2 x2 s2 rs2 r2 p hp=>?_
    exact o1 μ2 _ _ (x2.trans (Ext.same (z0a hp))) (s2.same (z0a hp)) ⟨p,vs2,rfl,z0b,s2.not hp,RelDL.mono (Ext.same (z0a hp)) _ _ r2⟩
end
section
variable {X:Cx} {G:Cfg} {E:XK} {elt tg iter tg' iter':Expr} {ifs ifs':List Expr} {sc:Scope} {ps pos:Pos} {mi mi':M Src} {st st':Tgt} {test test':M Bool} {me:M Dv} {N:List Str} {cap:List (Option Nat)}
def zb0 (X:Cx) (G:Cfg) (ifs:List Expr) (m:M Bool):Prop:=X.K=G.K→PTs X ifs (ttOf G E0 m)
theorem PTs.imp {Y:Cx} {ifs:List Expr} {t t':TT} (h:PTs Y ifs t) (i:∀ σ H Q,t' σ H Q→t σ H Q):PTs Y ifs t':=fun pins s σ H Q I q=>h pins s σ H Q I (i σ H Q q)
theorem z4p {Y:Cx}:zb0 Y G [] z26:=fun _=>PTs.imp zja fun σ H Q ⟨μ,ρ,h,rs,s,o⟩=>o.val s rfl
theorem z3z {Y:Cx} {c:Expr} {m:M Bool} (h:SndT Y G E0 c m):zb0 Y G [c] m:=fun hK=>zjb (h hK)
theorem PCl.imp {Y:Cx} {D:Addr} {m:Sem Unit} {t t':TC} (h:PCl Y D m t) (i:∀ σ H xs K,t' σ H xs K→t σ H xs K):PCl Y D m t':=fun pins s σ H xs K I a f q=>h pins s σ H xs K I a f (i σ H xs K q)
theorem z1c (hc:X.calm=true) (C:CapOk X sc N cap) (hi:SndI X G E tg iter mi) (hg:∀ s H ex,SndG (blk X sc N s H ex) G tg st) (htt:∀ s H ex,zb0 (blk X sc N s H ex) G ifs test) (hel:∀ s H ex,Snd (blk X sc N s H ex) G E0 elt me)
    (hs:∀ x,foldedSetIterable iter X.env x=pure x:=by intro _;rfl):SndL X G E (.ListComp elt [⟨tg,iter,ifs,0⟩] sc ps) (z0v mi cap st test (z0t me)):=fun hK=>
  PE.imp (zc0 hc C rfl (fun it D env=>zhs elt tg iter ifs sc ps (.ref it) D env) (hi hK) (fun s H ex=>hg s H ex hK) (fun s H ex=>htt s H ex hK) (fun s H ex D=>PCl.imp (z6b (hel s H ex hK)) fun _ _ _ _ t=>z8l t) hs) fun _ _ _ t=>z6i t
theorem zfh (hc:X.calm=true) (C:CapOk X sc N cap) (hi:SndI X G E tg iter mi) (hg:∀ s H ex,SndG (blk X sc N s H ex) G tg st) (htt:∀ s H ex,zb0 (blk X sc N s H ex) G ifs test)
    (hi':∀ s H ex,SndI (blk X sc N s H ex) G E0 tg' iter' mi') (hg':∀ s H ex,SndG (blk X sc N s H ex) G tg' st') (htt':∀ s H ex,zb0 (blk X sc N s H ex) G ifs' test') (hel:∀ s H ex,Snd (blk X sc N s H ex) G E0 elt me)
    (hs:∀ x,foldedSetIterable iter X.env x=pure x:=by intro _;rfl) (hs':∀ s H ex x,foldedSetIterable iter' (blk X sc N s H ex).env x=pure x:=by intro _ _ _ _;rfl):
    SndL X G E (.ListComp elt [⟨tg,iter,ifs,0⟩,⟨tg',iter',ifs',0⟩] sc ps) (z0v mi cap st test (z2f mi' st' test' (z0t me))):=fun hK=>
  PE.imp (zc0 hc C rfl (inner:=fun D env=>z4h iter' (.ListComp elt [⟨tg,iter,ifs,0⟩,⟨tg',iter',ifs',0⟩] sc ps) 1 D env) (fun it D env=>zjc elt tg iter tg' iter' ifs ifs' sc ps (.ref it) D env) (hi hK) (fun s H ex=>hg s H ex hK) (fun s H ex=>htt s H ex hK)
    (fun s H ex D=>PCl.imp (zaw (X:=blk X sc N s H ex) (D:=D) (gens:=[⟨tg,iter,ifs,0⟩,⟨tg',iter',ifs',0⟩]) (d:=1) rfl hc rfl (fun it=>zjd elt tg iter tg' iter' ifs ifs' sc ps (.ref it) D _) (hi' s H ex hK) (hg' s H ex hK) (htt' s H ex hK) (PCl.imp (z6b (hel s H ex hK)) fun _ _ _ _ t=>z8l t) (hs' s H ex)) fun _ _ _ _ t=>zcb t) hs) fun _ _ _ t=>z6i t
end
def TbO (T:Addr) (h:Heap):Prop:=∃ oT ts,h.get? T=some oT∧oT.data=.fields ts∧ts[3]?=some .none
structure Chg (fs:List Addr) (e T:Addr) (h h':Heap):Prop where
  new:h.objs.size≤T
  keep:∀ b o,b≠e→b∉fs→h.get? b=some o→h'.get? b=some o
  slot:∀ b o,b≠e→h.get? b=some o→∃ sl,h'.get? b=some { o with slots:=sl }
  tb:TbO T h'
theorem z5g (f:Array Value→Array Value) (o:Obj):(Obj.mapFields f o).dict=o.dict:=by
  unfold Obj.mapFields
  split <;> rfl
section
variable {M:Model} {A:Around} {E:Value→Shared→Prop} {s:Shared}
theorem z4q {a:Addr} {o:Obj} {vs:Array Value} {i:Nat} {v:Value} {Q:Unit→Shared→Prop} (e:s.heap.get? a=some o) (hd:o.data=.fields vs) (hi:i<vs.size)
    (k:∀ h' o',Heap.SameBut a s.heap h'→h'.get? a=some o'→o'.cls=o.cls→o'.dict=o.dict→o'.data=.fields (vs.setIfInBounds i v)→Q () { s with heap:=h' }):wpAny M A (setField (.ref a) i v) Q E s:=
  have d':=Obj.data_mapFields hd (·.setIfInBounds i v)
  wpAny_setField e hd hi (k _ _ (Heap.SameBut.update ..) (Heap.get?_update_self _ e (Obj.isFreed_of_fields d')) (Obj.cls_mapFields ..) (z5g ..) d')
theorem zcc {head v:Value} {L:Int} {pl:List Value} {Q:Value→Shared→Prop} (hpl:IsPlace pl) (k:∀ ob ts,ob.data=.fields ts→3<ts.size→ob.isFreed=false→Q (.ref s.heap.objs.size) { s with heap:=s.heap.push ob }):
    wpAny M A (EntryCells.newEntry head v .none (rawInt L) .none pl) Q E s:=
  wpAny_newObj_type (k _ _ rfl (by simp only [List.size_toArray,List.length_append,List.length_cons,List.length_nil];omega) rfl) (hpl.sizeOk5 ..)
theorem land {e T:Addr} {oe oT:Obj} {vs ts:Array Value} {Q:Unit→Shared→Prop} (he:s.heap.get? e=some oe) (hd:oe.data=.fields vs) (h1:vs[1]?=some (.ref T)) (hT:s.heap.get? T=some oT) (hdT:oT.data=.fields ts) (hs:3<ts.size)
    (k:∀ h',Heap.SameBut T s.heap h'→TbO T h'→Q () { s with heap:=h' }):wpAny M A (setFlight (.ref e) none) Q E s:=by
  refine wpAny_bind (wpAny_field he hd h1 ?_)
  show wpAny M A (if (Value.ref T != Value.none)=true then _ else _) Q E s
  rw [if_pos (by simp)]
  exact z4q hT hdT hs fun h' o' sb g _ _ d=>k h' sb ⟨o',_,g,d,by rw [Array.getElem?_setIfInBounds_self_of_lt hs];rfl⟩
theorem z9j {base:Heap} {l:List Env} {a:Addr} {o:Obj} {vs:Array Value} (hl:s.heap.FunFrames base l) (e:s.heap.get? a=some o) (hd:o.data=.fields vs):a∉frs l:=fun hm=>by
  obtain ⟨_,o',e',nf⟩:=hl.mem hm
  rw [e] at e';cases e'
  exact nf vs hd
theorem zcd {base:Heap} {env:Env} {outer:List Env} {L e:Addr} {oe:Obj} {vs:Array Value} {head a0:Value} {nx:Bool} {Q:Unit→Shared→Prop} (hfr:A.frames=some (env::outer)) (hl:s.heap.FunFrames base (env::outer)) (hf:env.frame=some L)
    (he:s.heap.get? e=some oe) (hd:oe.data=.fields vs) (hdn:oe.dict=none) (hsz:1<vs.size) (h0:vs[0]?=some a0)
    (k:∀ h' T,Chg (frs (env::outer)) e T s.heap h'→ExO oe.cls e T a0 h'→Q () { s with heap:=h' }):
    wpAny M A (do let a ← frameOf env;let pl ← entryPlaceOf L nx;let b ← EntryCells.newEntry head a .none (rawInt L) .none pl;setField (.ref e) 1 b)
      (fun _ s'=>wpAny M A (setFlight (.ref e) none) Q E s') E s:=by
  have ne:=z9j hl he hd
  refine wpAny_bind (wpAny_frameOf_fun hfr hl hf fun g1 so=>wpAny_bind (wpAny_entryPlaceOf fun pl hpl=>wpAny_bind (zcc hpl fun ob ts dt hts nf=>?_)))
  have e1:g1.get? e=some oe:=(so.2.1 e ne).trans he
  have lt:e<g1.objs.size:=Heap.lt_size e1
  refine z4q (s:={ s with heap:=g1.push ob }) (Heap.get?_push_of_some _ e1) hd hsz fun g2 oe2 sb2 ge c2 dn2 d2=>?_
  have gT:g2.get? g1.objs.size=some ob:=sb2.extBut _ _ (Nat.ne_of_gt lt) (Heap.get?_push_size _ nf)
  refine land (s:={ s with heap:=g2 }) ge d2 (T:=g1.objs.size) (by rw [Array.getElem?_setIfInBounds_self_of_lt hsz]) gT dt hts fun g3 sb3 tb=>?_
  have kp:∀ b o,b≠e→g1.get? b=some o→g3.get? b=some o:=fun b o hb q=>sb3.extBut _ _ (Nat.ne_of_lt (Heap.lt_size q)) (sb2.extBut _ _ hb (Heap.get?_push_of_some _ q))
  refine k g3 g1.objs.size ⟨Nat.le_of_eq so.1.symm,fun b o hb hn q=>kp b o hb ((so.2.1 b hn).trans q),fun b o hb q=>?_,tb⟩ ⟨oe2,_,sb3.extBut _ _ (Nat.ne_of_lt lt) ge,c2,d2, ?_, ?_,dn2.trans hdn⟩
  · obtain ⟨sl,q'⟩:=so.2.2 b o q
    exact ⟨sl,kp b _ hb q'⟩
  · rw [Array.getElem?_setIfInBounds_ne (by decide)];exact h0
  · rw [Array.getElem?_setIfInBounds_self_of_lt hsz]
theorem zb1 {base:Heap} {env:Env} {outer:List Env} {L e:Addr} {oe:Obj} {vs:Array Value} {a0:Value} {Q:Unit→Shared→Prop} (hfr:A.frames=some (env::outer)) (hl:s.heap.FunFrames base (env::outer)) (hf:env.frame=some L)
    (he:s.heap.get? e=some oe) (hd:oe.data=.fields vs) (hdn:oe.dict=none) (h0:vs[0]?=some a0) (h1:vs[1]?=some .none)
    (k:∀ h' T,Chg (frs (env::outer)) e T s.heap h'→ExO oe.cls e T a0 h'→Q () { s with heap:=h' }):
    wpAny M A (noteFrame (.ref e) env) (fun _ s'=>wpAny M A (setFlight (.ref e) none) Q E s') E s:=by
  unfold noteFrame
  rw [hf]
  refine wpAny_bind (wpAny_field he hd h1 ?_)
  exact zcd hfr hl hf he hd hdn (Array.getElem?_eq_some_iff.mp h1).1 h0 k
theorem zce {base:Heap} {env:Env} {outer:List Env} {L e T:Addr} {C a0:Value} {Q:Unit→Shared→Prop} (hfr:A.frames=some (env::outer)) (hl:s.heap.FunFrames base (env::outer)) (hf:env.frame=some L)
    (hx:ExO C e T a0 s.heap) (ht:TbO T s.heap) (hne:T≠e)
    (k:∀ h' T',s.heap.objs.size≤T'→(∀ b o,b≠e→b≠T→b∉frs (env::outer)→s.heap.get? b=some o→h'.get? b=some o)→(∀ b o,b≠e→b≠T→s.heap.get? b=some o→∃ sl,h'.get? b=some { o with slots:=sl })→
      ExO C e T' a0 h'→TbO T h'→TbO T' h'→Q () { s with heap:=h' }):
    wpAny M A (noteFrame (.ref e) env) (fun _ s'=>wpAny M A (setFlight (.ref e) none) Q E s') E s:=by
  obtain ⟨oe,vs,he,rfl,hd,h0,h1,hdn⟩:=hx
  obtain ⟨oT,ts,hT,hdT,h3⟩:=ht
  have l3:3<ts.size:=(Array.getElem?_eq_some_iff.mp h3).1
  have nT:=z9j hl hT hdT
  unfold noteFrame
  rw [hf]
  refine wpAny_bind (wpAny_field he hd h1 ?_)
  rw [if_pos (by simp)]
  refine wpAny_bind (wpAny_field hT hdT h3 ?_)
  rw [if_neg (by simp [rawInt])]
  refine wpAny_bind (z4q hT hdT l3 fun g o' sb gT _ _ dT=>?_)
  have hl':g.FunFrames base (env::outer):=hl.of_keeps fun b o q nf=>⟨o,sb.extBut _ _ (fun z=>by subst z;rw [hT] at q;cases q;exact nf ts hdT) q,rfl⟩
  refine zcd (s:={ s with heap:=g }) hfr hl' hf (sb.extBut _ _ (Ne.symm hne) he) hd hdn (Array.getElem?_eq_some_iff.mp h1).1 h0 fun h' T' c x=>?_
  refine k h' T' (by rw [← sb.1];exact c.new) (fun b o n1 n2 n3 q=>c.keep b o n1 n3 (sb.extBut _ _ n2 q)) (fun b o n1 n2 q=>c.slot b o n1 (sb.extBut _ _ n2 q)) x ⟨_,_,c.keep T _ hne nT gT,dT, ?_⟩ c.tb
  rw [Array.getElem?_setIfInBounds_self_of_lt l3]
end
theorem zcf {P:Program} {w:World} {H:Hp} {h:Heap} {a:Addr} {o:HO} (x:ObjOk P w H h a o):∃ ob,h.get? a=some ob:=by
  cases o with
  | lst xs=>obtain ⟨_,_,_,_,e⟩:=x;exact ⟨_,e⟩
  | tup xs=>obtain ⟨_,_,_,ob,e,_⟩:=x;exact ⟨_,e⟩
  | dK kvs=>obtain ⟨_,_,_,_,o,_,_,e,_⟩:=x;exact ⟨_,e⟩
  | dT kvs=>obtain ⟨_,_,_,_,o,_,_,e,_⟩:=x;exact ⟨_,e⟩
  | set S n=>obtain ⟨o,_,_,_,e,_⟩:=x;exact ⟨_,e⟩
  | ins C dx fs=>obtain ⟨_,_,_,e,_⟩:=x;exact ⟨_,e⟩
  | own y=>exact x
  | xd fs=>obtain ⟨_,⟨_,_,_,e,_⟩,_⟩:=x;exact ⟨_,e⟩
  | rng lo hi=>obtain ⟨_,_,_,e⟩:=x;exact ⟨_,e⟩
  | frz ob u=>obtain ⟨e,_⟩:=x;exact ⟨_,e⟩
  | tbl ps=>exact ⟨_,(show h.get? a=some _ from x)⟩
  | met f y=>exact ⟨_,(show h.get? a=some _ from x)⟩
  | ext φ=>obtain ⟨_,e,_⟩:=x;exact e
def Fly (base:Heap) (H:Hp) (C:Value) (e:Addr):Prop:=∃ T a0,H e=some (.ext (ExO C e T a0))∧H T=some (.ext (TbO T))∧base.get? e=none∧T≠e
def zcg (e:Addr) (H H':Hp):Prop:=∀ b o,b≠e→H b=some o→H' b=some o
theorem zfi {C a0:Value} {e T:Addr} {h1 h2:Heap} (x:ExO C e T a0 h1) (k:∀ o,h1.get? e=some o→h2.get? e=some o):ExO C e T a0 h2:=by
  obtain ⟨oe,vs,he,r⟩:=x
  exact ⟨oe,vs,k oe he,r⟩
theorem zfj {T:Addr} {h1 h2:Heap} (x:TbO T h1) (k:∀ o,h1.get? T=some o→h2.get? T=some o):TbO T h2:=by
  obtain ⟨oe,vs,he,r⟩:=x
  exact ⟨oe,vs,k oe he,r⟩
theorem zi0 {P:Program} {w:World} {H:Hp} {h:Heap} {C a0:Value} {e T:Addr} (x:ExO C e T a0 h):ObjOk P w H h e (.ext (ExO C e T a0)):=
  ⟨x,(let ⟨oe,_,he,_⟩:=x;⟨oe,he⟩),fun _ _ y k=>zfi y k⟩
theorem z9k {P:Program} {w:World} {H:Hp} {h:Heap} {T:Addr} (x:TbO T h):ObjOk P w H h T (.ext (TbO T)):=
  ⟨x,(let ⟨oe,_,he,_⟩:=x;⟨oe,he⟩),fun _ _ y k=>zfj y k⟩
section
variable {P:Program} {w:World} {M:Model} {A:Around} {E:Value→Shared→Prop} {s:Shared} {H:Hp} {base:Heap} {env:Env} {outer:List Env} {L e:Addr} {C:Value}
theorem z6j {Q:Unit→Shared→Prop} (hfr:A.frames=some (env::outer)) (hl:s.heap.FunFrames base (env::outer)) (hf:env.frame=some L) (hok:HOk P w H s.heap) (hfree:∀ b∈frs (env::outer),H b=none) (fl:Fly base H C e)
    (k:∀ h' H',Un (frs (env::outer)) [] H H' s.heap h'→HOk P w H' h'→Fly base H' C e→zcg e H H'→Q () { s with heap:=h' }):
    wpAny M A (noteFrame (.ref e) env) (fun _ s'=>wpAny M A (setFlight (.ref e) none) Q E s') E s:=by
  obtain ⟨T,a0,he,hT,hb,hne⟩:=fl
  have xe:ExO C e T a0 s.heap:=(show ObjOk P w H s.heap e _ from hok e _ he).1
  have xt:TbO T s.heap:=(show ObjOk P w H s.heap T _ from hok T _ hT).1
  refine zce hfr hl hf xe xt hne fun h' T' hnew keep slot x' t0 t'=>?_
  have nT':H T'=none:=hok.fresh hnew
  have eT':T'≠e:=(z0h he nT').symm
  have TT':T'≠T:=(z0h hT nT').symm
  have sx:zcg e H (upd (upd H e (.ext (ExO C e T' a0))) T' (.ext (TbO T'))):=fun b o hbe q=>by rw [z0d (z0h q nT'),z0d hbe];exact q
  have ee:upd (upd H e (.ext (ExO C e T' a0))) T' (.ext (TbO T')) e=some (.ext (ExO C e T' a0)):=by rw [z0d (Ne.symm eT'),z0b]
  refine k h' (upd (upd H e (.ext (ExO C e T' a0))) T' (.ext (TbO T'))) ?_ ?_ ⟨T',a0,ee,z0b,hb,eT'⟩ sx
  · have free:∀ b o,s.heap.get? b=some o→H b=none→upd (upd H e (.ext (ExO C e T' a0))) T' (.ext (TbO T')) b=none:=fun b o q n=>by
      have h1:b≠T':=Nat.ne_of_lt (Nat.lt_of_lt_of_le (Heap.lt_size q) hnew)
      have h2:b≠e:=(z0h he n).symm
      rw [z0d h1,z0d h2];exact n
    refine ⟨fun b o q n hb _=>keep b o (z0h he n).symm (z0h hT n).symm hb q,fun b o q n _ _=>slot b o (z0h he n).symm (z0h hT n).symm q,fun b o q n _=>free b o q n,fun b o q _=>?_,fun b xs q=>?_,fun b o u q=>?_,fun b ps q=>?_⟩
    · by_cases h1:b=e
      · subst h1;obtain ⟨oe,_,z,_⟩:=x';exact ⟨oe,z⟩
      · by_cases h2:b=T
        · subst h2;obtain ⟨oe,_,z,_⟩:=t0;exact ⟨oe,z⟩
        · obtain ⟨sl,z⟩:=slot b o h1 h2 q;exact ⟨_,z⟩
    · exact sx b _ (z72 q he (by intro z;cases z)) q
    · exact sx b _ (z72 q he (by intro z;cases z)) q
    · exact ⟨#[],by rw [sx b _ (z72 q he (by intro z;cases z)) q];simp⟩
  · intro a o q
    by_cases h1:a=T'
    · subst h1;rw [z0b] at q;cases q;exact z9k t'
    · rw [z0d h1] at q
      by_cases h2:a=e
      · subst h2;rw [z0b] at q;cases q;exact zi0 x'
      · rw [z0d h2] at q
        by_cases h3:a=T
        · subst h3;rw [hT] at q;cases q;exact z9k t0
        · have nf:a∉frs (env::outer):=fun z=>by rw [hfree a z] at q;cases q
          refine (hok a o q).stay (fun b u hb z=>?_) (fun b z=>sx b _ (z72 z he (by intro y;cases y)) z) fun b xs z=>sx b _ (z72 z he (by intro y;cases y)) z
          rcases hb with rfl | hb
          · exact keep b u h2 h3 nf z
          · exact keep b u (z72 hb he (by intro y;cases y)) (z72 hb hT (by intro y;cases y)) (fun y=>by rw [hfree b y] at hb;cases hb) z
theorem z9l {Q:Unit→Shared→Prop} {h0:Heap} {args:List Value} (hfr:A.frames=some (env::outer)) (hl:h0.FunFrames base (env::outer)) (hf:env.frame=some L) (hok:HOk P w H h0) (hfree:∀ b∈frs (env::outer),H b=none) (hsb:∀ b o,base.get? b=some o→h0.get? b=some o)
    (mx:Heap.MadeExcOf h0 s.heap e C args)
    (k:∀ h' H',Un (frs (env::outer)) [] H H' h0 h'→HOk P w H' h'→Fly base H' C e→Same H H'→Q () { s with heap:=h' }):
    wpAny M A (noteFrame (.ref e) env) (fun _ s'=>wpAny M A (setFlight (.ref e) none) Q E s') E s:=by
  obtain ⟨t,he,hnt,ht⟩:=mx.there
  have hbn:base.get? e=none:=by
    cases q:base.get? e with
    | none=>rfl
    | some o=>have:=hsb e o q;rw [mx.new] at this;cases this
  have nH:H e=none:=by
    cases q:H e with
    | none=>rfl
    | some o=>
      have z:∀ a o,H a=some o→h0.get? a≠none:=fun a o q n=>by
        have lt:=hok.lt q
        have:=(hok a o q)
        have ex:∃ ob,h0.get? a=some ob:=zcf this
        obtain ⟨ob,eo⟩:=ex
        rw [n] at eo;cases eo
      exact absurd mx.new (z e o q)
  have hl1:s.heap.FunFrames base (env::outer):=hl.of_keeps fun b o hb _=>⟨o,mx.keeps b o hb,rfl⟩
  refine zb1 hfr hl1 hf he rfl rfl (a0:=.ref t) rfl rfl fun h' T c x=>?_
  have ne_e:∀ b o,h0.get? b=some o→b≠e:=fun b o q z=>by subst z;rw [mx.new] at q;cases q
  have lt0:∀ b o,h0.get? b=some o→b<T:=fun b o q=>Nat.lt_of_lt_of_le (Heap.lt_size (mx.keeps b o q)) c.new
  have nT:H T=none:=by
    cases q:H T with
    | none=>rfl
    | some o=>
      obtain ⟨ob,eo⟩:=zcf (hok T o q)
      exact absurd (lt0 T ob eo) (Nat.lt_irrefl _)
  have eT:T≠e:=Nat.ne_of_gt (Nat.lt_of_lt_of_le (Heap.lt_size he) c.new)
  have sm:Same H (upd (upd H e (.ext (ExO C e T (.ref t)))) T (.ext (TbO T))):=fun b o q=>by rw [z0d (z0h q nT),z0d (z0h q nH)];exact q
  refine k h' (upd (upd H e (.ext (ExO C e T (.ref t)))) T (.ext (TbO T))) ?_ ?_ ⟨T,.ref t,by rw [z0d (Ne.symm eT),z0b],z0b,hbn,eT⟩ sm
  · refine ⟨fun b o q n hb _=>c.keep b o (ne_e b o q) hb (mx.keeps b o q),fun b o q n _ _=>c.slot b o (ne_e b o q) (mx.keeps b o q),fun b o q n _=>?_,fun b o q _=>?_,fun b xs q=>sm b _ q,fun b o u q=>sm b _ q,fun b ps q=>⟨#[],by rw [sm b _ q];simp⟩⟩
    · rw [z0d (Nat.ne_of_lt (lt0 b o q)),z0d (ne_e b o q)];exact n
    · obtain ⟨sl,z⟩:=c.slot b o (ne_e b o q) (mx.keeps b o q);exact ⟨_,z⟩
  · intro a o q
    by_cases h1:a=T
    · subst h1;rw [z0b] at q;cases q;exact z9k c.tb
    · rw [z0d h1] at q
      by_cases h2:a=e
      · subst h2;rw [z0b] at q;cases q;exact zi0 x
      · rw [z0d h2] at q
        have nf:a∉frs (env::outer):=fun z=>by rw [hfree a z] at q;cases q
        refine (hok a o q).stay (fun b u hb z=>?_) (fun b z=>sm b _ z) fun b xs z=>sm b _ z
        rcases hb with rfl | hb
        · exact c.keep b u (ne_e b u z) nf (mx.keeps b u z)
        · exact c.keep b u (ne_e b u z) (fun y=>by rw [hfree b y] at hb;cases hb) (mx.keeps b u z)
end
def CXm (P:Program) (w:World) (base:Heap):CXT:=fun outer H s E u s'=>∃ e C H',u=.ref e∧s'.os=s.os∧AllBare s'.gens∧Un (frs outer) [] H H' s.heap s'.heap∧HOk P w H' s'.heap∧Fly base H' C e∧E u none H'
def zjn (X:Cx) (E:XK):Prop:=∀ (pins:List (Addr×Obj)) (σ:St) (H:Hp) (s:Shared) (h':Heap) (e:Addr) (C:Value) (args:List Value),Inv X pins σ H s→Heap.MadeExcOf s.heap h' e C args→
  (∀ H',Same H H'→(∃ T a0,H' e=some (.ext (ExO C e T a0)))→E (.ref e) none H')→X.xe (.ref e) { s with heap:=h' }
structure Good (X:Cx) (G:Cfg) (E:XK) (k:Nat):Prop where
  calm:X.calm=true
  room:Room k X.A
  K:X.K=G.K
  pas:zbs (CXm X.prog X.w X.base) X E
  own:PassesOwn (model X.prog X.w) X.A X.env X.xe
  rais:zjn X E
def Firm (E:XK):Prop:=∀ e H H',zcg e H H'→(∃ C T a0 T' a0',H e=some (.ext (ExO C e T a0))∧(∃ h,ExO C e T a0 h)∧H' e=some (.ext (ExO C e T' a0')))→E (.ref e) none H→E (.ref e) none H'
section
variable {P:Program} {w:World} {K:PySem.W.Frag} {mg:Str→Option Value} {base:Heap} {N:List Str} {qual:Str} {scope:Scope} {f:Addr} {cdv:Value} {A:Around} {outer:List Env} {s0:Shared} {H0:Hp} {E0:XK} {G:Cfg} {E:XK} {k:Nat}
theorem z8m (hr:Room k (A.deeper (envOfC qual scope s0.heap.objs.size f cdv))) (hK:K=G.K) (hE:∀ u H',E u none H'→E0 u none H') (hF:Firm E):
    Good (cxOf (CXm P w base) P w K mg base N qual scope f cdv A outer s0 H0 E0) G E k where
  calm:=rfl
  room:=hr
  K:=hK
  own:=PassesOwn.leaving
  pas:=by
    intro pins σ H s u s' I ⟨e,C,H',eu,os,bare,un,hok,fl,he⟩
    subst eu
    have I':=I.call' os un hok bare (fun b z=>absurd z (by simp))
    refine wpAny_bind (z6j (P:=P) (w:=w) (H:=H') (base:=base) I'.ok.frames I'.stack rfl hok I'.stkFree fl fun h'' H'' un2 hok2 fl2 sx=>?_)
    have I2:=I'.call (h':=h'') (g':=s'.gens) (d':=s'.drawn) (t':=s'.toks) un2 hok2 I'.bare (fun b z=>absurd z (by simp))
    obtain ⟨T,a0,h1,_⟩:=id fl
    obtain ⟨T2,a2,h3,_⟩:=id fl2
    have xe1:ExO C e T a0 s'.heap:=(show ObjOk P w H' s'.heap e _ from hok e _ h1).1
    have:E (.ref e) none H'':=hF e H' H'' sx ⟨C,T,a0,T2,a2,h1,⟨_,xe1⟩,h3⟩ he
    exact ⟨e,C,H'',rfl,I2.os,I2.bare,I2.base,hok2,fl2,hE _ _ this⟩
  rais:=by
    intro pins σ H s h' e C args I mx he
    refine wpAny_bind (z9l (P:=P) (w:=w) (H:=H) (base:=base) I.ok.frames I.stack rfl I.hok I.stkFree I.bk mx fun h'' H'' un2 hok2 fl2 sm=>?_)
    have I2:=I.call (h':=h'') (g':=s.gens) (d':=s.drawn) (t':=s.toks) un2 hok2 I.bare (fun b z=>absurd z (by simp))
    obtain ⟨T2,a2,h3,_⟩:=id fl2
    exact ⟨e,C,H'',rfl,I2.os,I2.bare,I2.base,hok2,fl2,hE _ _ (he H'' sm ⟨T2,a2,h3⟩)⟩
theorem z0o {X:Cx} {sc:Scope} {N':List Str} {s:Shared} {H:Hp} {ex:List Addr} (g:Good X G E k):Good (blk X sc N' s H ex) G L2.E0 k where
  calm:=g.calm
  room:=g.room
  K:=g.K
  own:=PassesOwn.never
  pas:=fun _ _ _ _ _ _ _ ⟨_,_,_,_,_,_,_,_,_,z⟩=>z
  rais:=fun _ _ H s h' e C args I mx he=>by
    have nH:H e=none:=by
      cases q:H e with
      | none=>rfl
      | some o=>
        obtain ⟨ob,eo⟩:=zcf (I.hok e o q)
        rw [mx.new] at eo;cases eo
    exact he (upd H e (.ext (ExO C e 0 .none))) (z0a nH) ⟨0,.none,z0b⟩
def z09 (n:Nat) (ds:List Dv):Ev:=ds.map some++List.replicate (n - ds.length) none
def z0r:Sr→Rs Dv
  | .rt d h=>.ok d h
  | .nx _ h=>.ok .non h
  | .ex c h=>.ex c h
  | _=>.bad
def z0i (np n:Nat) (mb:MS):List Dv→Hs→Rs Dv:=fun ds h=>if ds.length=np then z0r (mb (z09 n ds) h) else .bad
def spOf (G:Cfg) (F:List Dv→Hs→Rs Dv):Sp:=fun vs H Q E=>∃ μ h ds,RelDL G μ h.length H ds vs∧Sim G μ h H∧Out G E μ h.length H (F ds h) (RelD G) Q
theorem z9m {μ:Nat→Addr} {n:Nat} {H:Hp} {ds:List Dv} {vs:List V} (r:RelDL G μ n H ds vs) (N:List Str):RelS G μ n H (z09 N.length ds) (start N vs):=by
  have hl:=r.length
  refine ⟨by simp [z09,start,hl],fun i d e=>?_⟩
  unfold z09 at e
  by_cases hi:i<ds.length
  · rw [List.getElem?_append_left (by simpa using hi),List.getElem?_map] at e
    cases q:ds[i]? with
    | none=>rw [q] at e;cases e
    | some d'=>
      rw [q] at e;cases e
      obtain ⟨v,e1,r1⟩:=r.get q
      refine ⟨v, ?_,r1⟩
      unfold start
      rw [List.getElem?_append_left (by simp;omega),List.getElem?_map,e1]
      rfl
  · rw [List.getElem?_append_right (by simpa using hi),List.getElem?_replicate] at e
    split at e <;> cases e
def EB (G:Cfg) (μ0:Nat→Addr) (n0:Nat) (H0:Hp) (r:Sr):XK:=fun u _ H'=>∃ c h' μ',r=.ex c h'∧Ext μ0 n0 H0 μ' h'.length H'∧Sim G μ' h' H'∧FlyE G H' c u
theorem Sim.sameX {μ:Nat→Addr} {h:Hs} {H H':Hp} {e:Addr} (s:Sim G μ h H) (sx:zcg e H H') (hx:∃ φ,H e=some (.ext φ)):Sim G μ h H'∧∀ (n:Nat),Ext μ n H μ n H':=by
  obtain ⟨φ,hx⟩:=hx
  have x:∀ n:Nat,Ext μ n H μ n H':=fun n=>⟨Nat.le_refl _,fun _ _=>rfl,fun a o i q=>sx a o (by rintro rfl;rw [hx] at q;cases q;exact i) q⟩
  refine ⟨⟨s.inj,fun i o q=>?_,s.tab.keep fun a o _ n2 q=>sx a o (by rintro rfl;rw [hx] at q;cases q;exact n2 _ rfl) q⟩,x⟩
  have r:=s.ob i o q
  cases o with
  | lst xs=>
    obtain ⟨vs,e1,r1⟩:=r
    exact ⟨vs,sx _ _ (z72 e1 hx (by intro z;cases z)) e1,RelDL.mono (x _) _ _ r1⟩
theorem z8n {μ0:Nat→Addr} {n0:Nat} {H0:Hp} {r:Sr}:Firm (EB G μ0 n0 H0 r):=by
  intro e H H' sx ⟨C,T,a0,T',a0',h1,⟨hp,hx⟩,h3⟩ ⟨c,h',μ',er,x,s,e',φ,eu,h4,h5⟩
  cases eu
  obtain ⟨s2,x2⟩:=s.sameX sx ⟨_,h1⟩
  refine ⟨c,h',μ',er,x.trans (x2 _),s2,e,_,rfl,h3,fun hh z=>?_⟩
  rw [h1] at h4;cases h4
  obtain ⟨o,g1,g2⟩:=h5 hp hx
  obtain ⟨oe,vs,g3,g4,_⟩:=hx
  rw [g3] at g1;cases g1
  obtain ⟨oe',vs',g5,g6,_⟩:=z
  exact ⟨oe',g5,by rw [g6,← g4,g2]⟩
theorem z1b {x qual:Str} {st:Stmt} {fd:FuncData} {ps:List Str} {mb:MS} (Fn:Fun K x qual st f fd) (S:FnScope N ps (z04 st)) (hK:K=G.K)
    (hbody:∀ (cdv:Value) (A:Around) (outer:List Env) (s:Shared) (H:Hp) (E₀ E:XK),Good (cxOf (CXm P w base) P w K mg base N qual (z04 st) f cdv A outer s H E₀) G E k→z3p (cxOf (CXm P w base) P w K mg base N qual (z04 st) f cdv A outer s H E₀) G E (z1q st) mb):
    FnOk P w K mg base (CXm P w base) (k+1) f fd ps (spOf G (z0i ps.length N.length mb)):=by
  obtain ⟨oc,od,kV,doc,pm,an,cdv,ct,osl,rfl,lk,hcd⟩:=Fn.ex
  have hlen:∀ vs H Q E,spOf G (z0i ps.length N.length mb) vs H Q E→vs.length=ps.length:=fun vs H Q E ⟨μ,h,ds,r,sm,o⟩=>by
    rw [r.length]
    unfold z0i at o
    by_cases hd:ds.length=ps.length
    · exact hd
    · rw [if_neg hd] at o;exact o.elim
  refine zez lk hcd S hlen fun A outer s H vs Q E hr hsp=>?_
  have hl:=hlen _ _ _ _ hsp
  obtain ⟨μ,h,ds,r,sm,o⟩:=hsp
  have o':Out G E μ h.length H (z0r (mb (z09 N.length ds) h)) (RelD G) Q:=by
    unfold z0i at o
    rw [if_pos (by rw [← r.length];exact hl)] at o
    exact o
  refine ⟨_,hbody cdv A outer s H E (EB G μ h.length H (mb (z09 N.length ds) h)) (z8m hr hK (fun u H' ⟨c,h',μ',er,x,s',fl⟩=>?_) z8n) hK, ?_⟩
  · rw [er] at o'
    exact o' μ' H' u x s' fl
  · refine ⟨μ,z09 N.length ds,h,z9m r N,sm, ?_⟩
    cases q:mb (z09 N.length ds) h with
    | bad=>rw [q] at o';exact o'.elim
    | bk ρ h'=>rw [q] at o';exact o'.elim
    | ct ρ h'=>rw [q] at o';exact o'.elim
    | rt d h'=>rw [q] at o';exact o'
    | nx ρ h'=>rw [q] at o';exact fun μ' H' σ' x' s' rs'=>o' μ' H' .non x' s' rfl
    | ex c h'=>exact fun μ' H' u x' s' fl=>⟨c,h',μ',rfl,x',s',fl⟩
theorem z0c {X:Cx} {F:List Dv→Hs→Rs Dv} {ps:List Str} {fd:FuncData} {x:Str} {p pos:Pos} {e:Expr} {es:List Expr} {ms:M (List Dv)} {j:Nat} (g:Good X G E k) (Fn:FnOk X.prog X.w X.K X.mg X.base (CXm X.prog X.w X.base) j f fd ps (spOf G F)) (hj:j≤k)
    (hg:Gl X x) (hm:X.mg x=some (.ref f)) (hk:PySem.W.keepIn X.K (.ref f)=true) (hb:Binds X.K fd ps []) (ha:SndA X G E (e::es) ms)
    (hdb:(x==("__debug__" : Str))=false:=by decide) (he:starEach (e::es) X.env=(false,eval e X.env)::starEach es X.env:=by rfl) (hpl:(backTo pos (starEach es X.env)).any (·.1)=false:=by rfl):
    Snd X G E (.Call (.Name x p) (e::es) [] pos) (z05 F ms):=fun hK=>
  PE.imp (ziz Fn (g.room.mono hj) hg hm hk hb .nil g.pas (ha hK) hdb he hpl) fun σ H Q ⟨μ,ρ,h,rs,s,o⟩=>z19 rs s o fun μ1 ds1 h1 vs H1 x1 rs1 s1 r1 o1=>by
    rw [List.append_nil]
    exact ⟨μ1,h1,ds1,r1,s1,o1⟩
end
abbrev bmV:List Value:=[.type "ValueError",.type "Exception",.type "BaseException",.type "object"]
theorem zfk {K:PySem.W.Frag} {mg:Str→Option Value} {base:Heap} (p:Program) (m:Mod K mg base):∃ loose mb,PySem.W.TopRead p loose mg mb base:=by
  obtain ⟨mb,hb,hbb⟩:=m.blt
  obtain ⟨o,es,ep,ho,hd,hk,hf⟩:=id m.glob
  refine ⟨es.toList.filterMap fun e=>match e.key with
    | .str n _=>some n
    | _=>none,mb,m.glob,hb,m.nolimit,hbb,fun x _ hx _ _ _=>?_⟩
  rw [← hf x]
  cases q:nsFind es x with
  | none=>rfl
  | some v=>
    exfalso
    apply hx
    unfold nsFind findBy at q
    obtain ⟨e,he,_⟩:=Option.map_eq_some_iff.mp q
    have h1:=Array.find?_some he
    have h2:=Array.mem_of_find?_eq_some he
    obtain ⟨n,t,hn⟩:=hk e h2
    rw [hn] at h1
    have h3:n=x:=by simpa [Value.isStr] using h1
    exact List.mem_filterMap.mpr ⟨e,by simpa using h2,by rw [hn,h3]⟩
section
variable {X:Cx} {G:Cfg} {E:XK} {k:Nat} {x:Str} {C:Addr} {np cpos pos:Pos} {e:Expr} {es:List Expr} {t:TA} {ms:M (List Dv)} {c:Nat}
theorem zfl (g:Good X G E k) (hg:Gl X x) (hm:X.mg x=some (.ref C)) (hns:PySem.W.nsIn X.K mainGlobals x=some (some (.ref C))) (hx:PySem.W.excIn X.K C bmV "ValueError.__new__" = true) (ha:PA X (e::es) t) (hd:(x==("__debug__" : Str))=false:=by decide)
    (he:starEach (e::es) X.env=(false,eval e X.env)::starEach es X.env:=by rfl) (hpl:(backTo cpos (starEach es X.env)).any (·.1)=false:=by rfl):
    PS X (.Raise (some (.Call (.Name x np) (e::es) [] cpos)) none pos) (fun _ σ H=>t σ H fun vs H1=>vs.length≤sizeLine∧∀ e H',Same H1 H'→(∃ T a0,H' e=some (.ext (ExO (.ref C) e T a0)))→E (.ref e) none H'):=by
  intro pins s σ H D I h
  obtain ⟨bm,N,nm,q,bs,hdct,sn,sub,ab,col,dd,k0,k1,k2,k3,k5,mN,hC,hN,hni,T⟩:=(let ⟨_,_,tr⟩:=zfk X.prog I.ok.mod;PySem.W.own_of_in I.ok.mod.kin tr hns hx).obj
  refine wpAny_Raise_call_subU (C:=C) (nm:=nm) (q:=q) (N:=N) (bs:=bs) (bm:=bm) (hdct:=hdct) (sn:=sn) (sub:=sub) (ab:=ab) (col:=col) (dd:=dd) (k0:=k0) (k1:=k1) (k2:=k2) (k3:=k3) (k5:=k5)
    PySem.F.excBase_ValueError (by decide) PySem.F.excBase_ValueError (mN:=mN) (T.hasType (by decide)) (I.ok.hd g.calm) (by rw [he];show (false||(backTo cpos (starEach es X.env)).any (·.1))=false;rw [hpl];rfl) hni (z4b I hg hm ⟨rfl, ?_⟩ hd)
  have hh:=ha cpos pins s σ H _ I h
  rw [he] at hh ⊢
  refine Calls.evalArgs_plain (thn hh fun us s2 ⟨vs,H2,I2,r,hz,w⟩=>⟨rfl,by rw [← r.length];exact hz,I2.bk _ _ hC,hN.keeps I2.bk,T.keeps I2.bk,fun h' e' mx=>?_⟩)
  exact g.rais pins σ H2 s2 h' e' _ _ I2 mx fun H' sm z=>w e' H' sm z
theorem zjo {H:Hp} {e:Addr} (hc:C=G.cl c) (z:∃ T a0,H e=some (.ext (ExO (.ref C) e T a0))):FlyE G H c (.ref e):=by
  obtain ⟨T,a0,z⟩:=z
  exact ⟨e,_,rfl,z,fun h ⟨oe,vs,h1,h2,_⟩=>⟨oe,h1,by rw [h2,hc]⟩⟩
def z40 (c:Nat) (ms:M (List Dv)):MS:=fun ρ h=>(ms ρ h).thenS fun ds h1=>if ds.length≤1000 then .ex c h1 else .bad
theorem z6k (g:Good X G E k) (hg:Gl X x) (hm:X.mg x=some (.ref C)) (hns:PySem.W.nsIn X.K mainGlobals x=some (some (.ref C))) (hx:PySem.W.excIn X.K C bmV "ValueError.__new__" = true) (hc:C=G.cl c) (ha:SndA X G E (e::es) ms) (hd:(x==("__debug__" : Str))=false:=by decide)
    (he:starEach (e::es) X.env=(false,eval e X.env)::starEach es X.env:=by rfl) (hpl:(backTo cpos (starEach es X.env)).any (·.1)=false:=by rfl):
    SndS X G E (.Raise (some (.Call (.Name x np) (e::es) [] cpos)) none pos) (z40 c ms):=fun hK=>PS.imp (zfl g hg hm hns hx (ha hK) hd he hpl) fun D σ H ⟨μ,ρ,h,rs,s,o⟩=>
  ⟨μ,ρ,h,rs,s,(o.thenS (R:=RelDL G)).mono fun vs H1 ⟨μ1,ds,h1,x1,s1,r1,o1⟩=>by
    split at o1
    · rename_i hl
      refine ⟨by rw [r1.length];exact Nat.le_trans hl (by decide),fun e' H' sm z=>?_⟩
      exact o1 μ1 H' (.ref e') (Ext.same sm) (s1.same sm) (zjo hc z)
    · exact o1.elim⟩
end
open PySem PySem.Spec PyProof.Rows PySem.W
section
variable {prog:Program} {w:World} {A:Around} {E:Value→Shared→Prop} {h:Heap} {g:Array GenState} {d:Drawn} {t:Nat} {os:OsState} {a C:Addr} {o:Obj} {K:Frag}
structure ExK (K:Frag) (C:Addr):Prop where
  ga:findIn K (.ref C) "__getattribute__" = some (some (.builtin "BaseException.__getattribute__"))
  ng:findIn K (.ref C) "__getattr__" = some none
  cl:findIn K (.ref C) "__class__" = some (some (.builtin "object.__class__"))
  ob:mroIn K C (.type "object")=some true
  be:subIn K (.ref C) (.type "BaseException")=some true
  se:kitCls K (.ref C) (.ref C)=some true
  lk:∃ oc od cd osl,K.lookup C=some ⟨oc,od,.cls cd,osl⟩
theorem kindGa:builtinKind "BaseException.__getattribute__" = some .slot∧splitId "BaseException.__getattribute__" = some ("BaseException","__getattribute__"):=by decide +kernel
theorem zjp:(Value.builtin "BaseException.__getattribute__" == Value.builtin "object.__getattribute__")=false:=by decide +kernel
section
variable {R:Result→Shared→Prop} {s:Shared}
theorem zfm {M:Model} {n:Value} {Q:Unit→Shared→Prop} (X:K.In s.heap) (I:InstAt s.heap a o C none) (k:ExK K C) (hq:Q () s):wpAny M A (checkBuiltinCall "BaseException.__getattribute__" ⟨[.ref a,n],[]⟩) Q E s:=by
  have one:Looks M s.heap (isInstance (.ref a) (.type "BaseException")) true:=I.type.andThen (looks_subIn X k.be)
  have two:=F.args_bexc_ga (.ref a) n
  obtain ⟨hh,g,d,t,os⟩:=s
  unfold checkBuiltinCall
  rw [kindGa.1,kindGa.2]
  refine wpAny_bind (one.at ?_)
  repeat (first | assumption | wp_step)
theorem zfn {n:Tok} (X:K.In s.heap) (I:InstAt s.heap a o C none) (k:ExK K C) (hq:R (.ok (.ret (.ref C))) s):codeAny (model prog w) A (.call (.builtin "BaseException.__getattribute__") ⟨[.ref a,.str "__class__" n],[]⟩) R s:=by
  refine codeAny_call_builtin F.excAttr_ValueError.ga.plain F.entry_bexc_ga (zfm X I k ?_)
  have own:=I.type (M:=model prog w)
  have entry:=looks_findIn (M:=model prog w) X k.cl
  have of_get:=F.slot_gs_get.lookup
  have of_set:=F.slot_gs_set.lookup
  have kind:=F.typeOf_object_class
  have kindIs:s.TypeIs (.builtin "object.__class__") "getset_descriptor" := kind
  obtain ⟨hh,g,d,t,os⟩:=s
  repeat (any_goals (first | assumption | with_reducible refine own.at ?_ | with_reducible refine entry.at ?_ | wp_step))
  exact class_get (s:=⟨hh,g,d,t,os⟩) X I k.ob (by repeat (any_goals (first | assumption | wp_step)))
end
theorem zch {Q:Option Value→Shared→Prop} (X:K.In h) (I:InstAt h a o C none) (k:ExK K C) (hq:Q (some (.ref C)) ⟨h,g,d,t+1,os⟩):
    wpAny (model prog w) A (getAttr? (.ref a) "__class__") Q E ⟨h,g,d,t,os⟩:=by
  have own:=I.type (M:=model prog w)
  have first_:=looks_findIn (M:=model prog w) X k.ga
  have then_:=looks_findIn (M:=model prog w) X k.ng
  have bound:=F.excAttr_ValueError.ga.bind (.ref a)
  have other:=zjp
  have apart:(onTheHeap (Value.ref C)&&Value.builtin "BaseException.__getattribute__" == Value.builtin "object.__getattribute__")=false:=by rw [other];rfl
  unfold getAttr? getAttrBy?
  repeat (any_goals (first | assumption | with_reducible refine own.at ?_ | with_reducible refine first_.at ?_ | with_reducible refine then_.at ?_ | wp_step))
  exact zfn X I k (by repeat (any_goals (first | assumption | wp_step)))
def zmn (a C:Addr) (h:Heap):Prop:=∃ o,InstAt h a o C none
theorem zfo (k:ExK K C):KitX K (.ref a) (.ref C) (zmn a C) where
  ty:=fun _ _ _ ⟨_,I⟩=>I.type
  it:=fun _ _ X _=>(kit_cls X k.se).2.1
  ne:=fun h tp dd its n sl X htp=>by
    cases z:(Value.ref C==Value.ref tp) with
    | false=>rfl
    | true=>
      obtain rfl:C=tp:=by simpa using z
      obtain ⟨oc,od,cd,osl,lk⟩:=k.lk
      have:=X _ _ lk
      rw [htp] at this
      simp at this
  ca:=fun {prog w A E Q s} X ⟨o,I⟩ hq=>by
    obtain ⟨hh,g,d,t,os⟩:=s
    exact zch X I k hq
end
inductive Ty where
  | non | bl | int | str | tup | lst | dct | exc (c:Nat)
def tyD:Dv→Hs→Option Ty
  | .non,_=>some .non
  | .bl _,_=>some .bl
  | .int _,_=>some .int
  | .str _,_=>some .str
  | .tup _,_=>some .tup
  | .ref i,h=>match getL h i with
    | some _=>some .lst
    | none=>none
  | .edc,_=>some .dct
  | .exc c,_=>some (.exc c)
  | .scr,_=>none
def valT (cl:Nat→Addr):Ty→Value
  | .non=>.type "NoneType"
  | .bl=>.type "bool"
  | .int=>.type "int"
  | .str=>.type "str"
  | .tup=>.type "tuple"
  | .lst=>.type "list"
  | .dct=>.type "dict"
  | .exc c=>.ref (cl c)
def isiD (f:Ty→Option Bool) (d:Dv) (h:Hs):Rs Dv:=match tyD d h with
  | some ty=>match f ty with
    | some b=>.ok (.bl b) h
    | none=>.bad
  | none=>.bad
section
variable {X:Cx} {G:Cfg} {E:XK} {pins:List (Addr×Obj)} {σ:St} {H:Hp} {s:Shared}
theorem zi1 {μ:Nat→Addr} {h:Hs} {d:Dv} {v:V} {u:Value} {ty:Ty} (I:Inv X pins σ H s) (sm:Sim G μ h H) (r:RelD G μ h.length H d v) (ru:RelV v u) (e:tyD d h=some ty) (hex:∀ c,ty=.exc c→ExK X.K (G.cl c)):
    ∃ P,KitX X.K u (valT G.cl ty) P∧P s.heap∧u≠.builtin "__main__.__loader__#opaque":=by
  cases d with
  | non=>cases e;rw [RelD] at r;subst r;cases ru;exact ⟨_,kitx_none,trivial,fun z=>nomatch z⟩
  | bl b=>cases e;rw [RelD] at r;subst r;cases ru;exact ⟨_,kitx_bool,trivial,fun z=>nomatch z⟩
  | int i=>cases e;rw [RelD] at r;subst r;obtain ⟨t,rfl⟩:=ru;exact ⟨_,kitx_int,trivial,fun z=>nomatch z⟩
  | str i=>cases e;rw [RelD] at r;subst r;obtain ⟨t,rfl⟩:=ru;exact ⟨_,kitx_str,trivial,fun z=>nomatch z⟩
  | tup ds=>
    cases e
    obtain ⟨a,vs,rfl,ea,_⟩:=r
    cases ru
    obtain ⟨_,_,_,o,h1,h2,_⟩:=(show ObjOk X.prog X.w H s.heap a (.tup vs) from I.hok a _ ea)
    exact ⟨_,kitx_tuple,⟨o,h1,h2⟩,fun z=>nomatch z⟩
  | ref i=>
    dsimp only [tyD] at e
    cases g:getL h i with
    | none=>rw [g] at e;cases e
    | some xs=>
      rw [g] at e;cases e
      obtain ⟨_,rfl⟩:=r
      cases ru
      obtain ⟨vs,ea,_⟩:=sm.ob i _ (z0e g)
      obtain ⟨_,_,n,_,h1⟩:=(show ObjOk X.prog X.w H s.heap (μ i) (.lst vs) from I.hok _ _ ea)
      exact ⟨_,kitx_list,⟨_,h1,rfl⟩,fun z=>nomatch z⟩
  | edc=>
    cases e
    obtain ⟨a,rfl,ea⟩:=r
    cases ru
    obtain ⟨_,_,vs,_,p⟩:=(show ObjOk X.prog X.w H s.heap a (.dK []) from I.hok a _ ea)
    obtain ⟨o,es,ep,h1,h2,_⟩:=p
    exact ⟨_,kitx_dict,⟨o,h1,h2.1⟩,fun z=>nomatch z⟩
  | exc c=>
    cases e
    obtain ⟨a,o,uo,rfl,ea,hc,hdn,vs,hd⟩:=r
    cases ru
    obtain ⟨h1,_⟩:=(show ObjOk X.prog X.w H s.heap a (.frz o uo) from I.hok a _ ea)
    refine ⟨_,zfo (hex c rfl),⟨o,h1,hc, ?_, ?_⟩,fun z=>nomatch z⟩
    · unfold notCls;rw [hd]
    · rw [hdn];trivial
  | scr=>cases e
end
section
variable {X:Cx} {G:Cfg} {E:XK} {a b:Expr} {ma:M Dv} {p pos:Pos} {f:Ty→Option Bool}
theorem zmo:bootBuiltins "isinstance" = some (.builtin "isinstance"):=by decide +kernel
def rIsi (G:Cfg) (f:Ty→Option Bool) (c:V):List V→Hp→VK→Prop:=fun xs H Q=>∃ μ h d v ty bb,xs=[v,c]∧Sim G μ h H∧RelD G μ h.length H d v∧tyD d h=some ty∧f ty=some bb∧Q (.bl bb) H
theorem zfp {c:V} {u:Value} (hc:(∃ T,c=.ty T)∨∃ C,c=.ref C) (rc:RelV c u) (hf:∀ ty bb,f ty=some bb→kitOne X.K (valT G.cl ty) u=some bb) (hex:∀ c bb,f (.exc c)=some bb→ExK X.K (G.cl c)):CallR X (.builtin "isinstance") (rIsi G f c):=by
  intro pins s σ H xs us Q I rv ⟨μ,h,d,v,ty,bb,e1,sm,r,et,ef,q⟩
  subst e1
  obtain ⟨u1,u2,rfl,r1,r2⟩:=zbp rv
  have e2:u2=u:=by
    rcases hc with ⟨T,rfl⟩ | ⟨C,rfl⟩ <;> (cases rc;cases r2;rfl)
  subst e2
  obtain ⟨P,Z,hP,hne⟩:=zi1 I sm r r1 et (fun c z=>by subst z;exact hex c bb ef)
  exact kia_one Z I.kIn hP (hf ty bb ef) hne fun tk=>⟨.bl bb,H,I.tok _,rfl,q⟩
theorem z8o {x:Str} {T:String} (hg:Gl X x) (hm:X.mg x=none) (hv:bootBuiltins x=some (.type T)) (hn:x ≠ "__name__" := by decide) (hd:(x==("__debug__" : Str))=false:=by decide):PE X (.Name x pos) (tC (.ty T)):=
  fun pins s σ H Q I h=>z5h I hg hm hv ⟨.ty T,H,I,rfl,h⟩ hn hd
theorem z3q {c:V} {u:Value} (hg:Gl X "isinstance") (hm:X.mg "isinstance" = none) (ha:Snd X G E a ma) (hb:PE X b (tC c)) (hc:(∃ T,c=.ty T)∨∃ C,c=.ref C) (rc:RelV c u)
    (hf:∀ ty bb,f ty=some bb→kitOne G.K (valT G.cl ty) u=some bb) (hex:∀ c bb,f (.exc c)=some bb→ExK G.K (G.cl c))
    (he:starEach [a,b] X.env=[(false,eval a X.env),(false,eval b X.env)]:=by rfl) (he2:starEach [b] X.env=[(false,eval b X.env)]:=by rfl):
    Snd X G E (.Call (.Name "isinstance" p) [a,b] [] pos) (m1 (isiD f) ma):=fun hK=>
  PE.imp (z35 (zfp (G:=G) (f:=f) hc rc (by rw [hK];exact hf) (by rw [hK];exact hex)) hg hm zmo (z17 (ha hK) (z17 hb z27 he2) (by rw [he,he2])) (by decide) (by decide) (by rw [he,he2]) (by rw [he2];rfl))
    fun σ H Q ⟨μ,ρ,h,rs,s,o⟩=>z0m rs s o fun μ1 d h1 v H1 x1 rs1 s1 r1 o1=>by
      show rIsi G f c [v,c] H1 Q
      unfold isiD at o1
      cases q:tyD d h1 with
      | none=>rw [q] at o1;exact o1.elim
      | some ty=>
        rw [q] at o1
        dsimp only at o1
        cases q2:f ty with
        | none=>rw [q2] at o1;exact o1.elim
        | some bb=>
          rw [q2] at o1
          exact ⟨μ1,h1,d,v,ty,bb,rfl,s1,r1,q,q2,o1.val s1 rfl⟩
def zmp (G:Cfg) (f:Ty→Option Bool) (cs:List V):List V→Hp→VK→Prop:=fun xs H Q=>∃ μ h d v ty bb tp,xs=[v,.ref tp]∧H tp=some (.tup cs)∧Sim G μ h H∧RelD G μ h.length H d v∧tyD d h=some ty∧f ty=some bb∧Q (.bl bb) H
theorem zci {cs:List V} {us:List Value} (hcs:∀ us',Vals cs us'→us'=us) (hf:∀ ty bb,f ty=some bb→kitAny X.K (valT G.cl ty) us=some bb) (hex:∀ c bb,f (.exc c)=some bb→ExK X.K (G.cl c)):CallR X (.builtin "isinstance") (zmp G f cs):=by
  intro pins s σ H xs uu Q I rv ⟨μ,h,d,v,ty,bb,tp,e1,etp,sm,r,et,ef,q⟩
  subst e1
  obtain ⟨u1,u2,rfl,r1,r2⟩:=zbp rv
  cases r2
  obtain ⟨_,its,rits,o,h1,h2,_,n,h3⟩:=(show ObjOk X.prog X.w H s.heap tp (.tup cs) from I.hok tp _ etp)
  have eits:=hcs its rits
  subst eits
  obtain ⟨oc,od,odata,osl⟩:=o
  cases h2;cases h3
  obtain ⟨P,Z,hP,hne⟩:=zi1 I sm r r1 et (fun c z=>by subst z;exact hex c bb ef)
  exact kia_tup Z I.kIn hP h1 (hf ty bb ef) hne fun tk=>⟨.bl bb,H,I.tok _,rfl,q⟩
theorem zfq {cs:List V} {us:List Value} {bs:List Expr} {kt:Nat} {tpos:Pos} (hg:Gl X "isinstance") (hm:X.mg "isinstance" = none) (ha:Snd X G E a ma) (hb:PA X bs (fun _ H Q=>Q cs H)) (hl:cs.length≤sizeLine) (hcs:∀ us',Vals cs us'→us'=us)
    (hf:∀ ty bb,f ty=some bb→kitAny G.K (valT G.cl ty) us=some bb) (hex:∀ c bb,f (.exc c)=some bb→ExK G.K (G.cl c))
    (he:starEach [a,.Tuple bs kt tpos] X.env=[(false,eval a X.env),(false,eval (.Tuple bs kt tpos) X.env)]:=by rfl) (he2:starEach [.Tuple bs kt tpos] X.env=[(false,eval (.Tuple bs kt tpos) X.env)]:=by rfl):
    Snd X G E (.Call (.Name "isinstance" p) [a,.Tuple bs kt tpos] [] pos) (m1 (isiD f) ma):=fun hK=>
  PE.imp (z35 (zci (G:=G) (f:=f) hcs (by rw [hK];exact hf) (by rw [hK];exact hex)) hg hm zmo (z17 (ha hK) (z17 (zhm hb) z27 he2) (by rw [he,he2])) (by decide) (by decide) (by rw [he,he2]) (by rw [he2];rfl))
    fun σ H Q ⟨μ,ρ,h,rs,s,o⟩=>z0m rs s o fun μ1 d h1 v H1 x1 rs1 s1 r1 o1=>by
      refine ⟨hl,fun tp htp=>?_⟩
      show zmp G f cs [v,.ref tp] (upd H1 tp (.tup cs)) Q
      unfold isiD at o1
      cases q:tyD d h1 with
      | none=>rw [q] at o1;exact o1.elim
      | some ty=>
        rw [q] at o1
        dsimp only at o1
        cases q2:f ty with
        | none=>rw [q2] at o1;exact o1.elim
        | some bb=>
          rw [q2] at o1
          have x2:Ext μ1 h1.length H1 μ1 h1.length (upd H1 tp (.tup cs)):=Ext.same (z0a htp)
          exact ⟨μ1,h1,d,v,ty,bb,tp,rfl,z0b,s1.same (z0a htp),RelD.mono x2 _ _ r1,q,q2,o1 μ1 _ _ x2 (s1.same (z0a htp)) rfl⟩
end
def blD:Dv→Option Bool
  | .bl b=>some b
  | _=>none
theorem z4r {G:Cfg} {μ:Nat→Addr} {n:Nat} {H:Hp}:∀ {xs:List Dv} {vs:List V} {bs:List Bool},RelDL G μ n H xs vs→optL blD xs=some bs→vs=bs.map V.bl
  | [],vs,bs,r,e=>by cases e;rw [RelDL] at r;exact r
  | x::xs,vs,bs,r,e=>by
    rw [RelDL] at r;obtain ⟨v,rr,rfl,r1,r2⟩:=r
    unfold optL at e
    cases x with
    | bl b=>
      dsimp only [blD] at e
      cases q:optL blD xs with
      | none=>rw [q] at e;cases e
      | some zs=>
        rw [q] at e;cases e
        rw [RelD] at r1;subst r1
        rw [z4r r2 q];rfl
    | _=>cases e
section
variable {X:Cx} {pins:List (Addr×Obj)} {σ:St} {H:Hp} {s:Shared}
theorem zcj (bs:List Bool):(List.range bs.length).all (fun i=>bs.getD i false)=bs.all id:=by
  rw [Bool.eq_iff_iff,List.all_eq_true,List.all_eq_true]
  constructor
  · intro h b hb
    obtain ⟨i,hi,rfl⟩:=List.mem_iff_getElem.mp hb
    simpa [List.getD,hi] using h i (List.mem_range.mpr hi)
  · intro h i hi
    have hi:=List.mem_range.mp hi
    simpa [List.getD,hi] using h _ (List.getElem_mem hi)
theorem zck (bs:List Bool):(List.range bs.length).any (fun i=>bs.getD i false)=bs.any id:=by
  rw [Bool.eq_iff_iff,List.any_eq_true,List.any_eq_true]
  constructor
  · rintro ⟨i,hi,h⟩
    have hi:=List.mem_range.mp hi
    exact ⟨bs[i],List.getElem_mem hi,by simpa [List.getD,hi] using h⟩
  · rintro ⟨b,hb,h⟩
    obtain ⟨i,hi,rfl⟩:=List.mem_iff_getElem.mp hb
    exact ⟨i,List.mem_range.mpr hi,by simpa [List.getD,hi] using h⟩
theorem zjq {bs:List Bool} {its:List Value} (rv:Vals (bs.map V.bl) its) {i:Nat} {v:Value} (e:its.toArray[i]?=some v):v=.bool (bs.getD i false):=by
  have hl:=rv.length
  rw [List.length_map] at hl
  have e':its[i]?=some v:=by simpa using e
  have hi:i<its.length:=(List.getElem?_eq_some_iff.mp e').1
  have hb:i<bs.length:=by omega
  obtain ⟨u,e2,r⟩:=rv.get (i:=i) (x:=V.bl bs[i]) (by simp [hb])
  rw [e'] at e2;cases e2
  have hg:bs.getD i false=bs[i]:=by simp [List.getD,hb]
  rw [hg]
  exact r
theorem z4s {bs:List Bool} {its:List Value} {A:Around} (rv:Vals (bs.map V.bl) its):TruthOf X.prog X.w A (fun i v=>its.toArray[i]?=some v) (fun i=>bs.getD i false):=by
  intro i v s Q E e q
  rw [zjq rv e]
  exact wpAny_truthy_bool q
theorem z5s {o:Obj} {h':Heap} {tk:Nat} (I:Inv X pins σ H s) (k:∀ b u,b∉[s.heap.objs.size]→(s.heap.push o).get? b=some u→h'.get? b=some u):Inv X pins σ H { s with heap:=h',toks:=tk }:=by
  have I1:Inv X pins σ H { s with heap:=s.heap.push o }:=I.kept (t':=s.toks) fun b u e=>Heap.get?_push_of_some _ e
  obtain ⟨f0,f1,f2,f3,f4,f5⟩:=I.fpOk (Nat.le_refl s.heap.objs.size) I.fresh
  exact I1.turned (t':=tk) (fun b u hb e=>k b u (by simpa using hb) e) f0 f1 f3 f4 f5
theorem zcl (hc:X.calm=true):CallR X (.builtin "all") (fun xs H Q=>∃ (p:Addr) (bs:List Bool),xs=[.ref p]∧H p=some (.lst (bs.map V.bl))∧Q (.bl (bs.all id)) H):=by
  intro pins s σ H xs us Q I rv ⟨p,bs,e,hp,q⟩
  subst e
  obtain ⟨u,rfl,ru⟩:=z4e rv
  cases ru
  obtain ⟨its,rits,pl,hz⟩:=I.list (SqL.of hp)
  have hn:its.toArray.size=bs.length:=by have:=rits.length;simp at this ⊢;omega
  have ne:p≠s.heap.objs.size:=Nat.ne_of_lt (I.hok.lt hp)
  refine call_all_walk (wpAny_pyIter_list pl.isList ⟨_,_,_,_,_,_,fun i=>bs.getD i false,rfl,Walks.list (A:=X.A.in1) (show X.A.in1.handled=none from I.ok.hd hc) _ p ne its.toArray,⟨⟨_,Heap.get?_push_size _ rfl,rfl,rfl⟩,pl.isList.push _⟩,z4s rits,fun h' tk k=>?_⟩)
  rw [hn,zcj]
  exact ⟨.bl _,H,(z5s (tk:=tk) I k:Inv X pins σ H { s with heap:=h',toks:=tk }),rfl,q⟩
theorem zcm (hc:X.calm=true):CallR X (.builtin "any") (fun xs H Q=>∃ (p:Addr) (bs:List Bool),xs=[.ref p]∧H p=some (.lst (bs.map V.bl))∧Q (.bl (bs.any id)) H):=by
  intro pins s σ H xs us Q I rv ⟨p,bs,e,hp,q⟩
  subst e
  obtain ⟨u,rfl,ru⟩:=z4e rv
  cases ru
  obtain ⟨its,rits,pl,hz⟩:=I.list (SqL.of hp)
  have hn:its.toArray.size=bs.length:=by have:=rits.length;simp at this ⊢;omega
  have ne:p≠s.heap.objs.size:=Nat.ne_of_lt (I.hok.lt hp)
  refine call_any_walk (wpAny_pyIter_list pl.isList ⟨_,_,_,_,_,_,fun i=>bs.getD i false,rfl,Walks.list (A:=X.A.in1) (show X.A.in1.handled=none from I.ok.hd hc) _ p ne its.toArray,⟨⟨_,Heap.get?_push_size _ rfl,rfl,rfl⟩,pl.isList.push _⟩,z4s rits,fun h' tk k=>?_⟩)
  rw [hn,zck]
  exact ⟨.bl _,H,(z5s (tk:=tk) I k:Inv X pins σ H { s with heap:=h',toks:=tk }),rfl,q⟩
end
section
variable {X:Cx} {G:Cfg} {E:XK} {e:Expr} {ml:M (List Dv)} {x:Str} {p pos:Pos} {bid T:String}
def mL (f:List Dv→Hs→Rs Dv) (ml:M (List Dv)):M Dv:=fun ρ h=>(ml ρ h).bind f
def LstD (G:Cfg) (r:List V→Hp→VK→Prop) (f:List Dv→Hs→Rs Dv):Prop:=∀ (E:XK) (μ:Nat→Addr) (h:Hs) (H:Hp) (xs:List Dv) (a:Addr) (vs:List V) (Q:VK),Sim G μ h H→H a=some (.lst vs)→RelDL G μ h.length H xs vs→Out G E μ h.length H (f xs h) (RelD G) Q→r [.ref a] H Q
theorem zmq {r:List V→Hp→VK→Prop} {f:List Dv→Hs→Rs Dv} (hd:LstD G r f) {σ:St} {H:Hp} {Q:VK} (t:tOf G E (mL f ml) σ H Q):tCB r (zm3 (tlOf G E ml) tNil) σ H Q:=by
  obtain ⟨μ,ρ,h,rs,s,o⟩:=t
  refine ⟨μ,ρ,h,rs,s,(o.bind (R1:=RL G)).mono fun v H1 ⟨μ1,xs,h1,x1,s1,⟨a,vs,ev,ea,_,r1⟩,o1⟩=>?_⟩
  subst ev
  exact hd E μ1 h1 H1 xs a vs Q s1 ea r1 o1
theorem zi2 {r:List V→Hp→VK→Prop} {f:List Dv→Hs→Rs Dv} (hc:CallR X (.builtin bid) r) (hd:LstD G r f) (hg:Gl X x) (hm:X.mg x=none) (hv:bootBuiltins x=some (.builtin bid)) (ha:SndL X G E e ml) (hn:x ≠ "__name__" := by decide) (hdb:(x==("__debug__" : Str))=false:=by decide)
    (he:starEach [e] X.env=[(false,eval e X.env)]:=by rfl):Snd X G E (.Call (.Name x p) [e] [] pos) (mL f ml):=fun hK=>
  PE.imp (z35 hc hg hm hv (z17 (ha hK) z27 he) hn hdb he rfl) fun _ _ _ t=>zmq hd t
theorem zjr {r:List V→Hp→VK→Prop} {f:List Dv→Hs→Rs Dv} (hc:CallR X (.type T) r) (hd:LstD G r f) (hg:Gl X x) (hm:X.mg x=none) (hv:bootBuiltins x=some (.type T)) (ha:SndL X G E e ml) (hn:x ≠ "__name__" := by decide) (hdb:(x==("__debug__" : Str))=false:=by decide)
    (he:starEach [e] X.env=[(false,eval e X.env)]:=by rfl):Snd X G E (.Call (.Name x p) [e] [] pos) (mL f ml):=fun hK=>
  PE.imp (z2o hc hg hm hv (z17 (ha hK) z27 he) hn hdb he rfl) fun _ _ _ t=>zmq hd t
theorem zp3:bootBuiltins "all" = some (.builtin "all"):=by decide +kernel
theorem zp4:bootBuiltins "any" = some (.builtin "any"):=by decide +kernel
def allF (xs:List Dv) (h:Hs):Rs Dv:=match optL blD xs with
  | some bs=>.ok (.bl (bs.all id)) h
  | none=>.bad
def anyF (xs:List Dv) (h:Hs):Rs Dv:=match optL blD xs with
  | some bs=>.ok (.bl (bs.any id)) h
  | none=>.bad
theorem z4t (hc:X.calm=true) (hg:Gl X "all") (hm:X.mg "all" = none) (ha:SndL X G E e ml) (he:starEach [e] X.env=[(false,eval e X.env)]:=by rfl):Snd X G E (.Call (.Name "all" p) [e] [] pos) (mL allF ml):=
  zi2 (zcl hc) (fun E μ h H xs a vs Q s ea r o=>by
    unfold allF at o
    cases q:optL blD xs with
    | none=>rw [q] at o;exact o.elim
    | some bs=>rw [q] at o;exact ⟨a,bs,rfl,by rw [ea,z4r r q],o.val s rfl⟩) hg hm zp3 ha (by decide) (by decide) he
theorem zjs (hc:X.calm=true) (hg:Gl X "any") (hm:X.mg "any" = none) (ha:SndL X G E e ml) (he:starEach [e] X.env=[(false,eval e X.env)]:=by rfl):Snd X G E (.Call (.Name "any" p) [e] [] pos) (mL anyF ml):=
  zi2 (zcm hc) (fun E μ h H xs a vs Q s ea r o=>by
    unfold anyF at o
    cases q:optL blD xs with
    | none=>rw [q] at o;exact o.elim
    | some bs=>rw [q] at o;exact ⟨a,bs,rfl,by rw [ea,z4r r q],o.val s rfl⟩) hg hm zp4 ha (by decide) (by decide) he
def tupF (xs:List Dv) (h:Hs):Rs Dv:=.ok (.tup xs) h
theorem zfr (hg:Gl X "tuple") (hm:X.mg "tuple" = none) (ha:SndL X G E e ml) (he:starEach [e] X.env=[(false,eval e X.env)]:=by rfl):Snd X G E (.Call (.Name "tuple" p) [e] [] pos) (mL tupF ml):=
  zjr z36 (fun E μ h H xs a vs Q s ea r o=>⟨a,vs,rfl,.inl ⟨SqL.of ea,fun l hl=>o μ _ _ (Ext.same (z0a hl)) (s.same (z0a hl)) ⟨l,vs,rfl,z0b,RelDL.mono (Ext.same (z0a hl)) _ _ r⟩⟩⟩) hg hm z6g ha (by decide) (by decide) he
end
section
variable {X:Cx} {G:Cfg} {E:XK} {o e i:Expr} {mo me mi:M Dv} {ml:M (List Dv)} {pos apos cpos:Pos}
theorem tyL {H:Hp} {a:Addr} {vs:List V} (e:H a=some (.lst vs)):tyV X.K "list" (.ref a) H:=.inl ⟨rfl,vs,SqL.of e⟩
def appD (o d:Dv) (h:Hs):Rs Dv:=match o with
  | .ref j=>match getL h j with
    | some xs=>if xs.length<1000000 then .ok .non (h.set j (.lst (xs++[d]))) else .bad
    | none=>.bad
  | _=>.bad
def isL (o:Dv) (h:Hs):Bool:=match o with
  | .ref j=>(getL h j).isSome
  | _=>false
def mApp (mo me:M Dv):M Dv:=fun ρ h=>(mo ρ h).bind fun x h1=>if isL x h1=true then (me ρ h1).bind fun d h2=>appD x d h2 else .bad
theorem z9n {μ:Nat→Addr} {h:Hs} {H:Hp} {x:Dv} {v:V} (s:Sim G μ h H) (r:RelD G μ h.length H x v) (e:isL x h=true):tyV X.K "list" v H:=by
  cases x with
  | ref j=>
    obtain ⟨xs,q⟩:=Option.isSome_iff_exists.mp (show (getL h j).isSome=true from e)
    obtain ⟨vs,ea,_⟩:=s.ob j _ (z0e q)
    obtain ⟨_,rfl⟩:=r
    exact tyL ea
  | _=>cases e
theorem zcn {y:Str} {np:Pos} (ho:Snd X G E (.Name y np) mo) (he:Snd X G E e me) (hs:starEach [e] X.env=[(false,eval e X.env)]:=by rfl) (hl:(apos.endLine==cpos.line)=true:=by rfl):Snd X G E (.Call (.Attribute (.Name y np) "append" apos) [e] [] cpos) (mApp mo me):=fun hK=>
  PE.imp (zf5 PySem.F.plainAttrs_list PySem.F.slot_list_append PySem.F.type_list_append zbv (ho hK) (z17 (he hK) z27 hs) rfl (by rw [hs];rfl) hl hs rfl) fun σ H Q ⟨μ,ρ,h,rs,s,oo⟩=>z0m rs s oo fun μ1 x h1 vx H1 x1 rs1 s1 r1 o1=>by
    split at o1
    · rename_i hl
      refine ⟨z9n s1 r1 hl,z0m rs1 s1 o1 fun μ2 d h2 vd H2 x2 rs2 s2 r2 o2=>?_⟩
      cases x with
      | ref j=>
        dsimp only [appD] at o2
        cases q:getL h2 j with
        | none=>rw [q] at o2;exact o2.elim
        | some xs=>
          rw [q] at o2
          dsimp only at o2
          split at o2
          · rename_i hz
            obtain ⟨vs,ea,ra⟩:=s2.ob j _ (z0e q)
            obtain ⟨_,rfl⟩:=RelD.mono x2 _ _ r1
            obtain ⟨x3,s3⟩:=s2.write (z0e q) (ra.append (RelDL.cons r2 RelDL.nil))
            exact ⟨_,vs,vd,rfl,rfl,ea,by rw [ra.length];exact Nat.lt_of_lt_of_le hz (by decide),o2 μ2 _ _ x3 s3 rfl⟩
          · exact o2.elim
      | _=>exact o2.elim
    · exact o1.elim
end
section
variable {X:Cx} {G:Cfg} {E:XK} {e i:Expr} {mo me mi:M Dv} {ml:M (List Dv)} {pos apos cpos np:Pos} {y:Str}
def extD (o:Dv) (ys:List Dv) (h:Hs):Rs Dv:=match o with
  | .ref j=>match getL h j with
    | some xs=>lim (xs.length+ys.length) (.ok .non (h.set j (.lst (xs++ys))))
    | none=>.bad
  | _=>.bad
def mExt (mo:M Dv) (ml:M (List Dv)):M Dv:=fun ρ h=>(mo ρ h).bind fun x h1=>if isL x h1=true then (ml ρ h1).bind fun ys h2=>extD x ys h2 else .bad
theorem zjt (ho:Snd X G E (.Name y np) mo) (he:SndL X G E e ml) (hs:starEach [e] X.env=[(false,eval e X.env)]:=by rfl) (hl:(apos.endLine==cpos.line)=true:=by rfl):Snd X G E (.Call (.Attribute (.Name y np) "extend" apos) [e] [] cpos) (mExt mo ml):=fun hK=>
  PE.imp (zf5 PySem.F.plainAttrs_list PySem.F.slot_list_extend PySem.F.type_list_extend zbw (ho hK) (z17 (he hK) z27 hs) rfl (by rw [hs];rfl) hl hs rfl) fun σ H Q ⟨μ,ρ,h,rs,s,oo⟩=>z0m rs s oo fun μ1 x h1 vx H1 x1 rs1 s1 r1 o1=>by
    split at o1
    · rename_i hl
      refine ⟨z9n s1 r1 hl,μ1,ρ,h1,rs1,s1,(o1.bind (R1:=RL G)).mono fun v H2 ⟨μ2,ys,h2,x2,s2,⟨b,ws,ev,eb,nb,rb⟩,o2⟩=>?_⟩
      subst ev
      cases x with
      | ref j=>
        dsimp only [extD] at o2
        cases q:getL h2 j with
        | none=>rw [q] at o2;exact o2.elim
        | some xs=>
          rw [q] at o2
          dsimp only at o2
          unfold lim at o2
          split at o2
          · rename_i hz
            obtain ⟨vs,ea,ra⟩:=s2.ob j _ (z0e q)
            obtain ⟨_,rfl⟩:=RelD.mono x2 _ _ r1
            obtain ⟨x3,s3⟩:=s2.write (z0e q) (ra.append rb)
            exact ⟨_,b,vs,ws,rfl,rfl,ea,eb,by rw [ra.length,rb.length];exact z3b hz,o2 μ2 _ _ x3 s3 rfl⟩
          · exact o2.elim
      | _=>exact o2.elim
    · exact o1.elim
def setD (o i d:Dv) (h:Hs):Option Hs:=match o,i with
  | .ref j,.int k=>match getL h j with
    | some xs=>match ixN xs.length k with
      | some n=>some (h.set j (.lst (xs.set n d)))
      | none=>none
    | none=>none
  | _,_=>none
def z7k (mo mi me:M Dv):MS:=fun ρ h=>(me ρ h).thenS fun d h1=>(mo ρ h1).thenS fun o h2=>(mi ρ h2).thenS fun i h3=>match setD o i d h3 with
  | some h4=>.nx ρ h4
  | none=>.bad
theorem z9o {o:Expr} {spos:Pos} (ho:Snd X G E o mo) (hi:Snd X G E i mi) (he:Snd X G E e me)
    (ha:∀ v,assign (.Subscript o i spos) X.env v=(do
      let ov ← holding [v] (eval o X.env)
      let iv ← holding [v,ov] (eval i X.env)
      standAt spos
      holding [v,ov,iv] (setItem ov iv v)
      release [v,ov,iv] []):=by intro _;rfl)
    (hs:swapsWithSole [.Subscript o i spos] e pos.line X.env=pure false:=by rfl) (hw:swappedStores [.Subscript o i spos] e X.env=pure none:=by rfl)
    (h1:(assignEach [.Subscript o i spos] X.env).map (·.2)=[assign (.Subscript o i spos) X.env]:=by rfl):SndS X G E (.Assign [.Subscript o i spos] e pos) (z7k mo mi me):=fun hK=>
  PS.imp (zhk (he hK) (zlr (ho hK) (hi hK) zf4 ha) hs hw h1) fun D σ H ⟨μ,ρ,h,rs,s,oo⟩=>z1o rs s oo fun μ1 d h1 v H1 x1 rs1 s1 r1 o1=>z1o rs1 s1 o1 fun μ2 ob h2 vo H2 x2 rs2 s2 r2 o2=>z1o rs2 s2 o2 fun μ3 ix h3 vi H3 x3 rs3 s3 r3 o3=>by
    cases ob with
    | ref j=>
      cases ix with
      | int k=>
        dsimp only [setD] at o3
        cases q:getL h3 j with
        | none=>rw [q] at o3;exact o3.elim
        | some xs=>
          rw [q] at o3
          dsimp only at o3
          cases q2:ixN xs.length k with
          | none=>rw [q2] at o3;exact o3.elim
          | some n=>
            rw [q2] at o3
            obtain ⟨vs,ea,ra⟩:=s3.ob j _ (z0e q)
            obtain ⟨_,rfl⟩:=RelD.mono x3 _ _ r2
            rw [RelD] at r3;subst r3
            obtain ⟨x4,s4⟩:=s3.write (z0e q) (RelDL.set (RelD.mono (x2.trans x3) _ _ r1) n ra)
            exact ⟨_,vs,k,n,rfl,rfl,ea,by rw [ra.length];exact q2,o3 μ3 _ σ x4 s4 (rs3.mono x4)⟩
      | _=>exact o3.elim
    | _=>cases ix <;> exact o3.elim
end
section
variable {prog:Program} {w:World} {A:Around} {E:Value→Shared→Prop} {s:Shared}
theorem zfs {it t:Addr} {i:Nat} {items:Array Value} {x:Value} {Q:Value→Shared→Prop} (hit:s.heap.IsTupleIter it t i) (ht:s.heap.IsTuple t items) (hx:items[i]?=some x)
    (k:∀ h',h'.IsTupleIter it t (i+1)→Heap.SameBut it s.heap h'→Q x { s with heap:=h' }):wpAny (model prog w) A (Builtin.SmallTypes.nextOf (.ref it)) Q E s:=by
  obtain ⟨o,ho,hc,hd⟩:=id hit
  obtain ⟨ol,hol,hcl,nl,hdl⟩:=id ht
  refine wpAny_bind (wpAny_callSpecial?_slot (name:=Str.ofString "__next__") hit.typeIs F.slot_tuple_iterator_next (wpAny_call_entry F.slot_tuple_iterator_next hit.typeIs F.entry_tuple_iterator_next ?_ (F.args_tuple_iterator_next_1 _)))
  have q0:∀ {Q':Value→Shared→Prop} {E':Value→Shared→Prop} {B:Around},Q' (.ref t) s→wpAny (model prog w) B (field (.ref it) 0) Q' E' s:=fun q=>wpAny_field ho hd (x:=.ref t) rfl q
  have q1:∀ {Q':Value→Shared→Prop} {E':Value→Shared→Prop} {B:Around},Q' (.int i 0) s→wpAny (model prog w) B (field (.ref it) 1) Q' E' s:=fun q=>wpAny_field ho hd (x:=.int i 0) rfl q
  refine wpAny_bind (wpAny_pure (wpAny_bind (q0 ?_)))
  dsimp only
  rw [if_neg (by simp)]
  refine wpAny_bind (q1 (wpAny_bind (wpAny_seqItems hol hdl ?_)))
  rw [show ((i:Int)).toNat=i from Int.toNat_natCast i]
  dsimp only
  rw [hx]
  refine wpAny_bind (wpAny_setField ho hd (by simp) (wpAny_pure ⟨x,rfl,wpAny_pure (k _ ⟨_,Heap.get?_update_self _ ho (Obj.isFreed_of_fields (Obj.data_mapFields hd _)), ?_, ?_⟩ (Heap.SameBut.update ..))⟩))
  · rw [Obj.cls_mapFields];exact hc
  · rw [Obj.data_mapFields hd];simp [rawInt]
end
section
variable {prog:Program} {w:World} {A:Around} {E:Value→Shared→Prop} {s:Shared}
theorem zb2 {α:Type} {Q:α→Shared→Prop} (hh:A.handled=none) (k:∀ h' e,(∀ b o,s.heap.get? b=some o→h'.get? b=some o)→(∃ o,h'.get? e=some o∧o.cls=.type "StopIteration")→E (.ref e) { s with heap:=h' }):
    wpAny (model prog w) A (Builtin.SmallTypes.stopIteration:Sem α) Q E s:=by
  have e0:firstArgMember (.type "StopIteration") []=pure Value.none:=by
    show (pure (if _ then Value.none else Value.none):Sem Value)=_
    rw [ite_self]
  unfold Builtin.SmallTypes.stopIteration newExc newTuple
  refine wpAny_bind (wpAny_bind (wpAny_newObj_type (wpAny_bind (wpAny_of_eq e0 (wpAny_newObj_type (wpAny_raiseNew_none hh (k _ _ (fun b o q=>Heap.get?_push_of_some _ (Heap.get?_push_of_some _ q)) ⟨_,Heap.get?_push_size _ rfl,rfl⟩)) (by size_fits)))) (by size_fits)))
theorem zft {it t:Addr} {i:Nat} {items:Array Value} {Q:Value→Shared→Prop} (hh:A.handled=none) (hit:s.heap.IsTupleIter it t i) (ht:s.heap.IsTuple t items) (hx:items[i]?=none)
    (k:∀ h' e,Heap.ExtBut it s.heap h'→(∃ o,h'.get? e=some o∧o.cls=.type "StopIteration")→E (.ref e) { s with heap:=h' }):wpAny (model prog w) A (Builtin.SmallTypes.nextOf (.ref it)) Q E s:=by
  obtain ⟨o,ho,hc,hd⟩:=id hit
  obtain ⟨ol,hol,hcl,nl,hdl⟩:=id ht
  refine wpAny_bind (wpAny_callSpecial?_slot (name:=Str.ofString "__next__") hit.typeIs F.slot_tuple_iterator_next (wpAny_call_entry F.slot_tuple_iterator_next hit.typeIs F.entry_tuple_iterator_next ?_ (F.args_tuple_iterator_next_1 _)))
  have q0:∀ {Q':Value→Shared→Prop} {E':Value→Shared→Prop} {B:Around},Q' (.ref t) s→wpAny (model prog w) B (field (.ref it) 0) Q' E' s:=fun q=>wpAny_field ho hd (x:=.ref t) rfl q
  have q1:∀ {Q':Value→Shared→Prop} {E':Value→Shared→Prop} {B:Around},Q' (.int i 0) s→wpAny (model prog w) B (field (.ref it) 1) Q' E' s:=fun q=>wpAny_field ho hd (x:=.int i 0) rfl q
  refine wpAny_bind (wpAny_pure (wpAny_bind (q0 ?_)))
  dsimp only
  rw [if_neg (by simp)]
  refine wpAny_bind (q1 (wpAny_bind (wpAny_seqItems hol hdl ?_)))
  rw [show ((i:Int)).toNat=i from Int.toNat_natCast i]
  dsimp only
  rw [hx]
  refine wpAny_bind (wpAny_rule (wpAny_bind (wpAny_setField ho hd (by simp) (zb2 (show A.in1.handled=none from hh) fun h' e kp st=>k h' e (fun b u hb q=>kp b u ?_) st))))
  rw [Heap.get?_update_other _ _ (Ne.symm hb)]
  exact q
end
structure Draws (prog:Program) (w:World) (it src:Addr) (xs:List Value) (st:Nat→Heap→Prop):Prop where
  keep:∀ i h h',st i h→(∀ b o,b=it∨b=src→h.get? b=some o→h'.get? b=some o)→st i h'
  there:∀ i h,st i h→∃ o vs,h.get? it=some o∧o.data=.fields vs
  item:∀ (A:Around) (i:Nat) (x:Value) (s:Shared) (Q:Value→Shared→Prop) (E:Value→Shared→Prop),xs[i]?=some x→st i s.heap→
    (∀ h',st (i+1) h'→Heap.SameBut it s.heap h'→Q x { s with heap:=h' })→wpAny (model prog w) A (Builtin.SmallTypes.nextOf (.ref it)) Q E s
  done:∀ (A:Around) (i:Nat) (s:Shared) (Q:Value→Shared→Prop) (E:Value→Shared→Prop),A.handled=none→xs[i]?=none→st i s.heap→
    (∀ h' e,Heap.ExtBut it s.heap h'→(∃ o,h'.get? e=some o∧o.cls=.type "StopIteration")→E (.ref e) { s with heap:=h' })→wpAny (model prog w) A (Builtin.SmallTypes.nextOf (.ref it)) Q E s
structure Four (z TI TO i j u v:Addr):Prop where
  a:z≠TO
  b:z≠i
  c:z≠j
  d:TO≠i
  e:TO≠j
  f:i≠j
  g:TI≠z
  h:TI≠TO
  k:TI≠i
  l:TI≠j
  u1:u≠z
  u2:u≠TO
  u3:u≠i
  u4:u≠j
  v1:v≠z
  v2:v≠TO
  v3:v≠i
  v4:v≠j
theorem ne2 {b x y c:Addr} (h:b=x∨b=y) (p:x≠c) (q:y≠c):b≠c:=by
  rcases h with h | h
  · rw [h];exact p
  · rw [h];exact q
def But (z TO i j:Addr) (h h':Heap):Prop:=∀ b o,b≠z→b≠TO→b≠i→b≠j→h.get? b=some o→h'.get? b=some o
section
variable {prog:Program} {w:World} {A:Around} {E:Value→Shared→Prop} {s:Shared} {z TI TO i j u v:Addr} {xs ys:List Value} {st su:Nat→Heap→Prop}
theorem zfu {n:Nat} {x y a b:Value} {Q:Value→Shared→Prop} (F4:Four z TI TO i j u v) (P:Draws prog w i u xs st) (R:Draws prog w j v ys su) (hz:IsZip s.heap z TI TO .none) (hTI:IsPair s.heap TI (.ref i) (.ref j)) (hTO:IsPair s.heap TO a b)
    (p:st n s.heap) (r:su n s.heap) (hx:xs[n]?=some x) (hy:ys[n]?=some y)
    (k:∀ h' T,s.heap.objs.size≤T→IsZip h' z TI TO (rawInt T)→IsPair h' TI (.ref i) (.ref j)→IsPair h' TO x y→st (n+1) h'→su (n+1) h'→IsPair h' T x y→But z TO i j s.heap h'→Q (.ref T) { s with heap:=h' }):
    wpAny (model prog w) A (Builtin.«zip.__next__» ⟨[.ref z],[]⟩) (fun fin s'=>∃ v,fin=.done (.ret v)∧Q v s') E s:=by
  refine wpAny_bind (wpAny_pure (wpAny_bind (wpAny_field hz rfl (x:=.bool false) rfl (wpAny_bind (wpAny_field hz rfl (x:=.ref TI) rfl (wpAny_bind (wpAny_seqItems hTI rfl ?_)))))))
  have fr:∀ {Q':Bool→Shared→Prop} {E':Value→Shared→Prop},Q' true s→wpAny (model prog w) A (Builtin.SmallTypes.ownedTupleIsFree (.ref z)) Q' E' s:=fun q=>wpAny_bind (wpAny_field hz rfl (x:=.none) rfl (wpAny_pure q))
  refine wpAny_bind (fr ?_)
  rw [if_pos rfl]
  refine wpAny_bind (wpAny_rule (wpAny_bind (wpAny_field hz rfl (x:=.ref TO) rfl (wpAny_bind (wpAny_setField_rec hz (by simp) fun g1 z1 b1=>?_)))))
  have z1':IsZip g1 z TI TO .ellipsis:=z1
  refine wpAny_bind ?_
  show wpAny _ _ (forIn [(Value.ref i,0),(Value.ref j,1)] _ _) _ _ _
  rw [List.forIn_cons]
  refine wpAny_bind (wpAny_bind (wpAny_onRaise ?_))
  show wpAny _ _ (Builtin.SmallTypes.nextOf (.ref i) >>= _) _ _ _
  refine wpAny_bind (P.item A n x _ _ _ hx (P.keep n _ _ p fun b o hb q=>b1.extBut _ _ (ne2 hb (Ne.symm F4.b) F4.u1) q) fun g2 p2 b2=>wpAny_pure ?_)
  have t2:IsPair g2 TO a b:=b2.extBut _ _ F4.d (b1.extBut _ _ (Ne.symm F4.a) hTO)
  refine wpAny_bind (wpAny_seqItems t2 rfl (wpAny_bind (wpAny_updateSeq_pair t2 fun g3 t3 b3=>wpAny_bind (wpAny_letGo (wpAny_pure ?_)))))
  have t3':IsPair g3 TO x b:=t3
  dsimp only
  rw [List.forIn_cons]
  refine wpAny_bind (wpAny_bind (wpAny_onRaise ?_))
  show wpAny _ _ (Builtin.SmallTypes.nextOf (.ref j) >>= _) _ _ _
  have r3:su n g3:=R.keep n _ _ r fun b o hb q=>b3.extBut _ _ (ne2 hb (Ne.symm F4.e) F4.v2) (b2.extBut _ _ (ne2 hb (Ne.symm F4.f) F4.v3) (b1.extBut _ _ (ne2 hb (Ne.symm F4.c) F4.v1) q))
  refine wpAny_bind (R.item A n y _ _ _ hy r3 fun g4 r4 b4=>wpAny_pure ?_)
  have t4:IsPair g4 TO x b:=b4.extBut _ _ F4.e t3'
  refine wpAny_bind (wpAny_seqItems t4 rfl (wpAny_bind (wpAny_updateSeq_pair t4 fun g5 t5 b5=>wpAny_bind (wpAny_letGo (wpAny_pure ?_)))))
  have t5':IsPair g5 TO x y:=t5
  dsimp only
  rw [List.forIn_nil]
  refine wpAny_pure ?_
  refine wpAny_bind (wpAny_seqItems t5' rfl (wpAny_bind (wpAny_newTuple ?_)))
  have z5:IsZip g5 z TI TO .ellipsis:=b5.extBut _ _ F4.a (b4.extBut _ _ F4.c (b3.extBut _ _ F4.a (b2.extBut _ _ F4.b z1')))
  have sz:g5.objs.size=s.heap.objs.size:=by rw [b5.1,b4.1,b3.1,b2.1,b1.1]
  have all5:But z TO i j s.heap g5:=fun c o c1 c2 c3 c4 q=>b5.extBut _ _ c2 (b4.extBut _ _ c4 (b3.extBut _ _ c2 (b2.extBut _ _ c3 (b1.extBut _ _ c1 q))))
  have p5:st (n+1) g5:=P.keep _ _ _ p2 fun b o hb q=>b5.extBut _ _ (ne2 hb (Ne.symm F4.d) F4.u2) (b4.extBut _ _ (ne2 hb F4.f F4.u4) (b3.extBut _ _ (ne2 hb (Ne.symm F4.d) F4.u2) q))
  have r5:su (n+1) g5:=R.keep _ _ _ r4 fun b o hb q=>b5.extBut _ _ (ne2 hb (Ne.symm F4.e) F4.v2) q
  generalize hob:({ cls:=.type "tuple",dict:=none,data:=.seq [x,y].toArray }:Obj)=ob
  have zp:IsZip (g5.push ob) z TI TO .ellipsis:=Heap.get?_push_of_some _ z5
  refine wpAny_bind (wpAny_bind (wpAny_setField_rec zp (by simp) fun g7 z7 b7=>?_))
  have z7':IsZip g7 z TI TO (rawInt g5.objs.size):=z7
  refine wpAny_setField_rec z7' (by simp) fun g8 z8 b8=>wpAny_pure ⟨_,rfl, ?_⟩
  have up:∀ c o,c≠z→g5.get? c=some o→g8.get? c=some o:=fun c o c1 q=>b8.extBut _ _ c1 (b7.extBut _ _ c1 (Heap.get?_push_of_some _ q))
  have lz:z<g5.objs.size:=Heap.lt_size z5
  have T8:IsPair g8 g5.objs.size x y:=b8.extBut _ _ (Nat.ne_of_gt lz) (b7.extBut _ _ (Nat.ne_of_gt lz) (by rw [← hob];exact Heap.get?_push_size _ rfl))
  refine k g8 g5.objs.size (Nat.le_of_eq sz.symm) z8 (up _ _ F4.g (all5 _ _ F4.g F4.h F4.k F4.l hTI)) (up _ _ (Ne.symm F4.a) t5') (P.keep _ _ _ p5 fun b o hb q=>up _ _ (ne2 hb (Ne.symm F4.b) F4.u1) q) (R.keep _ _ _ r5 fun b o hb q=>up _ _ (ne2 hb (Ne.symm F4.c) F4.v1) q) T8 fun c o c1 c2 c3 c4 q=>up _ _ c1 (all5 c o c1 c2 c3 c4 q)
end
section
variable {prog:Program} {w:World} {A:Around} {E:Value→Shared→Prop} {s:Shared} {z TI TO i j u v:Addr} {xs ys:List Value} {st su:Nat→Heap→Prop}
theorem zfv {n:Nat} {a b:Value} {Q:PySem.Fin→Shared→Prop} (hh:A.handled=none) (F4:Four z TI TO i j u v) (P:Draws prog w i u xs st) (R:Draws prog w j v ys su) (hz:IsZip s.heap z TI TO .none) (hTI:IsPair s.heap TI (.ref i) (.ref j)) (hTO:IsPair s.heap TO a b)
    (p:st n s.heap) (r:su n s.heap) (hend:xs[n]?=none∨ys[n]?=none)
    (k:∀ h' e,But z TO i j s.heap h'→(∃ o,h'.get? e=some o∧o.cls=.type "StopIteration")→E (.ref e) { s with heap:=h' }):
    wpAny (model prog w) A (Builtin.«zip.__next__» ⟨[.ref z],[]⟩) Q E s:=by
  refine wpAny_bind (wpAny_pure (wpAny_bind (wpAny_field hz rfl (x:=.bool false) rfl (wpAny_bind (wpAny_field hz rfl (x:=.ref TI) rfl (wpAny_bind (wpAny_seqItems hTI rfl ?_)))))))
  have fr:∀ {Q':Bool→Shared→Prop} {E':Value→Shared→Prop},Q' true s→wpAny (model prog w) A (Builtin.SmallTypes.ownedTupleIsFree (.ref z)) Q' E' s:=fun q=>wpAny_bind (wpAny_field hz rfl (x:=.none) rfl (wpAny_pure q))
  refine wpAny_bind (fr ?_)
  rw [if_pos rfl]
  refine wpAny_bind (wpAny_rule (wpAny_bind (wpAny_field hz rfl (x:=.ref TO) rfl (wpAny_bind (wpAny_setField_rec hz (by simp) fun g1 z1 b1=>?_)))))
  have z1':IsZip g1 z TI TO .ellipsis:=z1
  have p1:st n g1:=P.keep n _ _ p fun b o hb q=>b1.extBut _ _ (ne2 hb (Ne.symm F4.b) F4.u1) q
  have fin:∀ (g:Heap) (e:Addr),IsZip g z TI TO .ellipsis→But z TO i j s.heap g→(∃ o,g.get? e=some o∧o.cls=.type "StopIteration")→
      wpAny (model prog w) A (setField (.ref z) 0 .none) (fun _ s'=>E (.ref e) s') E { s with heap:=g }:=fun g e zz bt ⟨o,he,hc⟩=>
    wpAny_setField_rec zz (by simp) fun g' _ b'=>k g' e (fun c u c1 c2 c3 c4 q=>b'.extBut _ _ c1 (bt c u c1 c2 c3 c4 q)) ⟨o,b'.extBut _ _ (fun q=>by subst q;rw [zz] at he;cases he;simp at hc) he,hc⟩
  refine wpAny_bind ?_
  show wpAny _ _ (forIn [(Value.ref i,0),(Value.ref j,1)] _ _) _ _ _
  rw [List.forIn_cons]
  refine wpAny_bind (wpAny_bind (wpAny_onRaise ?_))
  show wpAny _ _ (Builtin.SmallTypes.nextOf (.ref i) >>= _) _ _ _
  cases hx:xs[n]? with
  | none=>exact wpAny_bind (P.done A n _ _ _ hh hx p1 fun g2 e b2 he=>fin g2 e (b2 _ _ F4.b z1') (fun c u c1 _ c3 _ q=>b2 _ _ c3 (b1.extBut _ _ c1 q)) he)
  | some x=>
    have hy:ys[n]?=none:=by
      rcases hend with q | q
      · rw [hx] at q;cases q
      · exact q
    refine wpAny_bind (P.item A n x _ _ _ hx p1 fun g2 p2 b2=>wpAny_pure ?_)
    have t2:IsPair g2 TO a b:=b2.extBut _ _ F4.d (b1.extBut _ _ (Ne.symm F4.a) hTO)
    refine wpAny_bind (wpAny_seqItems t2 rfl (wpAny_bind (wpAny_updateSeq_pair t2 fun g3 t3 b3=>wpAny_bind (wpAny_letGo (wpAny_pure ?_)))))
    dsimp only
    rw [List.forIn_cons]
    refine wpAny_bind (wpAny_bind (wpAny_onRaise ?_))
    show wpAny _ _ (Builtin.SmallTypes.nextOf (.ref j) >>= _) _ _ _
    have r3:su n g3:=R.keep n _ _ r fun b o hb q=>b3.extBut _ _ (ne2 hb (Ne.symm F4.e) F4.v2) (b2.extBut _ _ (ne2 hb (Ne.symm F4.f) F4.v3) (b1.extBut _ _ (ne2 hb (Ne.symm F4.c) F4.v1) q))
    exact wpAny_bind (R.done A n _ _ _ hh hy r3 fun g4 e b4 he=>fin g4 e (b4 _ _ F4.c (b3.extBut _ _ F4.a (b2.extBut _ _ F4.b z1'))) (fun c u c1 c2 c3 c4 q=>b4 _ _ c4 (b3.extBut _ _ c2 (b2.extBut _ _ c3 (b1.extBut _ _ c1 q)))) he)
theorem z3e {it t:Addr} {items:Array Value} (hne:t≠it):Draws prog w it t items.toList (fun i h=>h.IsTupleIter it t i∧h.IsTuple t items) where
  keep:=fun i h h' ⟨⟨o,e,r⟩,⟨o2,e2,r2⟩⟩ k=>⟨⟨o,k _ _ (.inl rfl) e,r⟩,⟨o2,k _ _ (.inr rfl) e2,r2⟩⟩
  there:=fun i h ⟨⟨o,e,_,d⟩,_⟩=>⟨o,_,e,d⟩
  item:=fun A i x s Q E hx ⟨a,b⟩ k=>zfs a b (by simpa using hx) fun h' a' sb=>k h' ⟨a',b.extBut sb.extBut hne⟩ sb
  done:=fun A i s Q E hh hx ⟨a,b⟩ k=>zft hh a b (by simpa using hx) k
end
def Itz (K:PySem.W.Frag) (t u:Addr):It:=
  ⟨fun i H=>∃ vs ws v w,SqT K H t vs∧SqT K H u ws∧vs[i]?=some v∧ws[i]?=some w,
   fun i H x H'=>∃ p v w,x=.ref p∧H p=none∧H'=upd H p (.tup [v,w])∧(∀ vs,SqT K H t vs→vs[i]?=some v)∧∀ ws,SqT K H u ws→ws[i]?=some w,
   fun i H=>∃ vs ws,SqT K H t vs∧SqT K H u ws∧(vs.length≤i∨ws.length≤i)⟩
structure ZipAt (z TI TO i j t u:Addr) (n:Nat) (h:Heap):Prop where
  zp:IsZip h z TI TO .none
  ti:IsPair h TI (.ref i) (.ref j)
  to:∃ a b,IsPair h TO a b
  i1:h.IsTupleIter i t n
  i2:h.IsTupleIter j u n
section
variable {X:Cx} {pins:List (Addr×Obj)} {σ:St} {H:Hp} {s:Shared}
theorem Inv.turns {h':Heap} {ch:List Addr} {T:Addr} {vs:List V} {its:List Value} (I:Inv X pins σ H s) (hch:∀ b∈ch,FpOk X pins H b) (k:∀ b o,b∉ch→s.heap.get? b=some o→h'.get? b=some o) (there:∀ b∈ch,∃ o,h'.get? b=some o)
    (hT:s.heap.objs.size≤T) (hv:Vals vs its) (hl:vs.length≤sizeLine) (tp:IsTupX h' T its.toArray):Inv X pins σ (upd H T (.tup vs)) { s with heap:=h' }:=by
  have nT:H T=none:=I.hok.fresh hT
  have nch:∀ b o,H b=some o→b∉ch:=fun b o q z=>by rw [(hch b z).1] at q;cases q
  have un:Un (frs X.stack) ch H (upd H T (.tup vs)) s.heap h':=
    ⟨fun b o q _ _ hb=>k b o hb q,fun b o q _ _ hb=>⟨o.slots,k b o hb q⟩,fun b o q n _=>by rw [z0d (Nat.ne_of_lt (Nat.lt_of_lt_of_le (Heap.lt_size q) hT))];exact n,
      fun b o q hb=>⟨o,k b o hb q⟩,fun b xs q=>z0a nT b _ q,fun b o u q=>z0a nT b _ q,fun b ps q=>⟨#[],by rw [z0a nT b _ q];simp⟩⟩
  have ok:HOk X.prog X.w (upd H T (.tup vs)) h':=fun b o q=>by
    by_cases hb:b=T
    · subst hb;rw [z0b] at q;cases q;exact ⟨hl,its,hv,tp⟩
    · rw [z0d hb] at q
      refine (I.hok b o q).stay (fun c v hc z=>k c v ?_ z) (fun c z=>z0a nT c _ z) fun c xs z=>z0a nT c _ z
      rcases hc with rfl | hc
      · exact nch c o q
      · exact nch c _ hc
  exact I.call (g':=s.gens) (d':=s.drawn) (t':=s.toks) un ok I.bare fun b hb=>let ⟨_,f1,_,f3,f4,f5⟩:=hch b hb;⟨f3,f1,f4,f5⟩
theorem Inv.turns0 {h':Heap} {ch:List Addr} (I:Inv X pins σ H s) (hch:∀ b∈ch,FpOk X pins H b) (k:∀ b o,b∉ch→s.heap.get? b=some o→h'.get? b=some o):Inv X pins σ H { s with heap:=h' }:=by
  have nch:∀ b o,H b=some o→b∉ch:=fun b o q z=>by rw [(hch b z).1] at q;cases q
  refine I.call (g':=s.gens) (d':=s.drawn) (t':=s.toks) (ch:=ch) ⟨fun b o q _ _ hb=>k b o hb q,fun b o q _ _ hb=>⟨o.slots,k b o hb q⟩,fun _ _ _ n _=>n,fun b o q hb=>⟨o,k b o hb q⟩,fun _ _ q=>q,fun _ _ _ q=>q,fun b ps q=>⟨#[],by rw [q];simp⟩⟩ (fun b o q=>?_) I.bare fun b hb=>let ⟨_,f1,_,f3,f4,f5⟩:=hch b hb;⟨f3,f1,f4,f5⟩
  refine (I.hok b o q).stay (fun c v hc z=>k c v ?_ z) (fun _ z=>z) fun _ _ z=>z
  rcases hc with rfl | hc
  · exact nch c o q
  · exact nch c _ hc
end
theorem zfw {P:Program} {w:World} {K:PySem.W.Frag} {elts:List Expr} {kk:Nat} {tp:Pos} {z TI TO i j t u:Addr} (F4:Four z TI TO i j t u) (hti:t≠i) (huj:u≠j):
    Turn P w K (.Tuple elts kk tp) (Itz K t u) [z,TI,TO,i,j] z (ZipAt z TI TO i j t u) where
  mem:=by simp
  obj:=fun n h st b hb=>by
    obtain ⟨zp,ti,⟨a,b',to⟩,⟨o1,e1,_,d1⟩,⟨o2,e2,_,d2⟩⟩:=st
    simp at hb
    rcases hb with rfl | rfl | rfl | rfl | rfl
    · exact ⟨_,zp,fun v q=>by cases q⟩
    · exact ⟨_,ti,fun v q=>by cases q⟩
    · exact ⟨_,to,fun v q=>by cases q⟩
    · exact ⟨_,e1,fun v q=>by rw [d1] at q;cases q⟩
    · exact ⟨_,e2,fun v q=>by rw [d2] at q;cases q⟩
  keep:=fun n h h' st k=>by
    obtain ⟨zp,ti,⟨a,b',to⟩,⟨o1,e1,r1⟩,⟨o2,e2,r2⟩⟩:=st
    exact ⟨k _ (by simp) _ zp,k _ (by simp) _ ti,⟨a,b',k _ (by simp) _ to⟩,⟨o1,k _ (by simp) _ e1,r1⟩,⟨o2,k _ (by simp) _ e2,r2⟩⟩
  item:=by
    intro X hP hw hK hc n pins s σ H E I hf st hg
    subst hP hw hK
    obtain ⟨vs,ws,v,w',hq,hr,hv,hw'⟩:=hg
    obtain ⟨its,rv,p1,z1⟩:=I.tuple hq
    obtain ⟨jts,rw',p2,z2⟩:=I.tuple hr
    obtain ⟨x,hx,rx⟩:=rv.get hv
    obtain ⟨y,hy,ry⟩:=rw'.get hw'
    obtain ⟨zp,ti,⟨a,b,to⟩,i1,i2⟩:=st
    have hT:s.TypeIs (.ref z) "zip" := ⟨_,zp,rfl⟩
    unfold pyNext
    refine wpAny_bind (wpAny_attempt (wpAny_callSpecial?_slot (name:=Str.ofString "__next__") hT F.slot_zip_next (wpAny_call_entry F.slot_zip_next hT F.entry_zip_next
      (zfu F4 (z3e (items:=its.toArray) hti) (z3e (items:=jts.toArray) huj) zp ti to ⟨i1,p1⟩ ⟨i2,p2⟩ (by simpa using hx) (by simpa using hy) fun h' T hnew a1 a2 a3 a4 a5 a6 bt=>wpAny_pure ⟨_,rfl, ?_⟩) (F.args_zip_next_1 _))))
    refine wpAny_letOwnedTupleGo_zip a1 fun h2 z2' sb=>?_
    have kp:∀ b o,b∉[z,TI,TO,i,j]→s.heap.get? b=some o→h2.get? b=some o:=fun b o hb q=>by
      simp at hb
      obtain ⟨n1,n2,n3,n4,n5⟩:=hb
      exact sb.extBut _ _ n1 (bt b o n1 n3 n4 n5 q)
    have Tz:T≠z:=Nat.ne_of_gt (Nat.lt_of_lt_of_le (Heap.lt_size zp) hnew)
    have T2:IsPair h2 T x y:=sb.extBut _ _ Tz a6
    have th:∀ b∈[z,TI,TO,i,j],∃ o,h2.get? b=some o:=fun b hb=>by
      obtain ⟨⟨o1,e1,_⟩,_⟩:=a4
      obtain ⟨⟨o2,e2,_⟩,_⟩:=a5
      simp at hb
      rcases hb with rfl | rfl | rfl | rfl | rfl
      · exact ⟨_,z2'⟩
      · exact ⟨_,sb.extBut _ _ F4.g a2⟩
      · exact ⟨_,sb.extBut _ _ (Ne.symm F4.a) a3⟩
      · exact ⟨_,sb.extBut _ _ (Ne.symm F4.b) e1⟩
      · exact ⟨_,sb.extBut _ _ (Ne.symm F4.c) e2⟩
    have I2:=Inv.turns (T:=T) (vs:=[v,w']) (its:=[x,y]) I hf kp th hnew (.cons rx (.cons ry .nil)) (by show 2≤sizeLine;decide) ⟨_,T2,rfl,rfl,_,rfl⟩
    have nT:H T=none:=I.hok.fresh hnew
    refine ⟨.ref T,_,I2,rfl,⟨T,v,w',rfl,nT,rfl,fun vs' h'=>by rw [I.tuple_inj h' hq];exact hv,fun ws' h'=>by rw [I.tuple_inj h' hr];exact hw'⟩, ?_,fun b hb=>?_⟩
    · exact ⟨z2',sb.extBut _ _ F4.g a2,⟨_,_,sb.extBut _ _ (Ne.symm F4.a) a3⟩,a4.1.extBut sb.extBut (Ne.symm F4.b),a5.1.extBut sb.extBut (Ne.symm F4.c)⟩
    · obtain ⟨o,q,_⟩:∃ o,s.heap.get? b=some o∧True:=by
        obtain ⟨o1,e1,_⟩:=i1
        obtain ⟨o2,e2,_⟩:=i2
        simp at hb
        rcases hb with rfl | rfl | rfl | rfl | rfl
        · exact ⟨_,zp,trivial⟩
        · exact ⟨_,ti,trivial⟩
        · exact ⟨_,to,trivial⟩
        · exact ⟨_,e1,trivial⟩
        · exact ⟨_,e2,trivial⟩
      rw [z0d (Nat.ne_of_lt (Nat.lt_of_lt_of_le (Heap.lt_size q) hnew))]
      exact (hf b hb).1
  done:=by
    intro X hP hw hK hc n pins s σ H E I hf st hg
    subst hP hw hK
    obtain ⟨vs,ws,hq,hr,hend⟩:=hg
    obtain ⟨its,rv,p1,z1⟩:=I.tuple hq
    obtain ⟨jts,rw',p2,z2⟩:=I.tuple hr
    have l1:=rv.length
    have l2:=rw'.length
    obtain ⟨zp,ti,⟨a,b,to⟩,i1,i2⟩:=st
    have hT:s.TypeIs (.ref z) "zip" := ⟨_,zp,rfl⟩
    unfold pyNext
    refine wpAny_bind (wpAny_attempt (wpAny_callSpecial?_slot (name:=Str.ofString "__next__") hT F.slot_zip_next (wpAny_call_entry F.slot_zip_next hT F.entry_zip_next
      (zfv (show X.A.in1.handled=none from I.ok.hd hc) F4 (z3e (items:=its.toArray) hti) (z3e (items:=jts.toArray) huj) zp ti to ⟨i1,p1⟩ ⟨i2,p2⟩ (by
        rcases hend with q | q
        · exact .inl (by simp;omega)
        · exact .inr (by simp;omega)) fun h' e bt ⟨o,he,hcl⟩=>wpAny_bind (wpAny_isInstance (T := "StopIteration") (b:=true) ⟨o,he,hcl⟩ isSubtype_stop (wpAny_pure ⟨rfl, ?_⟩))) (F.args_zip_next_1 _))))
    refine Inv.turns0 I hf fun b o hb q=>?_
    simp at hb
    exact bt b o hb.1 hb.2.2.1 hb.2.2.2.1 hb.2.2.2.2 q
  self:=fun _ _ _ _ _ st h=>wpAny_pyIter_zip st.zp h
def zi3 (t u:Addr) (h:Heap) (z:Addr) (h':Heap):Prop:=∃ TI TO i j,ZipAt z TI TO i j t u 0 h'∧Four z TI TO i j t u∧(∀ b∈[z,TI,TO,i,j],h.objs.size≤b)∧∀ b o,h.get? b=some o→h'.get? b=some o
theorem z7l {h h':Heap} {o:Obj} (e:h'=h.push o) (nf:o.isFreed=false):h'.get? h.objs.size=some o:=by rw [e];exact Heap.get?_push_size _ nf
theorem zmr (n t u:Nat) (lt:t<n) (lu:u<n):Four (n+4) (n+2) (n+3) n (n+1) t u:=by
  have ne:∀ {a b:Nat},(a<b∨b<a)→a≠b:=fun h=>by omega
  exact ⟨ne (by omega),ne (by omega),ne (by omega),ne (by omega),ne (by omega),ne (by omega),ne (by omega),ne (by omega),ne (by omega),ne (by omega),ne (by omega),ne (by omega),ne (by omega),ne (by omega),ne (by omega),ne (by omega),ne (by omega),ne (by omega)⟩
theorem five {t u:Addr} {hp h1 h2 h3 h4 h5:Heap} {n:Nat} (hn:n=hp.objs.size) (lt:t<n) (lu:u<n)
    (e1:h1=hp.push { cls:=.type "tuple_iterator",data:=.fields #[.ref t,.int 0 0] }) (e2:h2=h1.push { cls:=.type "tuple_iterator",data:=.fields #[.ref u,.int 0 0] }) (e3:h3=h2.push { cls:=.type "tuple",data:=.seq #[.ref n,.ref (n+1)] })
    (e4:h4=h3.push { cls:=.type "tuple",data:=.seq #[.none,.none] }) (e5:h5=h4.push { cls:=.type "zip",data:=.fields #[.none,.bool false,.bool false,.ref (n+2),.ref (n+3)] }):zi3 t u hp (n+4) h5:=by
  have z1:h1.objs.size=n+1:=by rw [e1,Heap.size_push,hn]
  have z2:h2.objs.size=n+2:=by rw [e2,Heap.size_push,z1]
  have z3:h3.objs.size=n+3:=by rw [e3,Heap.size_push,z2]
  have z4:h4.objs.size=n+4:=by rw [e4,Heap.size_push,z3]
  have up:∀ (h:Heap) (o:Obj) (b:Addr) (q:Obj),h.get? b=some q→(h.push o).get? b=some q:=fun h o b q e=>Heap.get?_push_of_some _ e
  have g1:=z7l e1 rfl
  have g2:=z7l e2 rfl
  have g3:=z7l e3 rfl
  have g4:=z7l e4 rfl
  have g5:=z7l e5 rfl
  rw [← hn] at g1
  rw [z1] at g2
  rw [z2] at g3
  rw [z3] at g4
  rw [z4] at g5
  have u2:∀ b q,h2.get? b=some q→h5.get? b=some q:=fun b q e=>by rw [e5,e4,e3];exact up _ _ _ _ (up _ _ _ _ (up _ _ _ _ e))
  have u1:∀ b q,h1.get? b=some q→h5.get? b=some q:=fun b q e=>u2 b q (by rw [e2];exact up _ _ _ _ e)
  have u3:∀ b q,h3.get? b=some q→h5.get? b=some q:=fun b q e=>by rw [e5,e4];exact up _ _ _ _ (up _ _ _ _ e)
  have u4:∀ b q,h4.get? b=some q→h5.get? b=some q:=fun b q e=>by rw [e5];exact up _ _ _ _ e
  refine ⟨n+2,n+3,n,n+1,⟨g5,u3 _ _ g3,⟨_,_,u4 _ _ g4⟩,⟨_,u1 _ _ g1,rfl,rfl⟩,⟨_,u2 _ _ g2,rfl,rfl⟩⟩, ?_, ?_,fun b q e=>u1 b q (by rw [e1];exact up _ _ _ _ e)⟩
  · exact zmr n t u lt lu
  · intro b hb
    rw [← hn]
    simp at hb
    rcases hb with rfl | rfl | rfl | rfl | rfl
    · exact Nat.le_add_right _ _
    · exact Nat.le_add_right _ _
    · exact Nat.le_add_right _ _
    · exact Nat.le_refl _
    · exact Nat.le_add_right _ _
theorem zfx {t u:Addr} (xs ys:Array Value):Meets (Builtin.«zip.__new__» ⟨[.type "zip",.ref t,.ref u],[]⟩) (fun _ R s=>s.heap.IsTuple t xs∧s.heap.IsTuple u ys∧∀ h' z,zi3 t u s.heap z h'→R (.ok (.ret (.ref z))) { s with heap:=h' }):=
  .of_wp fun prog w A R s h=>by
    obtain ⟨ht,hu,k⟩:=h
    obtain ⟨hp,g,d,tk,os⟩:=s
    have sub:=sub_zip
    have ht':(⟨hp,g,d,tk,os⟩:Shared).heap.IsTuple t xs:=ht
    have hu':(⟨hp.push { cls:=.type "tuple_iterator",data:=.fields #[.ref t,.int 0 0] },g,d,tk,os⟩:Shared).heap.IsTuple u ys:=hu.push _
    wp_walk using wpAny_pyIter_tuple ht',wpAny_pyIter_tuple hu'
    have lt:t<hp.objs.size:=by obtain ⟨o,e,_⟩:=ht;exact Heap.lt_size e
    have lu:u<hp.objs.size:=by obtain ⟨o,e,_⟩:=hu;exact Heap.lt_size e
    simp only [Heap.size_push]
    refine ⟨_,rfl,k _ _ (five rfl lt lu rfl rfl rfl rfl ?_)⟩
    simp only [Heap.size_push]
    rfl
section
variable {X:Cx} {G:Cfg} {E:XK} {a b:Expr} {elts:List Expr} {kk:Nat} {tp p pos:Pos} {ta:TA} {ms:M (List Dv)}
def iZip (K:PySem.W.Frag) (ta:TA):TI:=fun σ H R=>ta σ H fun vs H1=>∃ t u xs ys,vs=[.ref t,.ref u]∧SqT K H1 t xs∧SqT K H1 u ys∧R (Itz K t u) H1
theorem zp5:bootBuiltins "zip" = some (.type "zip"):=by decide +kernel
theorem zms (hg:Gl X "zip") (hm:X.mg "zip" = none) (ha:PA X [a,b] ta) (hs:starEach [a,b] X.env=[(false,eval a X.env),(false,eval b X.env)]:=by rfl) (hs2:starEach [b] X.env=[(false,eval b X.env)]:=by rfl):
    PI X (.Tuple elts kk tp) (.Call (.Name "zip" p) [a,b] [] pos) (iZip X.K ta):=by
  intro pins s σ H R I h
  refine Call_ (z5h I hg hm zp5 (PyProof.Rows.callWith_type1 (thn (ha pos pins s σ H _ I h) fun us s1 ⟨vs,H1,I1,r1,q1⟩=>?_) (by rw [hs,hs2]) (by rw [hs2];rfl)))
  obtain ⟨t,u,xs,ys,e,hq,hr,q⟩:=q1
  subst e
  obtain ⟨u1,u2,rfl,e1,e2⟩:=zbp r1
  cases e1
  cases e2
  obtain ⟨its,rv,p1,_⟩:=I1.tuple hq
  obtain ⟨jts,rw',p2,_⟩:=I1.tuple hr
  refine callType_new F.called_zip (by decide) (F.typeCall_zip_2 _ _) (F.newCall_zip_2 _ _) (fun obj=>F.args_object_init_3 obj _ _) F.entry_zip_new (zfx its.toArray jts.toArray) ⟨p1,p2,fun h' z nz=>?_⟩
  obtain ⟨TI,TO,i,j,za,f4,fresh,kp⟩:=nz
  refine ⟨⟨_,za.zp,rfl⟩, ?_⟩
  have I2:Inv X pins σ H1 { s1 with heap:=h' }:=I1.kept (t':=s1.toks) kp
  refine wpAny_pyIter_zip za.zp ⟨z,[z,TI,TO,i,j],_,_,H1,rfl,I2,zfw f4 f4.u3 f4.v4,za,fun b hb=>I1.fpOk (fresh b hb) (I1.hok.fresh (fresh b hb)),q⟩
def srcZ (xs ys:List Dv):Src:=srcL ((xs.zip ys).map fun q=>.tup [q.1,q.2])
def zipS:List Dv→Hs→Rs Src
  | [.tup xs,.tup ys],h=>.ok (srcZ xs ys) h
  | _,_=>.bad
theorem ItOk.zip {μ:Nat→Addr} {n:Nat} {H:Hp} {t u:Addr} {vs ws:List V} {xs ys:List Dv} {K:PySem.W.Frag} (e:H t=some (.tup vs)) (e':H u=some (.tup ws)) (r:RelDL G μ n H xs vs) (r':RelDL G μ n H ys ws):ItOk G μ n H (srcZ xs ys) (Itz K t u):=by
  intro k μ2 h2 H2 x2 s2
  have f:=x2.im t (.tup vs) trivial e
  have f':=x2.im u (.tup ws) trivial e'
  have g:=RelDL.mono x2 _ _ r
  have g':=RelDL.mono x2 _ _ r'
  have hl:(srcZ xs ys).n=min xs.length ys.length:=by simp [srcZ,srcL]
  constructor
  · intro hk d hd
    have hd':((xs.zip ys).map fun q=>Dv.tup [q.1,q.2])[k]?=some d:=hd
    rw [List.getElem?_map] at hd'
    cases q:(xs.zip ys)[k]? with
    | none=>rw [q] at hd';cases hd'
    | some xy=>
      rw [q] at hd';cases hd'
      obtain ⟨qx,qy⟩:=List.getElem?_zip_eq_some.mp q
      obtain ⟨v,ev,rv⟩:=g.get qx
      obtain ⟨w',ew,rw'⟩:=g'.get qy
      refine ⟨⟨vs,ws,v,w',SqT.of f,SqT.of f',ev,ew⟩,fun x H' hy=>?_⟩
      obtain ⟨pp,v1,w1,rfl,np,rfl,a1,a2⟩:=hy
      have b1:=a1 vs (SqT.of f)
      have b2:=a2 ws (SqT.of f')
      rw [ev] at b1;rw [ew] at b2
      cases b1;cases b2
      have sm:Same H2 (upd H2 pp (.tup [v,w'])):=z0a np
      exact ⟨sm,pp,_,rfl,z0b,RelDL.cons (RelD.mono (Ext.same sm) _ _ rv) (RelDL.cons (RelD.mono (Ext.same sm) _ _ rw') RelDL.nil)⟩
  · intro hk _
    refine ⟨vs,ws,SqT.of f,SqT.of f', ?_⟩
    rw [g.length,g'.length,hk,hl]
    omega
theorem zi4 (hg:Gl X "zip") (hm:X.mg "zip" = none) (ha:SndA X G E [a,b] ms) (hs:starEach [a,b] X.env=[(false,eval a X.env),(false,eval b X.env)]:=by rfl) (hs2:starEach [b] X.env=[(false,eval b X.env)]:=by rfl):
    SndI X G E (.Tuple elts kk tp) (.Call (.Name "zip" p) [a,b] [] pos) (mas zipS ms):=fun hK=>
  PI.imp (zms hg hm (ha hK) hs hs2) fun σ H R ⟨μ,ρ,h,rs,s,o⟩=>z19 rs s o fun μ1 ds h1 vs H1 x1 rs1 s1 r1 o1=>by
    unfold zipS at o1
    split at o1
    · rename_i xs ys
      obtain ⟨v,v',rfl,rv,rv'⟩:=z4l r1
      obtain ⟨t,us,rfl,e,r⟩:=rv
      obtain ⟨u,ws,rfl,e',r'⟩:=rv'
      exact ⟨t,u,us,ws,rfl,SqT.of e,SqT.of e',o1.val s1 (ItOk.zip e e' r r')⟩
    · exact o1.elim
end
section
variable {prog:Program} {w:World} {A:Around} {E:Value→Shared→Prop} {s:Shared} {K:Frag} {e C N:Addr} {o:Obj}
theorem z8p {Q:Bool→Shared→Prop} (X:K.In s.heap) (he:s.heap.get? e=some o) (hc:o.cls=.ref C) (hn:subIn K (.ref N) (.type "BaseException")=some true) (ht:subIn K (.type "type") (.type "tuple")=some false) (hk:kitCls K (.ref N) (.ref N)=some true) {b:Bool} (hs:subIn K (.ref C) (.ref N)=some b) (q:Q b s):
    wpAny (model prog w) A (excMatches (.ref e) (.ref N)) Q E s:=by
  have L1:=(kit_cls (M:=model prog w) X hk).1
  have L2:=(kit_cls (M:=model prog w) X hk).2.1
  have L3:=looks_subIn (M:=model prog w) X hn
  have L4:=looks_subIn (M:=model prog w) X hs
  have L5:=looks_subIn (M:=model prog w) X ht
  obtain ⟨hp,g,d,tk,os⟩:=s
  unfold excMatches
  repeat (any_goals (first | assumption | (with_reducible refine wpAny_loadPart_at he ?_;rw [hc]) | with_reducible refine L1.at ?_ | with_reducible refine L2.at ?_ | with_reducible refine L3.at ?_ | with_reducible refine L4.at ?_ | with_reducible refine L5.at ?_ | wp_step))
  cases b
  all_goals (repeat (any_goals (first | assumption | wp_step)))
end
def z3r (P:Program) (w:World) (K:PySem.W.Frag) (mg:Str→Option Value) (base:Heap) (N:List Str) (qual:Str) (scope:Scope) (f:Addr) (cd:Value) (cl:List (Str×Addr)) (A:Around) (outer:List Env) (s:Shared) (H:Hp) (E:XK):Cx where
  prog:=P
  w:=w
  K:=K
  mg:=mg
  base:=base
  A:=A.deeper (PySem.W.envX qual scope s.heap.objs.size f cd cl)
  N:=N
  s₀:=s
  H₀:=H
  env:=PySem.W.envX qual scope s.heap.objs.size f cd cl
  outer:=outer
  stack:=PySem.W.envX qual scope s.heap.objs.size f cd cl::outer
  ex:=[]
  calm:=true
  fn:=fun _=>false
  pn:=[]
  xe:=fun e s'=>wpAny (model P w) (A.deeper (PySem.W.envX qual scope s.heap.objs.size f cd cl)) (leaving (PySem.W.envX qual scope s.heap.objs.size f cd cl) e) (fun _ s''=>CXm P w base outer H s E e s'') (fun e' s''=>CXm P w base outer H s E e' s'') s'
structure LamScope (N:List Str) (sc:Scope):Prop where
  kind:sc.kind=.function
  co:sc.isCoroutine=false
  gen:sc.isGenerator=false
  nocell:∀ x∈sc.names,x.2≠.cell
  fr:∀ x∈N,sc.names.lookup x=some .free
  all:∀ x∈sc.names,x.2=.free→x.1∈N
structure LamAt (G:Cfg) (base:Heap) (H:Hp) (μ:Nat→Addr) (n:Nat) (N:List Str) (params:Arguments) (body:Expr) (scope:Scope) (f c':Addr) (cl:List (Str×Addr)) (ds:List Dv):Prop where
  ob:∃ pm ctv,H f=some (.frz (PySem.W.kla_obj "<lambda>" G.lq params body scope cl pm c' ctv) (.own 0))
  cd:∃ oc,H c'=some (.frz oc (.own 0))∧zf8 G.lq oc
  inj:∀ x y c,cl.lookup x=some c→cl.lookup y=some c→x=y
  len:ds.length=N.length
  at_:∀ (i:Nat) (x:Str),N[i]?=some x→∃ c,cl.lookup x=some c
  cell:∀ (x:Str) (c:Addr),cl.lookup x=some c→∃ o u,base.get? c=some o∧o.data=.cell u
  val:∀ (i:Nat) (x:Str) (c:Addr) (d:Dv),N[i]?=some x→ds[i]?=some d→cl.lookup x=some c→∃ o u v,base.get? c=some o∧o.data=.cell (some u)∧RelV v u∧RelD G μ n H d v
section
variable {P:Program} {w:World} {K:PySem.W.Frag} {mg:Str→Option Value} {base:Heap} {N:List Str} {qual:Str} {scope:Scope} {f:Addr} {cdv:Value} {cl:List (Str×Addr)} {A:Around} {outer:List Env} {s0:Shared} {H0:Hp} {E0:XK} {G:Cfg} {E:XK} {k:Nat}
theorem zfy (hr:Room k (A.deeper (PySem.W.envX qual scope s0.heap.objs.size f cdv cl))) (hK:K=G.K) (hE:∀ u H',E u none H'→E0 u none H') (hF:Firm E):
    Good (z3r P w K mg base N qual scope f cdv cl A outer s0 H0 E0) G E k where
  calm:=rfl
  room:=hr
  K:=hK
  own:=PassesOwn.leaving
  pas:=by
    intro pins σ H s u s' I ⟨e,C,H',eu,os,bare,un,hok,fl,he⟩
    subst eu
    have I':=I.call' os un hok bare (fun b z=>absurd z (by simp))
    refine wpAny_bind (z6j (P:=P) (w:=w) (H:=H') (base:=base) I'.ok.frames I'.stack rfl hok I'.stkFree fl fun h'' H'' un2 hok2 fl2 sx=>?_)
    have I2:=I'.call (h':=h'') (g':=s'.gens) (d':=s'.drawn) (t':=s'.toks) un2 hok2 I'.bare (fun b z=>absurd z (by simp))
    obtain ⟨T,a0,h1,_⟩:=id fl
    obtain ⟨T2,a2,h3,_⟩:=id fl2
    have xe1:ExO C e T a0 s'.heap:=(show ObjOk P w H' s'.heap e _ from hok e _ h1).1
    have:E (.ref e) none H'':=hF e H' H'' sx ⟨C,T,a0,T2,a2,h1,⟨_,xe1⟩,h3⟩ he
    exact ⟨e,C,H'',rfl,I2.os,I2.bare,I2.base,hok2,fl2,hE _ _ this⟩
  rais:=by
    intro pins σ H s h' e C args I mx he
    refine wpAny_bind (z9l (P:=P) (w:=w) (H:=H) (base:=base) I.ok.frames I.stack rfl I.hok I.stkFree I.bk mx fun h'' H'' un2 hok2 fl2 sm=>?_)
    have I2:=I.call (h':=h'') (g':=s.gens) (d':=s.drawn) (t':=s.toks) un2 hok2 I.bare (fun b z=>absurd z (by simp))
    obtain ⟨T2,a2,h3,_⟩:=id fl2
    exact ⟨e,C,H'',rfl,I2.os,I2.bare,I2.base,hok2,fl2,hE _ _ (he H'' sm ⟨T2,a2,h3⟩)⟩
end
def exOf {α:Type}:Rs α→Sr
  | .ex c h=>.ex c h
  | _=>.bad
section
variable {P:Program} {w:World} {K:PySem.W.Frag} {mg:Str→Option Value} {base:Heap} {N:List Str} {params:Arguments} {body:Expr} {scope:Scope} {f c':Addr} {cl:List (Str×Addr)} {A:Around} {outer:List Env} {s:Shared} {H:Hp} {E:XK} {G:Cfg} {k:Nat} {μ:Nat→Addr} {h:Hs} {ds:List Dv}
theorem zju {h1:Heap} {tk:Nat} {σ:St} {E₀:XK} (S:LamScope N scope) (hd:A.handled=none) (e0:Env0 P w K mg base A outer s H) (L:LamAt G base H μ h.length N params body scope f c' cl ds)
    (hall:∀ x c,cl.lookup x=some c→x∈N)
    (hns:h1.Ns s.heap.objs.size fun _=>none) (hk1:∀ b o,s.heap.get? b=some o→h1.get? b=some o)
    (hσ:σ.length=N.length) (hv:∀ (i:Nat) (x:Str) (v:V),N[i]?=some x→σ[i]?=some (some v)→∃ c o u,cl.lookup x=some c∧base.get? c=some o∧o.data=.cell (some u)∧RelV v u):
    Inv (z3r P w K mg base N G.lq scope f (.ref c') cl A outer s H E₀) [] σ H { s with heap:=h1,toks:=tk }:=by
  have noA:∀ b:Addr,b∉(z3r P w K mg base N G.lq scope f (.ref c') cl A outer s H E₀).ex:=fun b z=>absurd (show b∈([]:List Addr) from z) (by simp)
  have kfree:∀ x,scope.names.lookup x=some .free→x∈N:=fun x e=>S.all _ (PySem.mem_of_lookup e) rfl
  refine ⟨⟨e0.mod,S.kind,rfl,rfl,Nat.le_refl _,L.inj,fun x hx=>?_,fun x c z=>(nomatch z),fun _=>hd,Around.frames_deeper e0.frames,.inr ⟨rfl,rfl⟩,fun b z=>absurd z (noA b),e0.bs,e0.bsz,fun b _ _=>noA b,fun b z=>absurd z (noA b),e0.funs,e0.frf⟩,
    rfl,e0.bare,Un.kept hk1,⟨_,hns,fun i x v h1' h2 h3=>?_⟩,fun x c e=>?_,e0.hok.fresh (Nat.le_refl _),fun x c e=>?_,fun p hp=>absurd (show p∈([]:List (Addr×Obj)) from hp) (by simp),e0.hok.kept hk1,hσ⟩
  · have hx:scope.names.lookup x=some .cell∨scope.names.lookup x=some .free:=hx
    rcases hx with hx | hx
    · exact absurd rfl (S.nocell _ (PySem.mem_of_lookup hx))
    · obtain ⟨i,hi⟩:=List.getElem?_of_mem (kfree x hx)
      exact L.at_ i x hi
  · obtain ⟨c,o,u,e1,e2,e3,r⟩:=hv i x v h1' h2
    refine ⟨u,r,.inr ⟨.inr (S.fr x (List.mem_of_getElem? h1')),c,e1,o,hk1 _ _ (e0.bs _ _ e2).1,e3⟩⟩
  · obtain ⟨o,u,e2,e3⟩:=L.cell x c e
    exact ⟨u,o,hk1 _ _ (e0.bs _ _ e2).1,e3⟩
  · obtain ⟨o,u,e2,e3⟩:=L.cell x c e
    exact (e0.bs _ _ e2).2
theorem zjv {me:M Dv} {Q:VK} (S:LamScope N scope) (hK:K=G.K) (hb:∀ (cl:List (Str×Addr)) (pm cdv ct:Value),bindArgs (PySem.W.kla_fn "<lambda>" G.lq params body scope cl pm cdv ct) ⟨[],[]⟩=pure [])
    (hbody:∀ (f:Addr) (cdv:Value) (cl:List (Str×Addr)) (A:Around) (outer:List Env) (s:Shared) (H:Hp) (E₀ E:XK),Good (z3r P w K mg base N G.lq scope f cdv cl A outer s H E₀) G E k→Snd (z3r P w K mg base N G.lq scope f cdv cl A outer s H E₀) G E body me)
    (hr:Room (k+1) A) (e0:Env0 P w K mg base A outer s H) (L:LamAt G base H μ h.length N params body scope f c' cl ds) (hall:∀ x c,cl.lookup x=some c→x∈N) (sm:Sim G μ h H) (o:Out G E μ h.length H (me (ds.map some) h) (RelD G) Q):
    codeAny (model P w) A (.call (.ref f) ⟨[],[]⟩) (CR (CXm P w base) outer P w H s Q E) s:=by
  obtain ⟨pm,ctv,ho⟩:=L.ob
  obtain ⟨oc,hc,vs,t,hcd,hq⟩:=L.cd
  have lim:s.heap.NoLimit:=e0.mod.nolimit.keeps fun b o e=>(e0.bs b o e).1
  have gc:s.heap.get? c'=some oc:=(e0.hok c' _ hc).1
  refine PySem.W.kla_callFunE hr.depth (e0.hok f _ ho).1 rfl S.co S.gen rfl ⟨c',oc,vs,t,rfl,gc,hcd,hq⟩ ?_
  rw [hb]
  refine wpAny_pure (wpAny_newFunctionEnv S.nocell (fun x hx=>absurd hx (by simp)) (fun h₁ hns hsb=>⟨lim.fresh _ hsb, ?_⟩) S.kind)
  show codeAny _ _ (.expr body (PySem.W.envX G.lq scope s.heap.objs.size f (.ref c') cl)) _ _
  have hk₁:∀ b o,s.heap.get? b=some o→h₁.get? b=some o:=fun b o e=>hsb.extBut b o (Nat.ne_of_lt (Heap.lt_size e)) (Heap.get?_push_of_some _ e)
  have hvs:∀ (i:Nat),i<N.length→∃ v:V,∀ d,ds[i]?=some d→RelD G μ h.length H d v∧∀ x,N[i]?=some x→∃ c o u,cl.lookup x=some c∧base.get? c=some o∧o.data=.cell (some u)∧RelV v u:=fun i hi=>by
    obtain ⟨x,hx⟩:∃ x,N[i]?=some x:=⟨_,List.getElem?_eq_getElem hi⟩
    obtain ⟨d,hd⟩:∃ d,ds[i]?=some d:=⟨_,List.getElem?_eq_getElem (by rw [L.len];exact hi)⟩
    obtain ⟨c,ec⟩:=L.at_ i x hx
    obtain ⟨oo,u,v,e1,e2,r1,r2⟩:=L.val i x c d hx hd ec
    refine ⟨v,fun d' hd'=>?_⟩
    rw [hd] at hd';cases hd'
    refine ⟨r2,fun x' hx'=>?_⟩
    rw [hx] at hx';cases hx'
    exact ⟨c,oo,u,ec,e1,e2,r1⟩
  have hch:∃ vs:List V,vs.length=N.length∧∀ (i:Nat) (v:V),vs[i]?=some v→∀ d,ds[i]?=some d→RelD G μ h.length H d v∧∀ x,N[i]?=some x→∃ c o u,cl.lookup x=some c∧base.get? c=some o∧o.data=.cell (some u)∧RelV v u:=by
    have:∀ m,m≤N.length→∃ vs:List V,vs.length=m∧∀ (i:Nat) (v:V),vs[i]?=some v→∀ d,ds[i]?=some d→RelD G μ h.length H d v∧∀ x,N[i]?=some x→∃ c o u,cl.lookup x=some c∧base.get? c=some o∧o.data=.cell (some u)∧RelV v u:=by
      intro m
      induction m with
      | zero=>exact fun _=>⟨[],rfl,fun i v e=>by simp at e⟩
      | succ m ih=>
        intro hm
        obtain ⟨vs,hl,hv⟩:=ih (by omega)
        obtain ⟨v,hv'⟩:=hvs m (by omega)
        refine ⟨vs++[v],by simp [hl],fun i v' e d hd=>?_⟩
        by_cases hi:i<vs.length
        · rw [List.getElem?_append_left hi] at e
          exact hv i v' e d hd
        · rw [List.getElem?_append_right (by omega)] at e
          have:i=m:=by
            have:=(List.getElem?_eq_some_iff.mp e).1
            simp at this;omega
          subst this
          simp [hl] at e;subst e
          exact hv' d hd
    exact this _ (Nat.le_refl _)
  obtain ⟨vs',hl,hv⟩:=hch
  have I:Inv (z3r P w K mg base N G.lq scope f (.ref c') cl A outer s H E) [] (vs'.map some) H { s with heap:=h₁,toks:=s.toks+([]:List (Str×Value)).length }:=by
    refine zju S hr.hd e0 L hall hns hk₁ (by simp [hl]) fun i x v h1 h2=>?_
    have h3:vs'[i]?=some v:=by
      rw [List.getElem?_map] at h2
      cases q:vs'[i]? with
      | none=>rw [q] at h2;cases h2
      | some a=>rw [q] at h2;cases h2;rfl
    obtain ⟨d,hd⟩:∃ d,ds[i]?=some d:=⟨_,List.getElem?_eq_getElem (by rw [L.len];exact (List.getElem?_eq_some_iff.mp h1).1)⟩
    exact (hv i v h3 d hd).2 x h1
  have rs:RelS G μ h.length H (ds.map some) (vs'.map some):=⟨by simp [hl,L.len],fun i d e=>by
    have h3:ds[i]?=some d:=by
      rw [List.getElem?_map] at e
      cases q:ds[i]? with
      | none=>rw [q] at e;cases e
      | some a=>rw [q] at e;cases e;rfl
    have hi:i<vs'.length:=by rw [hl,← L.len];exact (List.getElem?_eq_some_iff.mp h3).1
    exact ⟨vs'[i],by rw [List.getElem?_map,List.getElem?_eq_getElem hi];rfl,(hv i _ (List.getElem?_eq_getElem hi) d h3).1⟩⟩
  have gd:Good (z3r P w K mg base N G.lq scope f (.ref c') cl A outer s H E) G (EB G μ h.length H (exOf (me (ds.map some) h))) k:=zfy (hr.deeper _) hK (fun u H' ⟨c,h',μ',er,x,s',fl⟩=>by
    cases q:me (ds.map some) h with
    | ok d hh=>rw [q] at er;cases er
    | bad=>rw [q] at er;cases er
    | ex c1 h1=>
      rw [q] at er o
      cases er
      exact o μ' H' u x s' fl) z8n
  refine PySem.W.kla_codeExpr (wpAny_mono (hbody f (.ref c') cl A outer s H E _ gd hK [] _ (vs'.map some) H Q I ⟨μ,ds.map some,h,rs,sm, ?_⟩) (fun u s' ⟨v,H',J,rv,q⟩=>⟨v,H',J.os,J.bare,J.base,J.hok,rv,q⟩) fun e s' hs=>hs)
  cases q:me (ds.map some) h with
  | ok d hh=>rw [q] at o;exact o
  | bad=>rw [q] at o;exact o
  | ex c1 h1=>exact fun μ' H' u x' s' fl=>⟨c1,h1,μ',rfl,x',s',fl⟩
end
section
variable {X:Cx} {pins:List (Addr×Obj)} {σ:St} {H:Hp} {s:Shared}
theorem zb3 {i:Nat} {x:Str} {h':Heap} {tk:Nat} {m:Str→Option Value} {v:Option Value} (I:Inv X pins σ H s) (hN:X.N.Nodup) (hi:X.N[i]?=some x) (hn:s.heap.Ns X.env.locals m)
    (hl:∀ (i:Nat) (x:Str) (v:V),X.N[i]?=some x→σ[i]?=some (some v)→Vis X.env.scope x→∃ u,RelV v u∧Look X.env s.heap m x u)
    (hs:Heap.SameBut X.env.locals s.heap h') (hn':h'.Ns X.env.locals (fun y=>if y=x then v else m y)):Inv X pins (σ.set i none) H { s with heap:=h',toks:=tk }:=by
  have cne:=I.cne
  have hok:HOk X.prog X.w H h':=fun b ob e=>by
    refine (I.hok b ob e).stay (fun c w' hc q=>(hs.2 c ?_).trans q) (fun _ q=>q) fun _ _ q=>q
    rintro rfl
    have hfree:=I.free
    rcases hc with hc | hc
    · rw [← hc] at e;rw [hfree] at e;cases e
    · rw [hfree] at hc;cases hc
  refine ⟨I.ok,I.os,I.bare,⟨fun b o e n hb hx=>?_,fun b o e n hb hx=>?_,I.base.free,fun b o e hx=>?_,I.base.tups,I.base.frzs,I.base.tbls⟩,⟨_,hn',fun j y v' e1 e2 e3=>?_⟩,fun y c e=>?_,I.free,I.freeC,fun p hp=>?_,hok,by simpa using I.len⟩
  · exact (hs.2 b (Nat.ne_of_lt (Nat.lt_of_lt_of_le (Heap.lt_size e) I.ok.above))).trans (I.base.keep b o e n hb hx)
  · obtain ⟨sl,e1⟩:=I.base.slot b o e n hb hx
    exact ⟨sl,(hs.2 b (Nat.ne_of_lt (Nat.lt_of_lt_of_le (Heap.lt_size e) I.ok.above))).trans e1⟩
  · obtain ⟨o',e1⟩:=I.base.there b o e hx
    exact ⟨o',(hs.2 b (Nat.ne_of_lt (Nat.lt_of_lt_of_le (Heap.lt_size e) I.ok.above))).trans e1⟩
  · by_cases hj:j=i
    · subst hj
      have hiσ:j<σ.length:=by rw [I.len];exact (List.getElem?_eq_some_iff.mp hi).1
      rw [List.getElem?_set_self hiσ] at e2
      cases e2
    · rw [List.getElem?_set_ne (Ne.symm hj)] at e2
      obtain ⟨u',r',q⟩:=hl j y v' e1 e2 e3
      refine ⟨u',r', ?_⟩
      rcases q with ⟨k,e⟩ | ⟨k,c,e,z⟩
      · refine .inl ⟨k, ?_⟩
        have:y≠x:=fun e=>hj (z65 hN e1 (e▸hi))
        show (if y=x then v else m y)=some u'
        rw [if_neg this];exact e
      · exact .inr ⟨k,c,e,z.sameBut hs (cne y c e)⟩
  · obtain ⟨w',z⟩:=I.cell y c e
    exact ⟨w',z.sameBut hs (cne y c e)⟩
  · obtain ⟨e,n,ne,nf,d⟩:=I.pin p hp
    exact ⟨(hs.2 p.1 ne).trans e,n,ne,nf,d⟩
def z5t (X:Cx) (e:Value):Cx:={ X with A:=X.A.mark (some e),calm:=false,xe:=fun _ _=>False }
theorem z9p (e:Value) (I:Inv X pins σ H s):Inv (z5t X e) pins σ H s:=
  have ok:=I.ok
  ⟨⟨ok.mod,ok.kind,ok.glob,ok.blt,ok.above,ok.inj,ok.has,ok.cab,fun z=>(nomatch z),ok.frames,ok.stk,ok.exf,ok.bs,ok.bsz,ok.noex,ok.exfs,ok.funs,ok.frf⟩,I.os,I.bare,I.base,I.loc,I.cell,I.free,I.freeC,I.pin,I.hok,I.len⟩
theorem zb4 {e:Value} (ok:X.Ok) (I:Inv (z5t X e) pins σ H s):Inv X pins σ H s:=⟨ok,I.os,I.bare,I.base,I.loc,I.cell,I.free,I.freeC,I.pin,I.hok,I.len⟩
end
section
variable {X:Cx} {G:Cfg} {E:XK} {k:Nat} {N:List Str} {params:Arguments} {body:Expr} {scope:Scope} {me:M Dv} {ncl:Nat} {NE:Addr}
theorem zmt {x xn en nm:Str} {p cpos epos np xp ep apos hpos tpos:Pos} {pins:List (Addr×Obj)} {σ:St} {H:Hp} {s:Shared} {D:Ends} {f c':Addr} {cl:List (Str×Addr)} {μ:Nat→Addr} {h:Hs} {ds:List Dv}
    (hK:X.K=G.K) (hst:X.stack=X.env::X.outer) (hfr:X.env.frame=some X.env.locals) (hnd:X.N.Nodup) (h0:X.N[0]?=some x) (h1:X.N[1]?=some xn) (h2:X.N[2]?=some en) (hfn:∀ y,X.fn y=true)
    (l0:X.env.scope.names.lookup x=some .local) (l1:X.env.scope.names.lookup xn=some .local) (l2:X.env.scope.names.lookup en=some .local)
    (d0:(x==("__debug__" : Str))=false) (c0:(x==("__classdict__" : Str))=false) (d2:(en==("__debug__" : Str))=false) (c2:(en==("__classdict__" : Str))=false) (dn:(nm==("__debug__" : Str))=false)
    (hsw:swapsWith (.Call (.Name x p) [] [] cpos) none epos.line X.env=pure false) (hsw2:swapsWith (.Name en ep) (some (.Name xn xp)) apos.line X.env=pure false)
    (hg:Gl X nm) (hm:X.mg nm=some (.ref NE)) (hx1:PySem.W.subIn X.K (.ref NE) (.type "BaseException")=some true) (hx2:PySem.W.subIn X.K (.type "type") (.type "tuple")=some false) (hx3:PySem.W.kitCls X.K (.ref NE) (.ref NE)=some true)
    (hsub:∀ c,c<ncl→PySem.W.subIn X.K (.ref (G.cl c)) (.ref NE)=some true)
    (S:LamScope N scope) (hb:∀ (cl:List (Str×Addr)) (pm cdv ct:Value),bindArgs (PySem.W.kla_fn "<lambda>" G.lq params body scope cl pm cdv ct) ⟨[],[]⟩=pure [])
    (hbody:∀ (f:Addr) (cdv:Value) (cl:List (Str×Addr)) (A:Around) (outer:List Env) (s:Shared) (H:Hp) (E₀ E:XK),Good (z3r X.prog X.w X.K X.mg X.base N G.lq scope f cdv cl A outer s H E₀) G E k→Snd (z3r X.prog X.w X.K X.mg X.base N G.lq scope f cdv cl A outer s H E₀) G E body me)
    (hr:Room (k+1) X.A) (I:Inv X pins σ H s) (hσ:σ[0]?=some (some (.ref f))) (L:LamAt G X.base H μ h.length N params body scope f c' cl ds) (hall:∀ x c,cl.lookup x=some c→x∈N) (sm:Sim G μ h H)
    (hD:match me (ds.map some) h with
      | .ok _ h1=>∀ μ' H',Ext μ h.length H μ' h1.length H'→Sim G μ' h1 H'→D.nx σ H'
      | .ex c h1=>c<ncl∧∀ μ' H' a,Ext μ h.length H μ' h1.length H'→Sim G μ' h1 H'→RelD G μ' h1.length H' (.exc c) (.ref a)→D.nx (((σ.set 2 (some (.ref a))).set 1 (some (.ref a))).set 2 none) H'
      | .bad=>False):
    wpAny (model X.prog X.w) X.A (exec (.Try [.Expr (.Call (.Name x p) [] [] cpos) epos] [.ExceptHandler (some (.Name nm np)) (some en) [.Assign [.Name xn xp] (.Name en ep) apos] hpos] [] [] tpos) X.env) (SP X pins D) X.xe s:=by
  have hcls:(X.env.scope.kind==.class||(X.env.scope.kind==.module&&X.env.locals != X.env.globals))=false:=by rw [I.ok.kind];rfl
  refine wpAny_Try_except ?_
  obtain ⟨pm,ctv,ho⟩:=L.ob
  refine wpAny_execs_cons (wpAny_Expr_any (wpAny_Call_Name_kw (thn (wpAny_mono (zbi (X:=X.nox) (pos:=p) h0 (.inl l0) d0 c0 pins s σ H (fun v H'=>v=.ref f∧H'=H) (I.wish _) ⟨_,hσ,rfl,rfl⟩) (fun _ _ q=>q) fun _ _ z=>False.elim z) fun u s1 ⟨v,H',I',r,e1,e2⟩=>?_)) I.quiet hsw)
  subst e1;subst e2
  cases r
  have I1:Inv X pins σ H' s1:=I'.unwish
  refine PySem.W.callWith_F0 ⟨_,_,_,_,(I1.hok f _ ho).1⟩ ?_
  refine wpAny_call (codeAny_mono (zjv (E:=EB G μ h.length H' (exOf (me (ds.map some) h))) (Q:=fun _ H2=>∃ d hh μ',me (ds.map some) h=.ok d hh∧Ext μ h.length H' μ' hh.length H2∧Sim G μ' hh H2) S hK hb hbody hr I1.env0 L hall sm ?_) fun r s' hq=>?_)
  · cases q:me (ds.map some) h with
    | ok d hh=>exact fun μ' H' v x' s' _=>⟨d,hh,μ',rfl,x',s'⟩
    | bad=>rw [q] at hD;exact hD.elim
    | ex c1 h1=>exact fun μ' H' u x' s' fl=>⟨c1,h1,μ',rfl,x',s',fl⟩
  cases r with
  | ok fl=>
    cases fl with
    | ret u=>
      obtain ⟨v,H2,I2,r2,d,hh,μ',e1,x1,s1⟩:=I1.after hq
      refine wpAny_execs_nil (wpAny_execs_nil ?_)
      rw [e1] at hD
      exact ⟨σ,H2,I2,hD μ' H2 x1 s1⟩
    | next=>exact False.elim hq
    | brk=>exact False.elim hq
    | cont=>exact False.elim hq
  | error ev=>
    obtain ⟨e,C,H2,rfl,os,bare,un,hok,fl,c,hh,μ',er,x1,sm1,e',φ,eu,g1,g2⟩:=hq
    cases eu
    cases qm:me (ds.map some) h with
    | ok d h3=>rw [qm] at er;cases er
    | bad=>rw [qm] at er;cases er
    | ex c3 h3=>
    rw [qm] at er hD
    cases er
    obtain ⟨hc,hD⟩:=hD
    have I2:Inv X pins σ H2 s':=I1.call' os un hok bare (fun b z=>absurd z (by simp))
    refine z6j (P:=X.prog) (w:=X.w) (H:=H2) (base:=X.base) (env:=X.env) (outer:=X.outer) (by rw [← hst];exact I2.ok.frames) (by rw [← hst];exact I2.stack) hfr hok (by rw [← hst];exact I2.stkFree) fl fun h4 H4 un4 hok4 fl4 sx4=>?_
    have I4:Inv X pins σ H4 { s' with heap:=h4 }:=I2.call (h':=h4) (g':=s'.gens) (d':=s'.drawn) (t':=s'.toks) (by rw [hst];exact un4) hok4 I2.bare (fun b z=>absurd z (by simp))
    obtain ⟨sm4,x4⟩:=sm1.sameX sx4 ⟨_,g1⟩
    obtain ⟨T,a0,w1,w2,w3,w4⟩:=id fl4
    obtain ⟨T0,b0,v1,_,_,_⟩:=id fl
    have hC:C=.ref (G.cl c):=by
      have xo:ExO C e T0 b0 s'.heap:=(show ObjOk X.prog X.w H2 s'.heap e _ from hok e _ v1).1
      rw [v1] at g1;cases g1
      obtain ⟨oo,q1,q2⟩:=g2 _ xo
      obtain ⟨o2,vs2,q3,q4,_⟩:=xo
      rw [q3] at q1;cases q1
      rw [← q4,q2]
    subst hC
    have xo4:ExO (.ref (G.cl c)) e T a0 h4:=(show ObjOk X.prog X.w H4 h4 e _ from hok4 e _ w1).1
    obtain ⟨oe,vs,y1,y2,y3,y4,y5,y6⟩:=id xo4
    refine wpAny_handleBy_cons (codeAny_handlers_test (wpAny_mono (z4b (X:=z5t X (.ref e)) (E:=fun _ _=>False) (Q:=fun u s5=>u=.ref NE∧Inv X pins σ H4 s5∧s5.heap=h4) (z9p _ I4) hg hm ⟨rfl,I4,rfl⟩ dn) (fun cv s5 hs5=>?_) fun _ _ z=>False.elim z)) (by intro z;cases z)
    obtain ⟨rfl,I5,e5⟩:=hs5
    refine z8p (K:=X.K) I5.kIn (by rw [e5];exact y1) y2 hx1 hx2 hx3 (hsub c hc) ?_
    obtain ⟨oT,ts,z1,z2,z3⟩:TbO T h4:=(show ObjOk X.prog X.w H4 h4 T _ from hok4 T _ w2).1
    have l3:3<ts.size:=(Array.getElem?_eq_some_iff.mp z3).1
    refine codeAny_handlers_suite_as (land (e:=e) (T:=T) (by rw [e5];exact y1) y3 y5 (by rw [e5];exact z1) z2 l3 fun h6 sb6 tb6=>?_)
    rw [e5] at sb6
    have ge6:h6.get? e=some oe:=sb6.extBut _ _ (Ne.symm w4) y1
    have I6:Inv X pins σ (upd H4 T (.ext (TbO T))) { s5 with heap:=h6 }:=I5.write (x:=T) (e:=T) (o:=.ext (TbO T)) (h':=h6) (t':=s5.toks) (by rw [w2];trivial) (.inl rfl) (fun b u hb q=>by rw [e5] at q;exact sb6.extBut _ _ hb q) (let ⟨oo,_,q,_⟩:=tb6;⟨oo,q⟩) (z9k tb6)
    have se:Same H4 (upd H4 T (.ext (TbO T))):=fun b o q=>by
      by_cases hb:b=T
      · subst hb;rw [w2] at q;cases q;exact z0b
      · rw [z0d hb];exact q
    have w1':(upd H4 T (.ext (TbO T))) e=some (.ext (ExO (.ref (G.cl c)) e T a0)):=se _ _ w1
    have I7:Inv X pins σ (upd (upd H4 T (.ext (TbO T))) e (.frz oe (.own 0))) { s5 with heap:=h6 }:=I6.write (x:=e) (e:=e) (o:=.frz oe (.own 0)) (h':=h6) (t':=s5.toks) (by rw [w1'];trivial) (.inl rfl) (fun b u hb q=>q) ⟨_,ge6⟩ ⟨ge6,oe,ge6⟩
    have sx7:zcg e (upd H4 T (.ext (TbO T))) (upd (upd H4 T (.ext (TbO T))) e (.frz oe (.own 0))):=fun b o hb q=>by rw [z0d hb];exact q
    obtain ⟨sm7,x7⟩:=(sm4.same se).sameX sx7 ⟨_,w1'⟩
    have xx:Ext μ h.length H' μ' hh.length (upd (upd H4 T (.ext (TbO T))) e (.frz oe (.own 0))):=x1.trans ((x4 _).trans ((Ext.same se).trans (x7 _)))
    generalize hH7:upd (upd H4 T (.ext (TbO T))) e (.frz oe (.own 0))=H7 at *
    have rl:RelD G μ' hh.length H7 (.exc c) (.ref e):=by
      rw [RelD,← hH7]
      exact ⟨e,oe,.own 0,rfl,z0b,y2,y6,vs,y3⟩
    refine z66 (v:=.ref e) I7 hnd h2 (.inl l2) rfl (fun s8 I8=>?_) (.inr l2)
    have I8':Inv (z5t X (.ref e)) pins (σ.set 2 (some (.ref e))) H7 s8:=z9p _ I8
    have hlen:2<σ.length:=by rw [I.len];exact (List.getElem?_eq_some_iff.mp h2).1
    refine wpAny_mono (zbk (zbl (X:=z5t X (.ref e)) (i:=1) (pos:=apos) (pos':=xp) hnd h1 (.inl l1) (zbi (X:=z5t X (.ref e)) (pos:=ep) h2 (.inl l2) d2 c2) hsw2 (.inr l1)) pins s8 (σ.set 2 (some (.ref e))) H7 { nx:=fun σ' H'=>σ'=(σ.set 2 (some (.ref e))).set 1 (some (.ref e))∧H'=H7,rt:=fun _ _=>False } I8' ⟨.ref e,List.getElem?_set_self hlen,rfl,rfl⟩) (fun fl9 s9 hs9=>?_) fun _ _ z=>False.elim z
    cases fl9 with
    | ret u=>obtain ⟨_,_,_,_,_,z⟩:=hs9;exact z.elim
    | brk=>obtain ⟨_,_,_,z⟩:=hs9;exact z.elim
    | cont=>obtain ⟨_,_,_,z⟩:=hs9;exact z.elim
    | next=>
      obtain ⟨σ9,H9,I9,e9,f9⟩:=hs9
      subst e9;subst f9
      have I9':Inv X pins _ H9 s9:=zb4 I8.ok I9
      obtain ⟨m,hn,hl⟩:=id I9'.loc
      refine wpAny_nameGoes_keeps l2 hn hcls fun h10 v10 hn10 hs10=>?_
      exact ⟨_,H9,zb3 I9' hnd h2 hn hl hs10 hn10,hD μ' H9 e xx sm7 rl⟩
end
def z7m:Sr→Rs Dv
  | .rt d h=>.ok d h
  | .nx _ h=>.ok .non h
  | _=>.bad
def z7n (n:Nat) (d:Dv):Ev:=none::some d::List.replicate (n - 2) none
def refM (n ncl:Nat) (mb:MS):Rs Dv→Rs Dv
  | .ok _ h1=>z7m (mb (z7n n .non) h1)
  | .ex c h1=>if c<ncl then z7m (mb (z7n n (.exc c)) h1) else .bad
  | .bad=>.bad
def zfz (G:Cfg) (base:Heap) (Nl:List Str) (params:Arguments) (body:Expr) (scope:Scope) (me:M Dv) (n ncl:Nat) (mb:MS):Sp:=fun vs H Q E=>
  ∃ f c' cl ds μ h,vs=[.ref f]∧LamAt G base H μ h.length Nl params body scope f c' cl ds∧(∀ x c,cl.lookup x=some c→x∈Nl)∧Sim G μ h H∧Out G E μ h.length H (refM n ncl mb (me (ds.map some) h)) (RelD G) Q
theorem z5u {G:Cfg} {E:XK} {μ μ1:Nat→Addr} {n n1:Nat} {H H1:Hp} {r:Sr} {Q:VK} (o:Out G E μ n H (z7m r) (RelD G) Q) (x:Ext μ n H μ1 n1 H1):SOut G (fun _ _ _=>False) μ1 n1 H1 r { nx:=fun _ H'=>Q .non H',rt:=Q }:=by
  cases r with
  | nx ρ h'=>exact fun μ' H' σ' y s _=>o μ' H' .non (x.trans y) s rfl
  | rt d h'=>exact fun μ' H' v y s r=>o μ' H' v (x.trans y) s r
  | bk ρ h'=>exact o.elim
  | ct ρ h'=>exact o.elim
  | ex c h'=>exact o.elim
  | bad=>exact o
theorem z9q {G:Cfg} {μ:Nat→Addr} {n:Nat} {H:Hp} {m:Nat} {d:Dv} {v:V} {σ:St} (hl:σ.length=m) (hm:2≤m) (h1:σ[1]?=some (some v)) (r:RelD G μ n H d v):RelS G μ n H (z7n m d) σ:=by
  refine ⟨by simp [z7n,hl];omega,fun i d' e=>?_⟩
  unfold z7n at e
  match i,e with
  | 0,e=>simp at e
  | 1,e=>simp at e;subst e;exact ⟨v,h1,r⟩
  | i+2,e=>
    simp only [List.getElem?_cons_succ,List.getElem?_replicate] at e
    split at e <;> cases e
section
variable {P:Program} {w:World} {K:PySem.W.Frag} {mg:Str→Option Value} {base:Heap} {f:Addr} {G:Cfg} {k:Nat} {Nm Nl:List Str} {params:Arguments} {body:Expr} {scope:Scope} {me:M Dv} {ncl:Nat} {NE:Addr} {mb:MS}
theorem zmu {x xn en nm q qual:Str} {st:Stmt} {fd:FuncData} {p cpos epos np xp ep apos hpos tpos zpos zp npos:Pos} {j:Nat} {rest:List Stmt} (Fn:Fun K q qual st f fd) (S:FnScope Nm [x] (z04 st)) (hK:K=G.K)
    (hdef:z1q st=.Assign [.Name xn zp] (.Constant .none j npos) zpos::.Try [.Expr (.Call (.Name x p) [] [] cpos) epos] [.ExceptHandler (some (.Name nm np)) (some en) [.Assign [.Name xn xp] (.Name en ep) apos] hpos] [] [] tpos::rest)
    (h0:Nm[0]?=some x) (h1:Nm[1]?=some xn) (h2:Nm[2]?=some en)
    (l0:(z04 st).names.lookup x=some .local) (l1:(z04 st).names.lookup xn=some .local) (l2:(z04 st).names.lookup en=some .local)
    (d0:(x==("__debug__" : Str))=false) (c0:(x==("__classdict__" : Str))=false) (d2:(en==("__debug__" : Str))=false) (c2:(en==("__classdict__" : Str))=false) (dn:(nm==("__debug__" : Str))=false)
    (hsw:∀ L cd,swapsWith (.Call (.Name x p) [] [] cpos) none epos.line (envOfC qual (z04 st) L f cd)=pure false) (hsw2:∀ L cd,swapsWith (.Name en ep) (some (.Name xn xp)) apos.line (envOfC qual (z04 st) L f cd)=pure false)
    (hsw3:∀ L cd,swapsWith (.Constant .none j npos) (some (.Name xn zp)) zpos.line (envOfC qual (z04 st) L f cd)=pure false)
    (hg:(z04 st).names.lookup nm=some .globalImplicit) (hm:mg nm=some (.ref NE)) (hx1:PySem.W.subIn K (.ref NE) (.type "BaseException")=some true) (hx2:PySem.W.subIn K (.type "type") (.type "tuple")=some false) (hx3:PySem.W.kitCls K (.ref NE) (.ref NE)=some true)
    (hsub:∀ c,c<ncl→PySem.W.subIn K (.ref (G.cl c)) (.ref NE)=some true)
    (LS:LamScope Nl scope) (hb:∀ (cl:List (Str×Addr)) (pm cdv ct:Value),bindArgs (PySem.W.kla_fn "<lambda>" G.lq params body scope cl pm cdv ct) ⟨[],[]⟩=pure [])
    (hbody:∀ (f:Addr) (cdv:Value) (cl:List (Str×Addr)) (A:Around) (outer:List Env) (s:Shared) (H:Hp) (E₀ E:XK),Good (z3r P w K mg base Nl G.lq scope f cdv cl A outer s H E₀) G E k→Snd (z3r P w K mg base Nl G.lq scope f cdv cl A outer s H E₀) G E body me)
    (hrest:∀ (cdv:Value) (A:Around) (outer:List Env) (s:Shared) (H:Hp) (E₀ E:XK),Good (cxOf (CXm P w base) P w K mg base Nm qual (z04 st) f cdv A outer s H E₀) G E (k+1)→z3p (cxOf (CXm P w base) P w K mg base Nm qual (z04 st) f cdv A outer s H E₀) G E rest mb):
    FnOk P w K mg base (CXm P w base) (k+2) f fd [x] (zfz G base Nl params body scope me Nm.length ncl mb):=by
  obtain ⟨oc,od,kV,doc,pm,an,cdv,ct,osl,rfl,lk,hcd⟩:=Fn.ex
  have hNl:2<Nm.length:=(List.getElem?_eq_some_iff.mp h2).1
  refine zez lk hcd S (fun vs H Q E ⟨f,c',cl,ds,μ,h,e,_⟩=>by rw [e];rfl) fun A outer s H vs Q E hr hsp=>?_
  obtain ⟨fl,c',cl,ds,μ,h,rfl,L,hall,sm,o⟩:=hsp
  refine ⟨fun D σ H1=>σ=start Nm [.ref fl]∧H1=H∧D={ nx:=fun _ H'=>Q .non H',rt:=Q }, ?_,rfl,rfl,rfl⟩
  intro pins s1 σ H1 D I ⟨eσ,eH,eD⟩
  subst eH
  have hσl:σ.length=Nm.length:=I.len
  have hσ0:σ[0]?=some (some (.ref fl)):=by rw [eσ];rfl
  rw [hdef]
  have gd:Good (cxOf (CXm P w base) P w K mg base Nm qual (z04 st) f cdv A outer s H1 E) G (fun _ _ _=>False) (k+1):=z8m hr hK (fun _ _ z=>z.elim) (fun _ _ _ _ _ z=>z)
  have hset:(σ.set 1 (some .non))[0]?=some (some (.ref fl)):=by rw [List.getElem?_set_ne (by decide)];exact hσ0
  refine wpAny_execs_cons (thn (zbl (X:=cxOf (CXm P w base) P w K mg base Nm qual (z04 st) f cdv A outer s H1 E) (i:=1) (pos:=zpos) (pos':=zp) S.nd h1 (.inl l1) (zhj (j:=j) (pos:=npos)) (hsw3 _ _) (.inl rfl) pins s1 σ H1 { nx:=fun σ' H'=>σ'=σ.set 1 (some .non)∧H'=H1,rt:=fun _ _=>False } I ⟨rfl,rfl⟩) fun fl2 s2 q2=>?_)
  cases fl2 with
  | ret u=>obtain ⟨_,_,_,_,_,z⟩:=q2;exact z.elim
  | brk=>obtain ⟨_,_,_,z⟩:=q2;exact z.elim
  | cont=>obtain ⟨_,_,_,z⟩:=q2;exact z.elim
  | next=>
    obtain ⟨σ2,H2,I2,e2,f2⟩:=q2
    subst e2;subst f2
    refine wpAny_execs_cons (thn (zmt (X:=cxOf (CXm P w base) P w K mg base Nm qual (z04 st) f cdv A outer s H2 E) (G:=G) (N:=Nl) (me:=me) (ncl:=ncl) (NE:=NE) (k:=k) (D:={ nx:=tsOf G (fun _ _ _=>False) mb D,rt:=fun _ _=>False })
      hK rfl rfl S.nd h0 h1 h2 (fun _=>rfl) l0 l1 l2 d0 c0 d2 c2 dn (hsw _ _) (hsw2 _ _) hg hm hx1 hx2 hx3 hsub LS hb hbody hr I2 hset L hall sm ?_) fun fl3 s3 q3=>?_)
    · cases qm:me (ds.map some) h with
      | bad=>rw [qm] at o;exact o
      | ok d hh=>
        rw [qm] at o
        intro μ' H' x' s'
        refine ⟨μ',z7n Nm.length .non,hh,z9q (v:=.non) (by rw [List.length_set];exact hσl) (by omega) (List.getElem?_set_self (by omega)) rfl,s', ?_⟩
        rw [eD]
        exact z5u o x'
      | ex c hh=>
        rw [qm] at o
        unfold refM at o
        dsimp only at o
        split at o
        · rename_i hc
          refine ⟨hc,fun μ' H' a x' s' r'=>?_⟩
          refine ⟨μ',z7n Nm.length (.exc c),hh,z9q (v:=.ref a) (by simp only [List.length_set];exact hσl) (by omega) ?_ r',s', ?_⟩
          · rw [List.getElem?_set_ne (by decide),List.getElem?_set_self (by simp only [List.length_set];omega)]
          · rw [eD]
            exact z5u o x'
        · exact o.elim
    · cases fl3 with
      | ret u=>obtain ⟨_,_,_,_,_,z⟩:=q3;exact z.elim
      | brk=>obtain ⟨_,_,_,z⟩:=q3;exact z.elim
      | cont=>obtain ⟨_,_,_,z⟩:=q3;exact z.elim
      | next=>
        obtain ⟨σ3,H3,I3,q3⟩:=q3
        exact hrest cdv A outer s H2 E _ gd hK pins s3 σ3 H3 D I3 q3
end
theorem z8q:∀ (l:List Value) (a b:Int) (t u:Tok) (c:Value),TriplesOk l→TriplesOk (l++[.int a t,.int b u,c]):=by
  intro l a b t u c h
  fun_induction TriplesOk l with
  | case1=>trivial
  | case2 x t y u z rest ih=>exact ih h
  | case3 l h1 h2=>exact h.elim
theorem zco {pos:Pos} {cv c:Value} {a b:Int} {t u:Tok}:∀ (l:List Value),TriplesOk l→codeAmong pos (l++[.int a t,.int b u,c])=some cv→codeAmong pos l=some cv∨cv=c:=by
  intro l h
  fun_induction TriplesOk l with
  | case1=>
    intro e
    simp only [List.nil_append,codeAmong] at e
    split at e
    · cases e;exact .inr rfl
    · cases e
  | case2 x t y u z rest ih=>
    intro e
    simp only [List.cons_append,codeAmong] at e ⊢
    split at e
    · rename_i hc;rw [if_pos hc];exact .inl e
    · rename_i hc;rw [if_neg hc];exact ih h e
  | case3 l h1 h2=>exact h.elim
def z6l (mg:Str→Option Value) (base:Heap):Prop:=∃ bm ob,mg "__builtins__" = some (.ref bm)∧bm≠builtinsNs∧base.get? bm=some ob∧ob.cls=.type "module"∧ob.dict=some builtinsNs∧ob.data=.plain
def zmv (H H':Hp):Prop:=∀ a o,(∀ ps,o≠.tbl ps)→H a=some o→H' a=some o
section
variable {X:Cx} {G:Cfg} {params:Arguments} {body:Expr} {scope:Scope} {lpos:Pos} {c P:Addr}
theorem zmw (hdef:defaultsOf params X.env=([],[])) (hq:X.env.qual ++ "<lambda>" = G.lq) (hP:G.tab=some P) (hcode:X.env.code=.ref c) (hC:PySem.W.CodeHd X.base c P) (hB:z6l X.mg X.base)
    (hfree:∀ x,(x,NameKind.free)∈scope.names→X.env.kindOf x=some .cell∨X.env.kindOf x=some .free):
    PE X (.Lambda params body scope lpos) (fun σ H Q=>TabOk G H∧∀ f c' pm ctv oc H1,zmv H H1→TabOk G H1→H1 f=some (.frz (PySem.W.kla_obj "<lambda>" G.lq params body scope (z18 X.env scope.names []) pm c' ctv) (.own 0))→H1 c'=some (.frz oc (.own 0))→zf8 G.lq oc→Q (.ref f) H1):=by
  intro pins s σ H Q I ⟨hT,h⟩
  obtain ⟨ps,t1,t2,t3⟩:=hT P hP
  have gP:s.heap.get? P=some (PySem.W.tabObj ps):=I.hok P _ t1
  have hcl:closureFor scope X.env=pure (z18 X.env scope.names []):=z2e fun x hx=>I.ok.has x (hfree x hx)
  have hgs:s.heap.Ns mainGlobals X.mg:=I.mod.glob.keeps I.bk
  obtain ⟨bm,ob,b1,b2,b3,b4,b5,b6⟩:=hB
  have b3':=I.bk _ _ b3
  have hgP:mainGlobals≠P:=fun q=>by
    obtain ⟨o,es,ep,e,hd,_⟩:=hgs
    rw [q,gP] at e;cases e;cases hd
  have hbP:bm≠P:=fun q=>by rw [q,gP] at b3';cases b3';cases b4
  have hbG:bm≠mainGlobals:=fun q=>by
    obtain ⟨o,es,ep,e,hd,_⟩:=hgs
    rw [← q,b3'] at e;cases e;rw [hd] at b6;cases b6
  have hba:s.heap.BuiltinsAt X.mg P:=⟨bm,ob,b1,b2,hbG,hbP,b3',b4,b5,b6⟩
  refine PySem.W.kla_eval hdef ?_
  rw [hq]
  cases hc:codeAmong lpos ps.toList with
  | some cv=>
    obtain ⟨c',oc,ec,h2,h3⟩:=t3 lpos cv hc
    subst ec
    refine PySem.W.kla_makeFunctionHit (mg:=X.mg) hcl I.ok.glob hgs hcode (hC.keeps I.bk) gP t2 hc hba fun ctv h' tk hk hsz=>?_
    have hn:H h'.objs.size=none:=I.hok.fresh hsz
    have kk:∀ b u,s.heap.get? b=some u→(h'.push { cls:=.type "function",data:=.func (PySem.W.kla_fn "<lambda>" G.lq params body scope (z18 X.env scope.names []) ((X.mg "__name__").getD .none) (.ref c') ctv) }).get? b=some u:=fun b u q=>Heap.get?_push_of_some _ (hk b u q)
    have gf:=Heap.get?_push_size h' (o:=PySem.W.kla_obj "<lambda>" G.lq params body scope (z18 X.env scope.names []) ((X.mg "__name__").getD .none) c' ctv) rfl
    have I1:=I.laid (a:=h'.objs.size) (o:=.frz (PySem.W.kla_obj "<lambda>" G.lq params body scope (z18 X.env scope.names []) ((X.mg "__name__").getD .none) c' ctv) (.own 0)) (t':=tk) kk hsz ⟨gf,_,gf⟩
    have sm:Same H (upd H h'.objs.size (.frz (PySem.W.kla_obj "<lambda>" G.lq params body scope (z18 X.env scope.names []) ((X.mg "__name__").getD .none) c' ctv) (.own 0))):=z0a hn
    exact ⟨.ref h'.objs.size,_,I1,rfl,h _ c' _ ctv oc _ (fun a o _ q=>sm a o q) (hT.keep fun a o _ _ q=>sm a o q) z0b (sm _ _ h2) h3⟩
  | none=>
    refine PySem.W.kla_makeFunction (mg:=X.mg) hcl I.ok.glob hgs hcode (hC.keeps I.bk) gP t2 hc hgP hba fun c' ctv h' tk hx hge hlt hrec htb=>?_
    obtain ⟨c₂,oc,vs,t,e2,hoc,hd,hv⟩:=hrec
    cases e2
    generalize hfo:PySem.W.kla_obj "<lambda>" G.lq params body scope (z18 X.env scope.names []) ((X.mg "__name__").getD .none) c' ctv=fo
    have nfo:fo.isFreed=false:=by rw [← hfo];rfl
    have gf:(h'.push fo).get? h'.objs.size=some fo:=Heap.get?_push_size h' nfo
    have goc:(h'.push fo).get? c'=some oc:=Heap.get?_push_of_some _ hoc
    have gP':=Heap.get?_push_of_some fo htb
    generalize hps:ps++#[rawInt lpos.line,rawInt lpos.col,.ref c']=ps' at gP'
    have lP:P<s.heap.objs.size:=Heap.lt_size gP
    have kk:∀ b u,b≠P→s.heap.get? b=some u→(h'.push fo).get? b=some u:=fun b u hb q=>Heap.get?_push_of_some _ (hx b u hb q)
    have lt0:∀ b u,s.heap.get? b=some u→b<s.heap.objs.size:=fun b u q=>Heap.lt_size q
    have nPc:P≠c':=Nat.ne_of_lt (Nat.lt_of_lt_of_le lP hge)
    have nPf:P≠h'.objs.size:=Nat.ne_of_lt (Nat.lt_of_lt_of_le lP (Nat.le_trans hge (Nat.le_of_lt hlt)))
    have ncf:c'≠h'.objs.size:=Nat.ne_of_lt hlt
    have lH:∀ b o,H b=some o→b<s.heap.objs.size:=fun b o q=>I.hok.lt q
    have H1e:∀ b,b≠P→b<s.heap.objs.size→upd (upd (upd H P (.tbl ps')) c' (.frz oc (.own 0))) h'.objs.size (.frz fo (.own 0)) b=H b:=fun b h1 h2=>by
      rw [z0d (Nat.ne_of_lt (Nat.lt_of_lt_of_le h2 (Nat.le_trans hge (Nat.le_of_lt hlt)))),z0d (Nat.ne_of_lt (Nat.lt_of_lt_of_le h2 hge)),z0d h1]
    have eP:upd (upd (upd H P (.tbl ps')) c' (.frz oc (.own 0))) h'.objs.size (.frz fo (.own 0)) P=some (.tbl ps'):=by rw [z0d nPf,z0d nPc,z0b]
    have ec:upd (upd (upd H P (.tbl ps')) c' (.frz oc (.own 0))) h'.objs.size (.frz fo (.own 0)) c'=some (.frz oc (.own 0)):=by rw [z0d ncf,z0b]
    have ef:upd (upd (upd H P (.tbl ps')) c' (.frz oc (.own 0))) h'.objs.size (.frz fo (.own 0)) h'.objs.size=some (.frz fo (.own 0)):=z0b
    have cases1:∀ b o,upd (upd (upd H P (.tbl ps')) c' (.frz oc (.own 0))) h'.objs.size (.frz fo (.own 0)) b=some o→(b=h'.objs.size∧o=.frz fo (.own 0))∨(b=c'∧o=.frz oc (.own 0))∨(b=P∧o=.tbl ps')∨(b≠P∧H b=some o):=fun b o q=>by
      by_cases q1:b=h'.objs.size
      · subst q1;rw [z0b] at q;cases q;exact .inl ⟨rfl,rfl⟩
      rw [z0d q1] at q
      by_cases q2:b=c'
      · subst q2;rw [z0b] at q;cases q;exact .inr (.inl ⟨rfl,rfl⟩)
      rw [z0d q2] at q
      by_cases q3:b=P
      · subst q3;rw [z0b] at q;cases q;exact .inr (.inr (.inl ⟨rfl,rfl⟩))
      rw [z0d q3] at q
      exact .inr (.inr (.inr ⟨q3,q⟩))
    generalize upd (upd (upd H P (.tbl ps')) c' (.frz oc (.own 0))) h'.objs.size (.frz fo (.own 0))=H1 at *
    have keepO:∀ b o,(∀ ps,o≠.tbl ps)→H b=some o→H1 b=some o:=fun b o hn q=>by
      rw [H1e b (fun z=>by subst z;rw [t1] at q;cases q;exact hn _ rfl) (lH b o q)];exact q
    have un:Un X.fs [] H H1 s.heap (h'.push fo):=by
      have nP:∀ b,H b=none→b≠P:=fun b n z=>by subst z;rw [t1] at n;cases n
      refine ⟨fun b o q n _ _=>kk b o (nP b n) q,fun b o q n _ _=>⟨o.slots,kk b o (nP b n) q⟩,fun b o q n _=>by rw [H1e b (nP b n) (lt0 b o q)];exact n,fun b o q _=>?_,fun b xs q=>keepO b _ (fun _ z=>by cases z) q,fun b o u q=>keepO b _ (fun _ z=>by cases z) q,fun b qs q=>?_⟩
      · by_cases hb:b=P
        · subst hb;exact ⟨_,gP'⟩
        · exact ⟨_,kk b o hb q⟩
      · by_cases hb:b=P
        · subst hb
          rw [t1] at q;cases q
          exact ⟨#[rawInt lpos.line,rawInt lpos.col,.ref c'],by rw [eP,hps]⟩
        · exact ⟨#[],by rw [H1e b hb (lH b _ q),q];simp⟩
    have hok1:HOk X.prog X.w H1 (h'.push fo):=fun b o q=>by
      rcases cases1 b o q with ⟨rfl,rfl⟩ | ⟨rfl,rfl⟩ | ⟨rfl,rfl⟩ | ⟨hb,q⟩
      · exact ⟨gf,_,gf⟩
      · exact ⟨goc,_,goc⟩
      · exact gP'
      · refine (I.hok b o q).stay (fun b2 u hb2 z=>kk b2 u ?_ z) (fun b2 z=>keepO b2 _ (fun _ z=>by cases z) z) fun b2 xs z=>keepO b2 _ (fun _ z=>by cases z) z
        rcases hb2 with rfl | hb2
        · exact hb
        · rintro rfl;rw [t1] at hb2;cases hb2
    have I1:Inv X pins σ H1 { s with heap:=h'.push fo,toks:=tk }:=I.un un hok1
    refine ⟨.ref h'.objs.size,H1,I1,rfl,h h'.objs.size c' ((X.mg "__name__").getD .none) ctv oc H1 keepO ?_ (by rw [hfo];exact ef) ec ⟨vs,t,hd,hv⟩⟩
    intro P' eP'
    rw [hP] at eP';cases eP'
    have hl:ps'.toList=ps.toList++[rawInt lpos.line,rawInt lpos.col,.ref c']:=by rw [← hps];simp
    refine ⟨ps',eP,by rw [hl];exact z8q _ _ _ _ _ _ t2,fun pos cv q=>?_⟩
    rw [hl] at q
    rcases zco _ t2 q with q | q
    · obtain ⟨a,oa,z1,z2,z3⟩:=t3 pos cv q
      exact ⟨a,oa,z1,keepO a _ (fun _ z=>by cases z) z2,z3⟩
    · exact ⟨c',oc,q,ec,vs,t,hd,hv⟩
end
def capD:List Nat→Ev→Option (List Dv)
  | [],_=>some []
  | i::r,ρ=>match ρ[i]? with
    | some (some d)=>(match capD r ρ with
      | some ds=>some (d::ds)
      | none=>none)
    | _=>none
theorem z9r {ρ:Ev}:∀ {caps:List Nat} {ds:List Dv},capD caps ρ=some ds→ds.length=caps.length∧∀ (i:Nat) (d:Dv),ds[i]?=some d→∃ j,caps[i]?=some j∧ρ[j]?=some (some d)
  | [],ds,e=>by
    unfold capD at e;cases e
    exact ⟨rfl,fun i d e=>by simp at e⟩
  | j::r,ds,e=>by
    unfold capD at e
    split at e
    · rename_i d0 h0
      split at e
      · rename_i ds0 h1
        cases e
        obtain ⟨l,k⟩:=z9r h1
        refine ⟨by simp [l],fun i d q=>?_⟩
        cases i with
        | zero=>simp at q;subst q;exact ⟨j,rfl,h0⟩
        | succ i=>exact k i d (by simpa using q)
      · cases e
    · cases e
def mRef (caps:List Nat) (n ncl:Nat) (mb:MS) (me:M Dv):M Dv:=fun ρ h=>match capD caps ρ with
  | some ds=>refM n ncl mb (me (ds.map some) h)
  | none=>.bad
def z3s (base h:Heap) (cs:List Addr):Heap:=PySem.W.hideAll h ((List.range h.objs.size).filter fun b=>!((base.get? b).isSome||cs.contains b))
theorem z4u {base h:Heap} {cs:List Addr} {b:Addr} {o:Obj} (e:h.get? b=some o) (hb:(∃ u,base.get? b=some u)∨b∈cs):(z3s base h cs).get? b=some o:=
  PySem.W.hideAll_get _ e fun z=>by
    have:=(List.mem_filter.mp z).2
    rcases hb with ⟨u,hb⟩ | hb
    · simp [hb] at this
    · simp [hb] at this
theorem z9s {base h:Heap} {cs:List Addr} {b:Addr} {o:Obj} (e:(z3s base h cs).get? b=some o):h.get? b=some o∧((∃ u,base.get? b=some u)∨b∈cs):=by
  have e1:=PySem.W.of_hideAll _ e
  refine ⟨e1, ?_⟩
  by_cases hb:(∃ u,base.get? b=some u)∨b∈cs
  · exact hb
  · exfalso
    have hm:b∈(List.range h.objs.size).filter fun b=>!((base.get? b).isSome||cs.contains b):=by
      refine List.mem_filter.mpr ⟨List.mem_range.mpr (Heap.lt_size e1), ?_⟩
      cases q:base.get? b with
      | some u=>exact absurd (.inl ⟨u,q⟩) hb
      | none=>
        have:b∉cs:=fun z=>hb (.inr z)
        simp [this]
    have:=PySem.W.hideAll_none (h:=h) _ hm
    unfold z3s at e
    rw [this] at e;cases e
theorem Out.ext {α β:Type} {G:Cfg} {E:XK} {μ μ1:Nat→Addr} {n n1:Nat} {H H1:Hp} {r:Rs α} {R:(Nat→Addr)→Nat→Hp→α→β→Prop} {Q:β→Hp→Prop} (o:Out G E μ n H r R Q) (x:Ext μ n H μ1 n1 H1):Out G E μ1 n1 H1 r R Q:=by
  cases r with
  | bad=>exact o
  | ex c h'=>exact fun μ' H' u y=>o μ' H' u (x.trans y)
  | ok d h'=>exact fun μ' H' u y=>o μ' H' u (x.trans y)
theorem z9t {env:Env} {scope:Scope} {x:Str} {c:Addr} (hf:∀ x,(x,NameKind.free)∈scope.names→∃ c,env.cells.lookup x=some c) (e:(z18 env scope.names []).lookup x=some c):(x,NameKind.free)∈scope.names∧env.cells.lookup x=some c:=by
  rcases z2v _ _ e with q | ⟨q1,q2⟩
  · cases q
  · obtain ⟨c',h'⟩:=hf x q1
    rw [h'] at q2
    subst q2
    exact ⟨q1,h'⟩
section
variable {X:Cx} {G:Cfg} {E:XK} {k:Nat} {q x:Str} {p pos lpos:Pos} {params:Arguments} {body:Expr} {scope:Scope} {c P fr:Addr} {fdr:FuncData} {Nl:List Str} {me:M Dv} {n ncl j:Nat} {mb:MS} {caps:List Nat}
theorem zjw (g:Good X G E k) (hj:j≤k) (hfn:∀ y,X.fn y=true)
    (F:∀ base,X.K.In base→base.Ns mainGlobals X.mg→FnOk X.prog X.w X.K X.mg base (CXm X.prog X.w base) j fr fdr [x] (zfz G base Nl params body scope me n ncl mb))
    (hg:Gl X q) (hm:X.mg q=some (.ref fr)) (hk:PySem.W.keepIn X.K (.ref fr)=true) (hb:Binds X.K fdr [x] [])
    (hdef:defaultsOf params X.env=([],[])) (hq:X.env.qual ++ "<lambda>" = G.lq) (hP:G.tab=some P) (hcode:X.env.code=.ref c) (hC:PySem.W.CodeHd X.base c P) (hB:z6l X.mg X.base)
    (LS:LamScope Nl scope) (hkind:∀ y∈Nl,X.env.scope.names.lookup y=some .cell) (hcl:caps.length=Nl.length) (hcap:∀ (i j:Nat) (y:Str),caps[i]?=some j→Nl[i]?=some y→X.N[j]?=some y)
    (hdb:(q==("__debug__" : Str))=false) (he:starEach [.Lambda params body scope lpos] X.env=[(false,eval (.Lambda params body scope lpos) X.env)]:=by rfl):
    Snd X G E (.Call (.Name q p) [.Lambda params body scope lpos] [] pos) (mRef caps n ncl mb me):=by
  intro hK pins s σ H Q I ⟨μ,ρ,h,rs,sm,o⟩
  unfold mRef at o
  cases hcd:capD caps ρ with
  | none=>rw [hcd] at o;exact o.elim
  | some ds=>
  rw [hcd] at o
  obtain ⟨hdl,hdg⟩:=z9r hcd
  have hfree:∀ y,(y,NameKind.free)∈scope.names→X.env.kindOf y=some .cell∨X.env.kindOf y=some .free:=fun y hy=>.inl (hkind y (LS.all _ hy rfl))
  have hfc:∀ y,(y,NameKind.free)∈scope.names→∃ c,X.env.cells.lookup y=some c:=fun y hy=>I.ok.has y (hfree y hy)
  refine wpAny_Call_Name_kw (z4b I hg hm ?_ hdb)
  refine PySem.W.callWith_K (h₀:=X.base) I.ok.mod.kin hk (thn (z17 (zmw (G:=G) (lpos:=lpos) (body:=body) hdef hq hP hcode hC hB hfree) z27 he pos pins s σ H
    (fun vs H1=>∃ f c' pm ctv oc,vs=[.ref f]∧zmv H H1∧TabOk G H1∧H1 f=some (.frz (PySem.W.kla_obj "<lambda>" G.lq params body scope (z18 X.env scope.names []) pm c' ctv) (.own 0))∧H1 c'=some (.frz oc (.own 0))∧zf8 G.lq oc) I
    ⟨sm.tab,fun f c' pm ctv oc H1 st tb e1 e2 e3=>⟨f,c',pm,ctv,oc,rfl,st,tb,e1,e2,e3⟩⟩) fun us s1 ⟨vs,H1,I1,r,f,c',pm,ctv,oc,ev,st,tb,e1,e2,e3⟩=>⟨I1.kIn, ?_⟩) he rfl
  subst ev
  generalize hcs:z18 X.env scope.names []=cl at *
  have kb:∀ b u,X.base.get? b=some u→(z3s X.base s1.heap (cl.map (·.2))).get? b=some u:=fun b u e=>z4u (I1.bk _ _ e) (.inl ⟨u,e⟩)
  have clc:∀ y cc,(y,cc)∈cl→cl.lookup y=some cc→X.env.cells.lookup y=some cc:=fun y cc _ e=>(z9t hfc (by rw [hcs];exact e)).2
  have memc:∀ b,b∈cl.map (·.2)→∃ y,X.env.cells.lookup y=some b:=fun b hb=>by
    obtain ⟨⟨y,cc⟩,hm1,rfl⟩:=List.mem_map.mp hb
    have:∀ (l:List (Str×NameKind)) (acc:List (Str×Addr)),(∀ y cc,(y,cc)∈acc→X.env.cells.lookup y=some cc)→(∀ y,(y,NameKind.free)∈l→∃ c,X.env.cells.lookup y=some c)→∀ y cc,(y,cc)∈z18 X.env l acc→X.env.cells.lookup y=some cc:=by
      intro l
      induction l with
      | nil=>exact fun acc h1 _=>h1
      | cons a l ih=>
        obtain ⟨y0,k0⟩:=a
        intro acc h1 h2
        rw [z18]
        refine ih _ (fun y cc hm2=>?_) fun y hy=>h2 y (List.mem_cons_of_mem _ hy)
        cases hk0:k0==NameKind.free with
        | true=>
          rw [hk0,if_pos rfl] at hm2
          rcases List.mem_cons.mp hm2 with z | z
          · cases z
            have ek:k0=.free:=by cases k0 <;> first | rfl | cases hk0
            subst ek
            obtain ⟨c3,h3⟩:=h2 y0 (List.mem_cons_self ..)
            rw [h3];rfl
          · exact h1 _ _ z
        | false=>
          rw [hk0,if_neg (by simp)] at hm2
          exact h1 _ _ hm2
    exact ⟨y,this scope.names [] (fun _ _ z=>by cases z) hfc y cc (by rw [hcs];exact hm1)⟩
  have M0:=I1.ok.mod
  have nsk:∀ {a:Addr} {m:Str→Option Value},X.base.Ns a m→(z3s X.base s1.heap (cl.map (·.2))).Ns a m:=fun hn=>hn.keeps kb
  have hM:Mod X.K X.mg (z3s X.base s1.heap (cl.map (·.2))):=⟨M0.kin.keeps kb,nsk M0.glob,(let ⟨mb,a,b⟩:=M0.blt;⟨mb,nsk a,b⟩),M0.nolimit.keeps kb⟩
  have hbs:∀ b u,(z3s X.base s1.heap (cl.map (·.2))).get? b=some u→s1.heap.get? b=some u∧H1 b=none:=fun b u e=>by
    obtain ⟨g1,g2⟩:=z9s e
    refine ⟨g1, ?_⟩
    rcases g2 with ⟨u',g2⟩ | g2
    · exact (I1.bs _ _ g2).2
    · obtain ⟨y,hy⟩:=memc b g2
      exact I1.freeC y b hy
  have nbf:∀ b∈frs X.stack,(z3s X.base s1.heap (cl.map (·.2))).get? b=none:=fun b hb=>by
    cases qq:(z3s X.base s1.heap (cl.map (·.2))).get? b with
    | none=>rfl
    | some u=>
      exfalso
      obtain ⟨g1,g2⟩:=z9s qq
      rcases g2 with ⟨u',g2⟩ | g2
      · have:=(I1.stack.mem hb).1
        rw [this] at g2;cases g2
      · obtain ⟨y,hy⟩:=memc b g2
        rcases List.mem_cons.mp (I1.stkSub b hb) with z | z
        · exact I1.cne y b hy z
        · obtain ⟨v0,ob,ho1,hd1⟩:=I1.cell y b hy
          have fm:∀ z∈X.fs,z<X.s₀.heap.objs.size:=fun z hz=>by
            obtain ⟨_,o2,h2,_⟩:=I1.ok.funs.mem hz
            exact Heap.lt_size h2
          exact absurd (Nat.lt_of_lt_of_le (fm b z) (I1.ok.cab y b (hfn y) hy)) (Nat.lt_irrefl _)
  have hfun:s1.heap.FunFrames (z3s X.base s1.heap (cl.map (·.2))) X.stack:=by
    have all:∀ (l:List Env),(∀ b∈frs l,b∈frs X.stack)→s1.heap.FunFrames X.base l→s1.heap.FunFrames (z3s X.base s1.heap (cl.map (·.2))) l:=by
      intro l
      induction l with
      | nil=>intro _ _;trivial
      | cons env r ih=>
        intro hs hl
        obtain ⟨hk',⟨L,o',hf',hn',ho',hd'⟩,hr'⟩:=hl
        have hL:L∈frs (env::r):=by unfold frs;rw [List.filterMap_cons,hf'];exact List.mem_cons_self
        exact ⟨hk',⟨L,o',hf',nbf L (hs L hL),ho',hd'⟩,ih (fun b hb=>hs b (by unfold frs;rw [List.filterMap_cons,hf'];exact List.mem_cons_of_mem _ hb)) hr'⟩
    exact all X.stack (fun _ hb=>hb) I1.stack
  have e0:Env0 X.prog X.w X.K X.mg (z3s X.base s1.heap (cl.map (·.2))) X.A X.stack s1 H1:=⟨I1.ok.frames,hM,hbs,Nat.le_of_eq (PySem.W.hideAll_size _ _),hfun,I1.stkFree,I1.hok,I1.bare⟩
  have xt:Ext μ h.length H μ h.length H1:=⟨Nat.le_refl _,fun _ _=>rfl,fun a u im z=>st a u (fun ps w=>by subst w;exact im) z⟩
  have sm1:Sim G μ h H1:=⟨sm.inj,fun i ob z=>by
    have r0:=sm.ob i ob z
    cases ob with
    | lst xs=>obtain ⟨vs,z1,z2⟩:=r0;exact ⟨vs,st _ _ (fun _ w=>by cases w) z1,RelDL.mono xt _ _ z2⟩,tb⟩
  have look:∀ y cc,cl.lookup y=some cc→(y,NameKind.free)∈scope.names∧X.env.cells.lookup y=some cc:=fun y cc e=>z9t hfc (by rw [hcs];exact e)
  have memL:∀ y cc,cl.lookup y=some cc→cc∈cl.map (·.2):=fun y cc e=>List.mem_map.mpr ⟨(y,cc),PySem.mem_of_lookup e,rfl⟩
  have L:LamAt G (z3s X.base s1.heap (cl.map (·.2))) H1 μ h.length Nl params body scope f c' cl ds:=by
    refine ⟨⟨pm,ctv,e1⟩,⟨oc,e2,e3⟩,fun y z cc a b=>I1.ok.inj y z cc (look y cc a).2 (look z cc b).2,hdl.trans hcl,fun i y hy=>?_,fun y cc e=>?_,fun i y cc d hy hd e=>?_⟩
    · have hf1:=LS.fr y (List.mem_of_getElem? hy)
      have:=z2p (env:=X.env) (x:=y) scope.names [] (.inl (PySem.mem_of_lookup hf1))
      rw [hcs] at this
      exact ⟨_,this⟩
    · obtain ⟨v0,ob,ho1,hd1⟩:=I1.cell y cc (look y cc e).2
      exact ⟨ob,v0,z4u ho1 (.inr (memL y cc e)),hd1⟩
    · obtain ⟨jj,hjj,hρ⟩:=hdg i d hd
      obtain ⟨v,hv,rd⟩:=rs.at_ jj d hρ
      have hNj:=hcap i jj y hjj hy
      have hyk:=hkind y (List.mem_of_getElem? hy)
      obtain ⟨m,hn,hl⟩:=I1.loc
      obtain ⟨u,ru,lk⟩:=hl jj y v hNj hv (.inr (.inl hyk))
      rcases lk with ⟨kl,_⟩ | ⟨_,c4,ec4,ob,ho1,hd1⟩
      · have kl':X.env.scope.names.lookup y=some .local:=kl
        rw [hyk] at kl';cases kl'
      · rw [(look y cc e).2] at ec4;cases ec4
        exact ⟨ob,u,v,z4u ho1 (.inr (memL y cc e)),hd1,ru,RelD.mono xt _ _ rd⟩
  have hall:∀ y cc,cl.lookup y=some cc→y∈Nl:=fun y cc e=>LS.all _ (look y cc e).1 rfl
  have hlen:(us++([]:List Value)).length=[x].length:=by rw [List.append_nil,← r.length];rfl
  have hbt:=hb s1 us I1.kIn hlen
  rw [List.append_nil] at hbt
  refine wpAny_call (codeAny_mono ((F _ hM.kin hM.glob).run X.A X.stack s1 H1 ⟨us,[]⟩ us [.ref f] Q E (g.room.mono hj) e0 hbt r ⟨f,c',cl,ds,μ,h,rfl,L,hall,sm1,o.ext xt⟩) fun rr s' hq'=>?_)
  cases rr with
  | ok fl=>
    cases fl with
    | ret u=>exact I1.after hq'
    | next=>exact False.elim hq'
    | brk=>exact False.elim hq'
    | cont=>exact False.elim hq'
  | error ev=>
    obtain ⟨e,C,H',eu,os,bare,un,hok,fl,hE⟩:=hq'
    refine g.pas pins σ H1 s1 ev s' I1 ⟨e,C,H',eu,os,bare,un,hok, ?_,hE⟩
    obtain ⟨T,a0,w1,w2,w3,w4⟩:=fl
    refine ⟨T,a0,w1,w2, ?_,w4⟩
    cases qq:X.base.get? e with
    | none=>rfl
    | some u=>have:=kb e u qq;rw [w3] at this;cases this
end
section
variable {X:Cx} {G:Cfg}
open Classical in
noncomputable def isT (H:Hp) (tx:Dt) (u:Value):Bool:=decide (∃ v t,RelV v u∧Den Tru H t v∧deq t tx=true)
open Classical in
theorem zi5 {H:Hp} {tx t:Dt} {u:Value} {v:V} (r:RelV v u) (d:Den Tru H t v):isT H tx u=deq t tx:=by
  unfold isT
  cases q:deq t tx with
  | true=>exact decide_eq_true ⟨v,t,r,d,q⟩
  | false=>
    refine decide_eq_false fun ⟨v',t',r',d',q'⟩=>?_
    have e:=r'.inj r
    subst e
    rw [Den.inj t' t v' d' d,q] at q'
    cases q'
theorem z4v {H:Hp} {tx:Dt}:∀ {ts:List Dt} {vs:List V} {us:List Value},DenL Tru H ts vs→Vals vs us→us.any (isT H tx)=ts.any fun t=>deq t tx
  | [],_,_,d,r=>by rw [DenL] at d;subst d;cases r;rfl
  | t::ts,_,_,d,r=>by
    rw [DenL] at d;obtain ⟨v,rr,rfl,d1,d2⟩:=d
    cases r with
    | cons r1 r2=>rw [List.any_cons,List.any_cons,zi5 r1 d1,z4v d2 r2]
def rInG (K:PySem.W.Frag) (neg:Bool):R2:=fun x y H Q=>∃ a vs ts tx,y=.ref a∧(SqL K H a vs∨SqT K H a vs)∧DenL Tru H ts vs∧Den Tru H tx x∧(∀ t∈ts,dep t≤z0w∧nod t=true)∧nod tx=true∧Q (.bl (if neg then !(ts.any fun t=>deq t tx) else ts.any fun t=>deq t tx)) H
theorem z47 {pins:List (Addr×Obj)} {σ:St} {H:Hp} {s:Shared} {x:V} {v:Value} {vs:List V} {its:List Value} {ts:List Dt} {tx:Dt} (hu:X.A.units+64<cLine) (I:Inv X pins σ H s) (rx:RelV x v) (r:Vals vs its) (d:DenL Tru H ts vs) (dx:Den Tru H tx x)
    (ht:∀ t∈ts,dep t≤z0w∧nod t=true) (nx:nod tx=true):∀ y,y∈its.toArray→SeqAt.EqAt X.A.in1 s y v (isT H tx y):=fun y hy=>by
  have hy':y∈its:=by simpa using hy
  obtain ⟨j,hj,e⟩:=List.mem_iff_getElem.mp hy'
  have hl:=r.length
  obtain ⟨u,eu,ru⟩:=r.get (i:=j) (x:=vs[j]'(by omega)) (List.getElem?_eq_getElem (by omega))
  have:u=y:=by rw [List.getElem?_eq_getElem hj,e] at eu;cases eu;rfl
  subst this
  obtain ⟨t,et,dt⟩:=d.get (i:=j) (List.getElem?_eq_getElem (by omega:j<vs.length))
  obtain ⟨h1,h2⟩:=ht t (List.mem_of_getElem? et)
  rw [zi5 ru dt]
  exact (zc1 I.hok z0w X.A.in1 t tx _ x _ v h1 (by show X.A.units+1+z0w+1<cLine;unfold z0w;omega) h2 nx dt dx ru rx).2
theorem zmx (hu:X.A.units+64<cLine):OpR X (compareOp .In) (rInG X.K false):=by
  intro pins s σ H x y v u Q I r1 r2 ⟨a,vs,ts,tx,e,hs,d,dx,ht,nx,q⟩
  subst e
  cases r2
  rcases hs with hs | hs
  · obtain ⟨its,r,pl,hz⟩:=I.list hs
    refine SeqAt.in_listAt (isT H tx) pl.isList (z47 hu I r1 r d dx ht nx) ?_
    exact ⟨.bl _,H,I,by rw [show its.toArray.any (isT H tx)=its.any (isT H tx) by simp,z4v d r];rfl,q⟩
  · obtain ⟨its,r,pl,hz⟩:=I.tuple hs
    refine SeqAt.in_tupleAt (isT H tx) pl (z47 hu I r1 r d dx ht nx) ?_
    exact ⟨.bl _,H,I,by rw [show its.toArray.any (isT H tx)=its.any (isT H tx) by simp,z4v d r];rfl,q⟩
theorem zcp (hu:X.A.units+64<cLine):OpR X (compareOp .NotIn) (rInG X.K true):=by
  intro pins s σ H x y v u Q I r1 r2 ⟨a,vs,ts,tx,e,hs,d,dx,ht,nx,q⟩
  subst e
  cases r2
  rcases hs with hs | hs
  · obtain ⟨its,r,pl,hz⟩:=I.list hs
    refine SeqAt.notIn_listAt (isT H tx) pl.isList (z47 hu I r1 r d dx ht nx) ?_
    exact ⟨.bl _,H,I,by rw [show its.toArray.any (isT H tx)=its.any (isT H tx) by simp,z4v d r];rfl,q⟩
  · obtain ⟨its,r,pl,hz⟩:=I.tuple hs
    refine SeqAt.notIn_tupleAt (isT H tx) pl (z47 hu I r1 r d dx ht nx) ?_
    exact ⟨.bl _,H,I,by rw [show its.toArray.any (isT H tx)=its.any (isT H tx) by simp,z4v d r];rfl,q⟩
def inD (scr:List Int) (neg:Bool) (x c:Dv) (h:Hs):Rs Dv:=match seqD scr c h with
  | some ys=>match optL (pur z0w h) ys,pur z0w h x with
    | some ts,some tx=>.ok (.bl (if neg then !(ts.any fun t=>deq t tx) else ts.any fun t=>deq t tx)) h
    | _,_=>.bad
  | none=>.bad
theorem zcq {μ:Nat→Addr} {h:Hs} {H:Hp} (s:Sim G μ h H):∀ {xs:List Dv} {vs:List V} {ts:List Dt},RelDL G μ h.length H xs vs→optL (pur z0w h) xs=some ts→DenL Tru H ts vs∧∀ t∈ts,dep t≤z0w∧nod t=true
  | [],_,_,r,e=>by cases e;rw [RelDL] at r;subst r;exact ⟨DenL.nil,fun t ht=>by simp at ht⟩
  | x::xs,_,_,r,e=>by
    rw [RelDL] at r;obtain ⟨v,rr,rfl,r1,r2⟩:=r
    unfold optL at e
    cases q:pur z0w h x with
    | none=>rw [q] at e;cases e
    | some y=>
      rw [q] at e
      dsimp only at e
      cases q2:optL (pur z0w h) xs with
      | none=>rw [q2] at e;cases e
      | some ys=>
        rw [q2] at e;cases e
        obtain ⟨a1,a2,a3⟩:=z5o s _ x v y r1 q
        obtain ⟨b1,b2⟩:=zcq s r2 q2
        refine ⟨DenL.cons a1 b1,fun t ht=>?_⟩
        rcases List.mem_cons.mp ht with rfl | ht
        · exact ⟨a2,a3⟩
        · exact b2 t ht
theorem zmy (neg:Bool):OpD G (rInG G.K neg) (inD G.scr neg):=by
  intro E μ h H x y vx vy Q s rx ry o
  unfold inD at o
  cases q:seqD G.scr y h with
  | none=>rw [q] at o;exact o.elim
  | some ys=>
    rw [q] at o
    dsimp only at o
    split at o
    · rename_i ts tx e1 e2
      obtain ⟨a,vs,rfl,hs,r⟩:=z8i s ry q
      obtain ⟨b1,b2⟩:=zcq s r e1
      obtain ⟨c1,c2,c3⟩:=z5o s _ x vx tx rx e2
      exact ⟨a,vs,ts,tx,rfl,hs,b1,c1,b2,c3,o.val s rfl⟩
    · exact o.elim
end
section
variable {X:Cx} {G:Cfg}
end
def z1w (c:M Bool) (body:MS):Nat→MS
  | 0=>fun _ _=>.bad
  | f+1=>fun ρ h=>(c ρ h).thenS fun b h1=>if b=true then (match body ρ h1 with
    | .nx ρ2 h2=>z1w c body f ρ2 h2
    | .ct ρ2 h2=>z1w c body f ρ2 h2
    | .bk ρ2 h2=>.nx ρ2 h2
    | r=>r) else .nx ρ h1
section
variable {X:Cx} {G:Cfg} {E:XK} {c:Expr} {body:List Stmt} {mc:M Bool} {mb:MS} {pos:Pos}
theorem z9u (n:Nat) (hp:PassesOwn (model X.prog X.w) X.A X.env X.xe) (hc:SndT X G E c mc) (hb:z3p X G E body mb):SndS X G E (.While c body [] pos) (z1w mc mb n):=fun hK=>PS.imp (zew hp (hc hK) (hb hK)) fun D σ H ⟨μ,ρ,h,rs,s,o⟩=>by
  refine ⟨fun m σ H=>∃ μ ρ h,RelS G μ h.length H ρ σ∧Sim G μ h H∧SOut G E μ h.length H (z1w mc mb m ρ h) D,⟨n,μ,ρ,h,rs,s,o⟩, ?_⟩
  rintro m σ1 H1 ⟨μ1,ρ1,h1,rs1,s1,o1⟩
  cases m with
  | zero=>exact o1.elim
  | succ m=>
    refine z5q rs1 s1 o1 fun μ2 b h2 H2 x2 rs2 s2 o2=>?_
    cases b with
    | false=>rw [if_neg (by decide)] at o2 ⊢;exact o2 μ2 H2 σ1 Ext.refl s2 rs2
    | true=>
      rw [if_pos rfl] at o2 ⊢
      refine ⟨fun σ' H'=>∃ μ ρ h,RelS G μ h.length H' ρ σ'∧Sim G μ h H'∧SOut G E μ h.length H' (z1w mc mb m ρ h) D,fun σ' H' z=>⟨m,Nat.lt_succ_self m,z⟩,μ2,ρ1,h2,rs2,s2, ?_⟩
      cases q:mb ρ1 h2 with
      | nx ρ3 h3=>rw [q] at o2;exact fun μ4 H4 σ4 x4 s4 rs4=>⟨μ4,ρ3,h3,rs4,s4,SOut.ext o2 x4⟩
      | ct ρ3 h3=>rw [q] at o2;exact fun μ4 H4 σ4 x4 s4 rs4=>⟨μ4,ρ3,h3,rs4,s4,SOut.ext o2 x4⟩
      | bk ρ3 h3=>rw [q] at o2;exact o2
      | rt d h3=>rw [q] at o2;exact o2
      | ex d h3=>rw [q] at o2;exact o2
      | bad=>rw [q] at o2;exact o2.elim
end
section
variable {X:Cx} {G:Cfg} {E:XK} {e o:Expr} {mo me:M Dv} {pos apos cpos np p2:Pos} {y:Str}
def popD (x i:Dv) (h:Hs):Rs Dv:=match x,i with
  | .ref j,.int n=>match getL h j with
    | some xs=>match ixN xs.length n with
      | some k=>match xs[k]? with
        | some d=>if xs.length≤1000000 then .ok d (h.set j (.lst (xs.eraseIdx k))) else .bad
        | none=>.bad
      | none=>.bad
    | none=>.bad
  | _,_=>.bad
theorem z4w {μ:Nat→Addr} {n:Nat} {H:Hp}:∀ {ds:List Dv} {vs:List V} (k:Nat),RelDL G μ n H ds vs→RelDL G μ n H (ds.eraseIdx k) (vs.eraseIdx k)
  | [],_,_,h=>by rw [RelDL] at h;subst h;exact RelDL.nil
  | d::ds,_,0,h=>by rw [RelDL] at h;obtain ⟨v,r,rfl,h1,h2⟩:=h;exact h2
  | d::ds,_,k+1,h=>by rw [RelDL] at h;obtain ⟨v,r,rfl,h1,h2⟩:=h;exact RelDL.cons h1 (z4w k h2)
def mPop (mo me:M Dv):M Dv:=fun ρ h=>(mo ρ h).bind fun x h1=>if isL x h1=true then (me ρ h1).bind fun d h2=>popD x d h2 else .bad
theorem zjx (ho:Snd X G E (.Name y np) mo) (he:Snd X G E e me) (hs:starEach [e] X.env=[(false,eval e X.env)]:=by rfl) (hl:(apos.endLine==cpos.line)=true:=by rfl):Snd X G E (.Call (.Attribute (.Name y np) "pop" apos) [e] [] cpos) (mPop mo me):=fun hK=>
  PE.imp (zf5 PySem.F.plainAttrs_list PySem.F.slot_list_pop PySem.F.type_list_pop zf7 (ho hK) (z17 (he hK) z27 hs) rfl (by rw [hs];rfl) hl hs rfl) fun σ H Q ⟨μ,ρ,h,rs,s,oo⟩=>z0m rs s oo fun μ1 x h1 vx H1 x1 rs1 s1 r1 o1=>by
    split at o1
    · rename_i hl
      refine ⟨z9n s1 r1 hl,z0m rs1 s1 o1 fun μ2 d h2 vd H2 x2 rs2 s2 r2 o2=>?_⟩
      cases x with
      | ref j=>
        cases d with
        | int n=>
          dsimp only [popD] at o2
          cases q:getL h2 j with
          | none=>rw [q] at o2;exact o2.elim
          | some xs=>
            rw [q] at o2
            dsimp only at o2
            cases q2:ixN xs.length n with
            | none=>rw [q2] at o2;exact o2.elim
            | some k=>
              rw [q2] at o2
              dsimp only at o2
              cases q3:xs[k]? with
              | none=>rw [q3] at o2;exact o2.elim
              | some d'=>
                rw [q3] at o2
                dsimp only at o2
                split at o2
                · rename_i hz
                  obtain ⟨vs,ea,ra⟩:=s2.ob j _ (z0e q)
                  obtain ⟨_,rfl⟩:=RelD.mono x2 _ _ r1
                  rw [RelD] at r2;subst r2
                  obtain ⟨v,ev,rv⟩:=ra.get q3
                  obtain ⟨i1,i2,i3,i4⟩:=z8d q2
                  obtain ⟨x3,s3⟩:=s2.write (z0e q) (z4w k ra)
                  exact ⟨_,vs,n,k,v,rfl,rfl,ea,by omega,by omega,by rw [ra.length];exact i1,ev,o2 μ2 _ _ x3 s3 (RelD.mono x3 _ _ rv)⟩
                · exact o2.elim
        | _=>exact o2.elim
      | _=>exact o2.elim
    · exact o1.elim
def cutD (xs:List Dv) (lo hi:Option Int):List Dv:=(xs.drop (HT.sIx xs.length 0 lo)).take (HT.sIx xs.length xs.length hi - HT.sIx xs.length 0 lo)
theorem zcr {μ:Nat→Addr} {n:Nat} {H:Hp} {xs:List Dv} {vs:List V} (r:RelDL G μ n H xs vs) (lo hi:Option Int):RelDL G μ n H (cutD xs lo hi) (cutV vs lo hi):=by
  unfold cutD cutV
  rw [r.length]
  exact (r.drop _).take _
abbrev MO:=Ev→Hs→Rs (Option Int)
def toOf (G:Cfg) (E:XK) (m:MO):TO:=fun σ H Q=>∃ μ ρ h,RelS G μ h.length H ρ σ∧Sim G μ h H∧Out G E μ h.length H (m ρ h) (fun _ _ _ a b=>b=a) Q
def SndO (X:Cx) (G:Cfg) (E:XK) (pe:Option Expr) (m:MO):Prop:=X.K=G.K→PO X pe (toOf G E m)
theorem PO.imp {pe:Option Expr} {t t':TO} (h:PO X pe t) (i:∀ σ H Q,t' σ H Q→t σ H Q):PO X pe t':=fun pins s σ H Q I q=>h pins s σ H Q I (i σ H Q q)
def mNoB:MO:=fun _ h=>.ok none h
def asI:Dv→Hs→Rs (Option Int)
  | .int i,h=>.ok (some i) h
  | _,_=>.bad
def mBd (m:M Dv):MO:=fun ρ h=>(m ρ h).bind asI
theorem zjy:SndO X G E none mNoB:=fun _=>PO.imp zj1 fun σ H Q ⟨μ,ρ,h,rs,s,oo⟩=>oo.val s rfl
theorem zjz (he:Snd X G E e me):SndO X G E (some e) (mBd me):=fun hK=>PO.imp (zj2 (he hK)) fun σ H Q ⟨μ,ρ,h,rs,s,oo⟩=>z0m rs s oo fun μ1 d h1 v H1 x1 rs1 s1 r1 o1=>by
  cases d with
  | int i=>exact ⟨i,r1,o1.val s1 rfl⟩
  | _=>exact o1.elim
end
section
variable {X:Cx} {G:Cfg} {E:XK} {pos:Pos}
theorem zk0:Snd X G E (.Dict [] [] pos) (mC .edc):=fun _ pins s σ H Q I ⟨μ,ρ,h,rs,sm,o⟩=>by
  have hb:sysModules<s.heap.objs.size:=Nat.lt_trans (by decide) (I.mod.glob.keeps I.bk).lt
  have hn:=I.hok.fresh (Nat.le_refl s.heap.objs.size)
  refine wpAny_Dict_empty ⟨.ref s.heap.objs.size,_,I.laid (a:=s.heap.objs.size) (o:=.dK []) (t':=s.toks) (fun _ _ q=>Heap.get?_push_of_some _ q) (Nat.le_refl _) ⟨Nat.zero_le _,beq_eq_false_iff_ne.mpr (Ne.symm (Nat.ne_of_lt hb)),[],.nil,Heap.DictOf.new s.heap⟩,rfl, ?_⟩
  exact o μ _ _ (Ext.same (z0a hn)) (sm.same (z0a hn)) ⟨_,rfl,z0b⟩
theorem zcs {x:Str} {i:Int} {t:Tok} (hg:Gl X x) (hm:X.mg x=some (.int i t)) (hd:(x==("__debug__" : Str))=false:=by decide):Snd X G E (.Name x pos) (mC (.int i)):=fun _=>
  PE.imp (zbj (v:=.int i) hg hm ⟨t,rfl⟩ hd) fun σ H Q ⟨μ,ρ,h,rs,s,o⟩=>o.val s (show RelD G μ _ H (.int i) (.int i) from rfl)
def negD:Dv→Hs→Rs Dv
  | .int i,h=>.ok (.int (-i)) h
  | _,_=>.bad
theorem zk1:UnD G (rU fun i=>.int (-i)) negD:=by
  intro E μ h H x vx Q s r o
  cases x with
  | int i=>rw [RelD] at r;subst r;exact ⟨i,rfl,o.val s rfl⟩
  | _=>exact o.elim
end
section
variable {X:Cx} {G:Cfg} {E:XK} {tg a b c:Expr} {p pos:Pos} {ms:M (List Dv)}
end
structure Lawful (lp:Program) (w:World) (K:PySem.W.Frag) (mg:Str→Option Value) (base:Heap) (k:Nat) (fa:Addr) (fd:FuncData) (x:Str) (P a:Addr) (ns:List Int):Prop where
  ex:∃ (G:Cfg) (lawF:List Dv→Hs→Rs Dv) (hh:Hs),G.K=K∧G.scr=ns∧G.sa=a∧G.tab=some P∧lawF [.scr] []=.ok (.bl true) hh∧FnOk lp w K mg base (CXm lp w base) k fa fd [x] (spOf G lawF)
theorem zct {lp:Program} {w:World} {K:PySem.W.Frag} {mg mb:Str→Option Value} {k:Nat} {fa a c P:Addr} {fd:FuncData} {x:Str} {s₁:Shared} {vs:List Value} {ns:List Int}
    (KX:K.In s₁.heap) (hns:s₁.heap.Ns mainGlobals mg) (hb:s₁.heap.Ns builtinsNs mb) (hbb:∀ x:Str,x ≠ "__name__"→mb x=bootBuiltins x) (hlim:s₁.heap.NoLimit) (hg:s₁.gens=#[])
    (ha:s₁.heap.get? a=some { cls:=.type "list",data:=.seq vs.toArray }) (hi:IntsAre vs ns) (hl:ns.length≤sizeLine) (hr:Room k callerA)
    (hC:PySem.W.CodeHd s₁.heap c P) (hP:s₁.heap.get? P=some (PySem.W.tabObj #[])) (hB:z6l mg s₁.heap) (hnt:PySem.W.noTabs K=true)
    (F:∀ base:Heap,K.In base→base.Ns mainGlobals mg→PySem.W.CodeHd base c P→z6l mg base→Lawful lp w K mg base k fa fd x P a ns) (hbind:∀ (s:Shared) (u:Value),BindsTo s fd ⟨[u],[]⟩ [(x,u)]):
    codeAny (model lp w) callerA (.call (.ref fa) ⟨[.ref a],[]⟩) (fun r s'=>r=.ok (.ret (.bool true))∧OldK s₁.heap s'.heap∧s'.os=s₁.os∧AllBare s'.gens) s₁:=by
  have rv:=z7b hi
  have lenV:=hi.length
  have KP:K.lookup P=none:=by
    cases q:K.lookup P with
    | none=>rfl
    | some o=>
      have e:=KX P o q
      rw [hP] at e;cases e
      have:=List.all_eq_true.mp hnt (P,PySem.W.tabObj #[]) (PySem.W.mem_of_lookupK q)
      exact absurd (show false=true from this) Bool.false_ne_true
  have aP:a≠P:=fun z=>by rw [z,hP] at ha;cases ha
  have core:∀ H:Hp,H P=some (.tbl #[])→FzL K H a (ns.map V.int)→HOk lp w H s₁.heap→(∀ b,H b≠none→b=a∨b=P)→(H a≠none→K.lookup a=none)→(∀ u,H a=some u→∃ o xs,u=.frz o (.lst xs))→
      codeAny (model lp w) callerA (.call (.ref fa) ⟨[.ref a],[]⟩) (fun r s'=>r=.ok (.ret (.bool true))∧OldK s₁.heap s'.heap∧s'.os=s₁.os∧AllBare s'.gens) s₁:=by
    intro H hHP hS hok hA hK hF
    have base_of:∀ {b:Addr} {o:Obj},s₁.heap.get? b=some o→H b=none→(hidT s₁.heap H).get? b=some o:=fun e n=>zet e n
    have none_of:∀ {b:Addr},b≠a→b≠P→H b=none:=fun {b} h1 h2=>by
      cases q:H b with
      | none=>rfl
      | some u=>exact ((hA b (by rw [q];simp)).elim h1 h2).elim
    have noD:∀ {b:Addr} {o:Obj} {es:Array DictEntry} {ep:Nat},s₁.heap.get? b=some o→o.data=.dict es ep→H b=none:=fun {b o es ep} e d=>none_of (fun z=>by
        subst z;rw [ha] at e;cases e
        have d':Data.seq vs.toArray _=Data.dict es ep:=d
        cases d') (fun z=>by
        subst z;rw [hP] at e;cases e
        have d':Data.fields _=Data.dict es ep:=d
        cases d')
    have nsK:∀ {b:Addr} {m:Str→Option Value},s₁.heap.Ns b m→(hidT s₁.heap H).Ns b m:=fun {b m} ⟨o,es,ep,e,d,r⟩=>⟨o,es,ep,base_of e (noD e d),d,r⟩
    have hKb:K.In (hidT s₁.heap H):=fun b o e=>base_of (KX b o e) (by
      cases q:H b with
      | none=>rfl
      | some u=>
        rcases hA b (by rw [q];simp) with z | z
        · subst z;rw [hK (by rw [q];simp)] at e;cases e
        · subst z;rw [KP] at e;cases e)
    have hM:Mod K mg (hidT s₁.heap H):=⟨hKb,nsK hns,⟨mb,nsK hb,hbb⟩,let ⟨mc,h1,h2⟩:=hlim;⟨mc,nsK h1,h2⟩⟩
    have hCb:PySem.W.CodeHd (hidT s₁.heap H) c P:=by
      obtain ⟨o,vs',file,tf,flags,tg,inF,text,tt,e1,r1,r⟩:=hC
      refine ⟨o,vs',file,tf,flags,tg,inF,text,tt,base_of e1 (none_of (fun z=>?_) r.2.2.2.2.2.2.2),r1,r⟩
      subst z;rw [ha] at e1;cases e1;exact absurd r1 (by intro w;injection w with w;exact absurd w (by decide))
    have hBb:z6l mg (hidT s₁.heap H):=by
      obtain ⟨bm,ob,b1,b2,b3,b4,b5,b6⟩:=hB
      refine ⟨bm,ob,b1,b2,base_of b3 (none_of (fun z=>?_) (fun z=>?_)),b4,b5,b6⟩
      · subst z;rw [ha] at b3;cases b3;exact absurd b4 (by intro w;injection w with w;exact absurd w (by decide))
      · subst z;rw [hP] at b3;cases b3;cases b4
    have e0:Env0 lp w K mg (hidT s₁.heap H) callerA [] s₁ H:=⟨rfl,hM,fun b o e=>zio e,Nat.le_of_eq (zbh _ _),trivial,fun b hb=>absurd (show b∈([]:List Addr) from hb) (by simp),hok,.of_eq hg⟩
    obtain ⟨G,lawF,hh,g1,g2,g3,g4,hlaw,Fn⟩:=(F _ hKb (nsK hns) hCb hBb).ex
    have rd:RelDL G (fun _=>0) 0 H [.scr] [.ref a]:=by
      refine RelDL.cons ?_ RelDL.nil
      rw [RelD,g1,g2,g3]
      exact ⟨rfl,hS⟩
    have sm:Sim G (fun _=>0) [] H:=⟨fun i j h1=>absurd h1 (by simp),fun i o q=>by simp at q,fun P' e=>by
      rw [g4] at e;cases e
      exact ⟨#[],hHP,trivial,fun pos cv q=>by
        have q':(none:Option Value)=some cv:=q
        cases q'⟩⟩
    refine codeAny_mono (Fn.run callerA [] s₁ H ⟨[.ref a],[]⟩ [.ref a] [.ref a] (fun v _=>v=.bl true) (fun _ _ _=>False) hr e0 (hbind s₁ (.ref a)) (.cons rfl .nil) ⟨fun _=>0,[],[.scr],rd,sm, ?_⟩) fun r s' h=>?_
    · rw [hlaw]
      exact fun μ' H' v _ _ r=>r
    cases r with
    | error e=>
      obtain ⟨_,_,_,_,_,_,_,_,_,z⟩:=h
      exact z.elim
    | ok fl=>
      cases fl with
      | next=>exact False.elim h
      | brk=>exact False.elim h
      | cont=>exact False.elim h
      | ret u=>
        obtain ⟨v,H',os,bare,un,hok',r',q⟩:=h
        have q':v=.bl true:=q
        subst q'
        obtain rfl:u=Value.bool true:=r'
        have kept:∀ b o,b≠P→s₁.heap.get? b=some o→s'.heap.get? b=some o:=fun b o hbP e=>by
          cases q:H b with
          | none=>exact un.keep b o e q (by intro z;exact absurd (show b∈([]:List Addr) from z) (by simp)) (by simp)
          | some u=>
            rcases hA b (by rw [q];simp) with z | z
            · subst z
              obtain ⟨ob,xs,rfl⟩:=hF u q
              have z2:=un.frzs b ob _ q
              obtain ⟨e1,_⟩:=hok b _ q
              obtain ⟨e2,_⟩:=hok' b _ z2
              rw [e] at e1;cases e1
              exact e2
            · exact absurd z hbP
        obtain ⟨more,hm⟩:=un.tbls P #[] hHP
        have gP:s'.heap.get? P=some (PySem.W.tabObj (#[]++more)):=hok' P _ hm
        refine ⟨rfl,⟨fun b o e=>?_,fun b o e=>?_⟩,os,bare⟩
        · by_cases hb:b=P
          · subst hb
            rw [hP] at e;cases e
            exact .inr (.inl ⟨(hC.tab hP).isCodeTable,rfl,#[],more,rfl,gP⟩)
          · exact .inl (kept b o hb e)
        · by_cases hb:b=P
          · subst hb;exact ⟨_,gP⟩
          · exact ⟨_,kept b o hb e⟩
  cases hk:K.lookup a with
  | some o=>
    have e:=KX a o hk
    rw [ha] at e
    cases e
    refine core (fun b=>if b=P then some (.tbl #[]) else none) (if_pos rfl) (.inr ⟨_,vs.toArray,_,hk,rfl,rfl,rfl,by rw [List.size_toArray,lenV];exact hl,by simpa using rv⟩) (fun b u z=>?_) (fun b z=>?_) (fun z=>absurd (if_neg aP) z) (fun u z=>?_)
    · by_cases hb:b=P
      · have z':=(if_pos hb).symm.trans z
        cases z'
        subst hb
        exact hP
      · have z':=(if_neg hb).symm.trans z
        cases z'
    · by_cases hb:b=P
      · exact .inr hb
      · exact absurd (if_neg hb) z
    · have z':=(if_neg aP).symm.trans z
      cases z'
  | none=>
    have ea:(fun b=>if b=a then some (HO.frz { cls:=.type "list",data:=.seq vs.toArray } (.lst (ns.map V.int))) else if b=P then some (.tbl #[]) else none) a=some (.frz { cls:=.type "list",data:=.seq vs.toArray } (.lst (ns.map V.int))):=if_pos rfl
    refine core (fun b=>if b=a then some (.frz { cls:=.type "list",data:=.seq vs.toArray } (.lst (ns.map V.int))) else if b=P then some (.tbl #[]) else none) ((if_neg (Ne.symm aP)).trans (if_pos rfl)) (.inl ⟨{ cls:=.type "list",data:=.seq vs.toArray },ea⟩) (fun b u z=>?_) (fun b z=>?_) (fun _=>hk) (fun u z=>?_)
    · by_cases hb:b=a
      · have z':=(if_pos hb).symm.trans z
        cases z'
        subst hb
        exact ⟨ha,by rw [List.length_map];exact hl,vs,_,rv,ha⟩
      · have z':=(if_neg hb).symm.trans z
        by_cases hb2:b=P
        · have z2:=(if_pos hb2).symm.trans z'
          cases z2
          subst hb2
          exact hP
        · have z2:=(if_neg hb2).symm.trans z'
          cases z2
    · by_cases hb:b=a
      · exact .inl hb
      · by_cases hb2:b=P
        · exact .inr hb2
        · exact absurd ((if_neg hb).trans (if_neg hb2)) z
    · have z':=ea.symm.trans z
      cases z'
      exact ⟨_,_,rfl⟩
open PySem PySem.Spec PyProof.Rows L2
theorem gln1 {α:Type} {P:List α→Prop} (h:∀ a,P [a]):∀ us:List α,us.length=1→P us
  | [a],_=>h a
theorem gln2 {α:Type} {P:List α→Prop} (h:∀ a b,P [a,b]):∀ us:List α,us.length=2→P us
  | [a,b],_=>h a b
theorem gln3 {α:Type} {P:List α→Prop} (h:∀ a b c,P [a,b,c]):∀ us:List α,us.length=3→P us
  | [a,b,c],_=>h a b c
theorem tbn {P:Nat→Bool→Prop}:∀ c b,List.lookup c ([]:List (Nat×Bool))=some b→P c b:=fun _ _ h=>nomatch h
theorem tbc {P:Nat→Bool→Prop} {x:Nat} {y:Bool} {l:List (Nat×Bool)} (h:P x y) (hl:∀ c b,l.lookup c=some b→P c b):∀ c b,List.lookup c ((x,y)::l)=some b→P c b:=fun c b e=>by
  rw [List.lookup_cons] at e
  cases q:c==x with
  | true=>rw [q] at e;exact eq_of_beq q▸(Option.some.inj e)▸h
  | false=>rw [q] at e;exact hl c b e
theorem zmz {P:Nat→Prop}:∀ c,c<0→P c:=fun c h=>absurd h (Nat.not_lt_zero c)
theorem z2s {P:Nat→Prop} {n:Nat} (h0:P 0) (h:∀ c,c<n→P (c+1)):∀ c,c<n+1→P c
  | 0,_=>h0
  | c+1,hc=>h c (Nat.lt_of_succ_lt_succ hc)
open PySem PySem.Spec PySem.Calls PyProof.Rows PySem.W L2
abbrev Ys {β:Type} (ob:Frag→β) (obE:β):World→Heap→Prop:=fun _ h=>∃ K:Frag,K.In h∧noTabs K=true∧ob K=obE
theorem ys_of {β:Type} {ob:Frag→β} {obE:β}:∀ (w:World) (s:Shared),ob (frg s.heap)=obE→Ys ob obE w s.heap:=fun _ s e=>⟨frg s.heap,z63 _ _,z64 _ _,e⟩
theorem ys_keeps {β:Type} {ob:Frag→β} {obE:β}:∀ (w:World) (h h':Heap),Ys ob obE w h→(∀ b o,h.get? b=some o→h'.get? b=some o)→Ys ob obE w h':=fun _ _ _ ⟨K,x,n,e⟩ k=>⟨K,x.keeps k,n,e⟩
theorem walkK {β:Type} {ob:Frag→β} {obE:β} {l:OpenLaw} {n k:Nat} {q:Program} {loose:List Str} {XP:(Str→Option Value)→Heap→Prop} {d:DefRec} {x:Str}
    (hn:l.most=some n) (hn2:n≤sizeLine) (hdf:d.params.defaults=[]) (hr:Room k callerA) (hfind:(recsOf q).find? (fun e=>e.name==d.name)=some d)
    (F:∀ (K:Frag) (w:World) (mg:Str→Option Value) (fa:Addr) (h:Heap),ob K=obE→noTabs K=true→K.In h→h.Ns mainGlobals mg→mg d.name=some (.ref fa)→
      ∃ (fd:FuncData) (c P:Addr),(∀ (s:Shared) (u:Value),BindsTo s fd ⟨[u],[]⟩ [(x,u)])∧tabIn K d.name=some (c,P)∧noTabs K=true ∧
        ∀ (base:Heap) (a:Addr) (ns:List Int),ns.length≤n→K.In base→base.Ns mainGlobals mg→CodeHd base c P→z6l mg base→Lawful l.prog w K mg base k fa fd x P a ns):
    WalkO q loose XP (Ys ob obE) l.row.toRowW d [] (fun f vs=>PySem.call f vs):=by
  refine Att.attach_call hn hdf fun w s₀ s₁ mg mb fa o pm cd doc a vs ns G Y ho hd hcd hmg hobj hints hlen hg=>?_
  obtain ⟨K,KX,hnt',hob⟩:=Y
  obtain ⟨fd,c,P,hb,ht,hnt,hF⟩:=F K w mg fa _ hob hnt' KX G.T.g hmg
  obtain ⟨hC,hP⟩:=tab_of G.T KX hfind ht
  exact zct KX G.T.g G.T.b G.T.builtins G.T.nolimit hg hobj hints (Nat.le_trans hlen hn2) hr hC hP G.T.bmain hnt (fun base h1 h2 h3 h4=>hF base a ns hlen h1 h2 h3 h4) hb
theorem z15 {K:Frag} {f c:Addr} {st:Stmt} {n:Str} {ps:List Str} (h:fob K f=some (fnOf n n (z3l st) (z1q st) (z04 st) .none .none .none .none none (.ref c) .none)) (hc:codeIn K (.ref c) n=true) (hk:keepIn K (.ref f)=true)
    (hb:∀ (kV doc pm:Value) (an:Option Addr) (cdv ct:Value) (us:List Value),us.length=ps.length→bindArgs (fnOf n n (z3l st) (z1q st) (z04 st) .none kV doc pm an cdv ct) ⟨us,[]⟩=pure (ps.zip us)):
    ∃ fd:FuncData,Fun K n n st f fd∧Binds K fd ps []∧fd.code=.ref c∧∀ us:List Value,us.length=ps.length→bindArgs fd ⟨us,[]⟩=pure (ps.zip us):=by
  obtain ⟨oc,od,kV,dc,pm,an,ct,sl,e⟩:=zlc h
  exact ⟨_,zhp e hc hk,(zhp e hc hk).binds hb,rfl,hb kV dc pm an (.ref c) ct⟩
theorem z3t {env:Env} {x:Str}:∀ {l:List (Str×NameKind)},l.lookup x=some .free→(l.map fun (n,k)=>if (k==NameKind.free&&env.scope.kind==.function&&env.kindOf n==some .cell) then (n,NameKind.cell) else (n,k)).lookup x≠some .local
  | [],h=>by simp at h
  | (n,q)::r,h=>by
    rw [List.lookup_cons] at h
    rw [List.map_cons]
    cases e:x==n with
    | true=>
      rw [e] at h
      have hq:q=.free:=Option.some.inj h
      subst hq
      dsimp only
      split
      · rw [List.lookup_cons,e];simp
      · rw [List.lookup_cons,e];simp
    | false=>
      rw [e] at h
      dsimp only
      split
      · rw [List.lookup_cons,e];exact z3t h
      · rw [List.lookup_cons,e];exact z3t h
theorem z3f {X:Cx} {sc os:Scope} {oN N:List Str} {cap:List (Option Nat)} (hs:X.env.scope.names=os.names) (hN:X.N=oN) (h1:sc.kind=.function) (h2:∀ p∈sc.names,p.2=.local→sc.names.lookup p.1=some .local) (h3:cap.length=N.length)
    (h4:∀ p∈sc.names,p.2=.free→os.names.lookup p.1=some .cell∨os.names.lookup p.1=some .free) (h5:∀ p∈sc.names,p.2=.free→(p.1,NameKind.cell)∉sc.names) (h6:∀ q∈cap.zip N,∀ j∈q.1,oN[j]?=some q.2∧sc.names.lookup q.2=some .free):CapOk X sc N cap:=by
  refine ⟨h1,h2,h3,fun x hx=>?_,fun x hx=>h5 _ hx rfl,fun i j x e1 e2=>?_⟩
  · have:=h4 _ hx rfl
    rw [← hs] at this
    exact this
  · have hm:(some j,x)∈cap.zip N:=List.mem_of_getElem? (i:=i) (List.getElem?_zip_eq_some.mpr ⟨e1,e2⟩)
    obtain ⟨a,b⟩:=h6 _ hm j rfl
    rw [hN]
    refine ⟨a,PySem.mem_of_lookup b, ?_⟩
    exact z3t b
def subD:Dv→Dv→Hs→Rs Dv:=iOp fun i j=>.int (i - j)
def mulD:Dv→Dv→Hs→Rs Dv:=iOpC mulB fun i j=>.int (i*j)
def modD:Dv→Dv→Hs→Rs Dv:=iOpC modB fun i j=>.int (i % j)
def powD:Dv→Dv→Hs→Rs Dv:=iOpC powB fun i j=>.int (i ^ j.toNat)
def leD:Dv→Dv→Hs→Rs Dv:=iOp fun i j=>.bl (decide (i≤j))
def gtD:Dv→Dv→Hs→Rs Dv:=iOp fun i j=>.bl (decide (i>j))
def geD:Dv→Dv→Hs→Rs Dv:=iOp fun i j=>.bl (decide (i≥j))
section
variable {X:Cx} {G:Cfg} {E:XK} {k:Nat} {a b:Expr} {ma mb:M Dv} {pos:Pos}
theorem zcu (ha:Snd X G E a ma) (hb:Snd X G E b mb):Snd X G E (.BinOp a .Sub b pos) (m2 subD ma mb):=z5m zlv zjf ha hb
theorem zcv (ha:Snd X G E a ma) (hb:Snd X G E b mb):Snd X G E (.BinOp a .Mult b pos) (m2 mulD ma mb):=z5m zlw (z46 zjg) ha hb
theorem zb5 (ha:Snd X G E a ma) (hb:Snd X G E b mb):Snd X G E (.BinOp a .Mod b pos) (m2 modD ma mb):=z5m zlx (z46 zjh) ha hb
theorem zk2 (ha:Snd X G E a ma) (hb:Snd X G E b mb):Snd X G E (.BinOp a .Pow b pos) (m2 powD ma mb):=z5m zly (z46 zji) ha hb
theorem zn0 (ha:Snd X G E a ma):Snd X G E (.UnaryOp .USub a pos) (m1 negD ma):=zmg zlz zk1 ha
theorem x_gt (ha:Snd X G E a ma) (hb:Snd X G E b mb):Snd X G E (.Compare a [.Gt] [b] pos) (m2 gtD ma mb):=z6f zot z7i ha hb (z4d _)
theorem x_eq (g:Good X G E k) (ha:Snd X G E a ma) (hb:Snd X G E b mb):Snd X G E (.Compare a [.Eq] [b] pos) (m2 eqD ma mb):=z6f (zht g.room.units) zhu ha hb (z4d _)
theorem t_ge (ha:Snd X G E a ma) (hb:Snd X G E b mb):SndT X G E (.Compare a [.GtE] [b] pos) (mB (m2 geD ma mb)):=z7h zou z7i ha hb (z4d _)
theorem t_eq (g:Good X G E k) (ha:Snd X G E a ma) (hb:Snd X G E b mb):SndT X G E (.Compare a [.Eq] [b] pos) (mB (m2 eqD ma mb)):=z7h (zht g.room.units) zhu ha hb (z4d _)
theorem t_ne (g:Good X G E k) (ha:Snd X G E a ma) (hb:Snd X G E b mb):SndT X G E (.Compare a [.NotEq] [b] pos) (mB (m2 neD ma mb)):=z7h (zmj g.room.units) zmk ha hb (z4d _)
variable {c:Expr} {mc:M Dv}
theorem zn1 (ha:Snd X G E a ma) (hb:Snd X G E b mb) (hc:Snd X G E c mc) (hm:lastMarks [.LtE,.LtE] [b,c]=false:=by with_unfolding_all rfl):Snd X G E (.Compare a [.LtE,.LtE] [b,c] pos) (z5n leD leD ma mb mc):=zc3 zm1 zm1 z7i z7i ha hb hc hm
end
def z5v:Ty→Option Bool
  | .bl=>some true | .int=>some true | .exc _=>none | _=>some false
def z2g:Ty→Option Bool
  | .bl=>some true | .exc _=>none | _=>some false
def z23:Ty→Option Bool
  | .tup=>some true | .exc _=>none | _=>some false
def z7o:Ty→Option Bool
  | .lst=>some true | .exc _=>none | _=>some false
def zcw:Ty→Option Bool
  | .tup=>some true | .lst=>some true | .exc _=>none | _=>some false
section
variable {K:PySem.W.Frag} {cl:Nat→Addr}
theorem zcx:∀ ty bb,z5v ty=some bb→PySem.W.kitOne K (valT cl ty) (.type "int")=some bb:=by intro ty bb h;cases ty <;> first | (cases h;rfl) | cases h
theorem zb6:∀ ty bb,z2g ty=some bb→PySem.W.kitOne K (valT cl ty) (.type "bool")=some bb:=by intro ty bb h;cases ty <;> first | (cases h;rfl) | cases h
theorem zcy:∀ ty bb,z23 ty=some bb→PySem.W.kitOne K (valT cl ty) (.type "tuple")=some bb:=by intro ty bb h;cases ty <;> first | (cases h;rfl) | cases h
theorem zcz:∀ ty bb,z7o ty=some bb→PySem.W.kitOne K (valT cl ty) (.type "list")=some bb:=by intro ty bb h;cases ty <;> first | (cases h;rfl) | cases h
theorem zg0:∀ ty bb,zcw ty=some bb→PySem.W.kitAny K (valT cl ty) [.type "tuple",.type "list"]=some bb:=by intro ty bb h;cases ty <;> first | (cases h;rfl) | cases h
end
theorem zp6:bootBuiltins "int" = some (.type "int"):=by decide +kernel
theorem zn2:bootBuiltins "bool" = some (.type "bool"):=by decide +kernel
theorem b_ve:bootBuiltins "ValueError" = some (.type "ValueError"):=by decide +kernel
def z0z (nn:Option Bool) (tbl:List (Nat×Bool)):Ty→Option Bool
  | .exc c=>tbl.lookup c
  | .non=>nn
  | _=>none
section
variable {X:Cx} {G:Cfg} {E:XK} {a:Expr} {ma:M Dv} {p q r pos:Pos}
theorem zk3 (hg:Gl X "isinstance") (hm:X.mg "isinstance" = none) (hg':Gl X "int") (hm':X.mg "int" = none) (ha:Snd X G E a ma) (he:starEach [a,.Name "int" q] X.env=[(false,eval a X.env),(false,eval (.Name "int" q) X.env)]:=by rfl):
    Snd X G E (.Call (.Name "isinstance" p) [a,.Name "int" q] [] pos) (m1 (isiD z5v) ma):=z3q hg hm ha (z8o hg' hm' zp6) (.inl ⟨_,rfl⟩) rfl zcx (fun c bb h=>by cases h) he
theorem z6m (hg:Gl X "isinstance") (hm:X.mg "isinstance" = none) (hg':Gl X "bool") (hm':X.mg "bool" = none) (ha:Snd X G E a ma) (he:starEach [a,.Name "bool" q] X.env=[(false,eval a X.env),(false,eval (.Name "bool" q) X.env)]:=by rfl):
    Snd X G E (.Call (.Name "isinstance" p) [a,.Name "bool" q] [] pos) (m1 (isiD z2g) ma):=z3q hg hm ha (z8o hg' hm' zn2) (.inl ⟨_,rfl⟩) rfl zb6 (fun c bb h=>by cases h) he
theorem z4x (hg:Gl X "isinstance") (hm:X.mg "isinstance" = none) (hg':Gl X "tuple") (hm':X.mg "tuple" = none) (ha:Snd X G E a ma) (he:starEach [a,.Name "tuple" q] X.env=[(false,eval a X.env),(false,eval (.Name "tuple" q) X.env)]:=by rfl):
    Snd X G E (.Call (.Name "isinstance" p) [a,.Name "tuple" q] [] pos) (m1 (isiD z23) ma):=z3q hg hm ha (z8o hg' hm' z6g) (.inl ⟨_,rfl⟩) rfl zcy (fun c bb h=>by cases h) he
theorem zd0 (hg:Gl X "isinstance") (hm:X.mg "isinstance" = none) (hg':Gl X "list") (hm':X.mg "list" = none) (ha:Snd X G E a ma) (he:starEach [a,.Name "list" q] X.env=[(false,eval a X.env),(false,eval (.Name "list" q) X.env)]:=by rfl):
    Snd X G E (.Call (.Name "isinstance" p) [a,.Name "list" q] [] pos) (m1 (isiD z7o) ma):=z3q hg hm ha (z8o hg' hm' z9h) (.inl ⟨_,rfl⟩) rfl zcz (fun c bb h=>by cases h) he
theorem zk4:∀ us',Vals [.ty "tuple",.ty "list"] us'→us'=[.type "tuple",.type "list"]:=by
  intro us' h
  cases h with
  | cons r rr=>
    cases rr with
    | cons r' rr=>
      cases rr
      cases r;cases r'
      rfl
theorem zn3 {kt:Nat} {p':Pos} (hg:Gl X "isinstance") (hm:X.mg "isinstance" = none) (hg':Gl X "tuple") (hm':X.mg "tuple" = none) (hg'':Gl X "list") (hm'':X.mg "list" = none) (ha:Snd X G E a ma)
    (he:starEach [a,.Tuple [.Name "tuple" q,.Name "list" r] kt p] X.env=[(false,eval a X.env),(false,eval (.Tuple [.Name "tuple" q,.Name "list" r] kt p) X.env)]:=by rfl):
    Snd X G E (.Call (.Name "isinstance" p') [a,.Tuple [.Name "tuple" q,.Name "list" r] kt p] [] pos) (m1 (isiD zcw) ma):=
  zfq (cs:=[.ty "tuple",.ty "list"]) hg hm ha (z17 (z8o hg' hm' z6g) (z17 (z8o hg'' hm'' z9h) z27)) (by decide) zk4 zg0 (fun c bb h=>by cases h) he
theorem z1x {x:Str} {C:Addr} {nn:Option Bool} {tbl:List (Nat×Bool)} (hg:Gl X "isinstance") (hm:X.mg "isinstance" = none) (hg':Gl X x) (hm':X.mg x=some (.ref C)) (ha:Snd X G E a ma)
    (hn:∀ b,nn=some b→PySem.W.kitOne G.K (.type "NoneType") (.ref C)=some b) (ht:∀ c b,tbl.lookup c=some b→PySem.W.kitOne G.K (.ref (G.cl c)) (.ref C)=some b∧ExK G.K (G.cl c)) (hd:(x==("__debug__" : Str))=false:=by decide)
    (he:starEach [a,.Name x q] X.env=[(false,eval a X.env),(false,eval (.Name x q) X.env)]:=by rfl) (he2:starEach [.Name x q] X.env=[(false,eval (.Name x q) X.env)]:=by rfl):
    Snd X G E (.Call (.Name "isinstance" p) [a,.Name x q] [] pos) (m1 (isiD (z0z nn tbl)) ma):=
  z3q hg hm ha (zbj (v:=.ref C) hg' hm' rfl hd) (.inr ⟨_,rfl⟩) rfl (fun ty bb h=>by
    cases ty with
    | exc c=>exact (ht c bb h).1
    | non=>exact hn bb h
    | _=>cases h) (fun c bb h=>(ht c bb h).2) he he2
theorem zn4 {nn:Option Bool} {tbl:List (Nat×Bool)} (hg:Gl X "isinstance") (hm:X.mg "isinstance" = none) (hg':Gl X "ValueError") (hm':X.mg "ValueError" = none) (ha:Snd X G E a ma)
    (hn:∀ b,nn=some b→PySem.W.kitOne G.K (.type "NoneType") (.type "ValueError")=some b) (ht:∀ c b,tbl.lookup c=some b→PySem.W.kitOne G.K (.ref (G.cl c)) (.type "ValueError")=some b∧ExK G.K (G.cl c))
    (he:starEach [a,.Name "ValueError" q] X.env=[(false,eval a X.env),(false,eval (.Name "ValueError" q) X.env)]:=by rfl):
    Snd X G E (.Call (.Name "isinstance" p) [a,.Name "ValueError" q] [] pos) (m1 (isiD (z0z nn tbl)) ma):=
  z3q hg hm ha (z8o hg' hm' b_ve) (.inl ⟨_,rfl⟩) rfl (fun ty bb h=>by
    cases ty with
    | exc c=>exact (ht c bb h).1
    | non=>exact hn bb h
    | _=>cases h) (fun c bb h=>(ht c bb h).2) he
end
section
variable {P:Program} {w:World} {K:PySem.W.Frag} {mg:Str→Option Value} {base:Heap} {f:Addr} {G:Cfg} {k:Nat} {N:List Str}
theorem zk5 {x qual:Str} {st:Stmt} {fd:FuncData} {ps:List Str} {mb:MS} (Fn:Fun K x qual st f fd) (S:FnScope N ps (z04 st)) (hK:K=G.K)
    (hbody:∀ (cdv:Value) (A:Around) (outer:List Env) (s:Shared) (H:Hp) (E₀ E:XK),fd.code=cdv→Good (cxOf (CXm P w base) P w K mg base N qual (z04 st) f cdv A outer s H E₀) G E k→z3p (cxOf (CXm P w base) P w K mg base N qual (z04 st) f cdv A outer s H E₀) G E (z1q st) mb):
    FnOk P w K mg base (CXm P w base) (k+1) f fd ps (spOf G (z0i ps.length N.length mb)):=by
  obtain ⟨oc,od,kV,doc,pm,an,cdv,ct,osl,rfl,lk,hcd⟩:=Fn.ex
  have hlen:∀ vs H Q E,spOf G (z0i ps.length N.length mb) vs H Q E→vs.length=ps.length:=fun vs H Q E ⟨μ,h,ds,r,sm,o⟩=>by
    rw [r.length]
    unfold z0i at o
    by_cases hd:ds.length=ps.length
    · exact hd
    · rw [if_neg hd] at o;exact o.elim
  refine zez lk hcd S hlen fun A outer s H vs Q E hr hsp=>?_
  have hl:=hlen _ _ _ _ hsp
  obtain ⟨μ,h,ds,r,sm,o⟩:=hsp
  have o':Out G E μ h.length H (z0r (mb (z09 N.length ds) h)) (RelD G) Q:=by
    unfold z0i at o
    rw [if_pos (by rw [← r.length];exact hl)] at o
    exact o
  refine ⟨_,hbody cdv A outer s H E (EB G μ h.length H (mb (z09 N.length ds) h)) rfl (z8m hr hK (fun u H' ⟨c,h',μ',er,x,s',fl⟩=>?_) z8n) hK, ?_⟩
  · rw [er] at o'
    exact o' μ' H' u x s' fl
  · refine ⟨μ,z09 N.length ds,h,z9m r N,sm, ?_⟩
    cases q:mb (z09 N.length ds) h with
    | bad=>rw [q] at o';exact o'.elim
    | bk ρ h'=>rw [q] at o';exact o'.elim
    | ct ρ h'=>rw [q] at o';exact o'.elim
    | rt d h'=>rw [q] at o';exact o'
    | nx ρ h'=>rw [q] at o';exact fun μ' H' σ' x' s' rs'=>o' μ' H' .non x' s' rfl
    | ex c h'=>exact fun μ' H' u x' s' fl=>⟨c,h',μ',rfl,x',s',fl⟩
theorem zn5 {fd:FuncData} {ps:List Str}:FnOk P w K mg base (CXm P w base) k f fd ps (spOf G (fun _ _=>.bad)):=
  ⟨fun vs H Q E ⟨_,_,_,_,_,o⟩=>o.elim,fun _ _ _ _ _ _ _ _ _ _ _ _ _ ⟨_,_,_,_,_,o⟩=>o.elim⟩
end
section
variable {X:Cx} {G:Cfg} {E:XK} {k:Nat} {q x:Str} {p pos lpos:Pos} {params:Arguments} {body:Expr} {scope os:Scope} {c P fr:Addr} {fdr:FuncData} {Nl oN:List Str} {me:M Dv} {n ncl j:Nat} {mb:MS} {caps:List Nat}
theorem zk6 (g:Good X G E k) (hj:j≤k) (hfn:∀ y,X.fn y=true)
    (F:∀ base,X.K.In base→base.Ns mainGlobals X.mg→FnOk X.prog X.w X.K X.mg base (CXm X.prog X.w base) j fr fdr [x] (zfz G base Nl params body scope me n ncl mb))
    (hg:Gl X q) (hm:X.mg q=some (.ref fr)) (hk:PySem.W.keepIn X.K (.ref fr)=true) (hb:Binds X.K fdr [x] [])
    (hdef:defaultsOf params X.env=([],[])) (hq:X.env.qual ++ "<lambda>" = G.lq) (hP:G.tab=some P) (hcode:X.env.code=.ref c) (hC:PySem.W.CodeHd X.base c P) (hB:z6l X.mg X.base)
    (LS:LamScope Nl scope) (hs:X.env.scope.names=os.names) (hN:X.N=oN) (hkind:∀ y∈Nl,os.names.lookup y=some .cell) (hcl:caps.length=Nl.length) (hcap:∀ z∈caps.zip Nl,oN[z.1]?=some z.2)
    (hdb:(q==("__debug__" : Str))=false:=by decide) (he:starEach [.Lambda params body scope lpos] X.env=[(false,eval (.Lambda params body scope lpos) X.env)]:=by rfl):
    Snd X G E (.Call (.Name q p) [.Lambda params body scope lpos] [] pos) (mRef caps n ncl mb me):=
  zjw g hj hfn F hg hm hk hb hdef hq hP hcode hC hB LS (fun y hy=>by rw [hs];exact hkind y hy) hcl (fun i j y e1 e2=>by
    rw [hN]
    exact hcap (j,y) (List.mem_of_getElem? (i:=i) (List.getElem?_zip_eq_some.mpr ⟨e1,e2⟩))) hdb he
end
def z2m:Dv→Bool
  | .scr=>false
  | _=>true
def ix0 (x y:Dv) (h:Hs):Rs Dv:=if z2m x=true then ixD [] x y h else .bad
def len0 (x:Dv) (h:Hs):Rs Dv:=if z2m x=true then lenD [] x h else .bad
def z4y (x:Dv) (h:Hs):Rs Dv:=if z2m x=true then zaz [] x h else .bad
def in0 (neg:Bool) (x y:Dv) (h:Hs):Rs Dv:=if z2m y=true then inD [] neg x y h else .bad
theorem z4z {scr:List Int} {x:Dv} {h:Hs} (e:z2m x=true):seqD [] x h=seqD scr x h:=by cases x <;> first | rfl | cases e
section
variable {X:Cx} {G:Cfg} {E:XK} {k:Nat} {a b e:Expr} {es:List Expr} {ma mb:M Dv} {mas:M (List Dv)} {p pos:Pos}
theorem zn6:OpD G (rIx G.K) ix0:=by
  intro E μ h H x y vx vy Q s rx ry o
  unfold ix0 at o
  split at o
  · rename_i hx
    refine zhv E μ h H x y vx vy Q s rx ry ?_
    have e:ixD G.scr x y h=ixD [] x y h:=by cases x <;> cases y <;> first | rfl | exact absurd hx (by decide)
    rw [e];exact o
  · exact o.elim
theorem zk7:UnD G (zmm G.K) len0:=by
  intro E μ h H x vx Q s rx o
  unfold len0 at o
  split at o
  · rename_i hx
    refine zc6 E μ h H x vx Q s rx ?_
    unfold lenD at o ⊢
    rw [← z4z hx];exact o
  · exact o.elim
theorem zg1:UnD G (fun x H Q=>∃ p ys,x=.ref p∧(SqL G.K H p ys∨SqT G.K H p ys)∧∀ l,H l=none→Q (.ref l) (upd H l (.lst ys))) z4y:=by
  intro E μ h H x vx Q s rx o
  unfold z4y at o
  split at o
  · rename_i hx
    refine zfd E μ h H x vx Q s rx ?_
    unfold zaz at o ⊢
    rw [← z4z hx];exact o
  · exact o.elim
theorem zi6 (neg:Bool):OpD G (rInG G.K neg) (in0 neg):=by
  intro E μ h H x y vx vy Q s rx ry o
  unfold in0 at o
  split at o
  · rename_i hx
    refine zmy neg E μ h H x y vx vy Q s rx ry ?_
    unfold inD at o ⊢
    rw [← z4z hx];exact o
  · exact o.elim
theorem z1j (ha:Snd X G E a ma) (hb:Snd X G E b mb) (hs:z8f b:=by intro _ _;rfl):Snd X G E (.Subscript a b pos) (m2 ix0 ma mb):=fun hK=>
  PE.imp (zm9 (by have:=zho (X:=X);rw [hK] at this;exact this) (ha hK) (hb hK) hs) fun _ _ _ t=>z7g zn6 t
theorem z7p (hg:Gl X "len") (hm:X.mg "len" = none) (ha:SndA X G E (e::es) mas)
    (he:starEach (e::es) X.env=(false,eval e X.env)::starEach es X.env:=by rfl) (hpl:(backTo pos (starEach es X.env)).any (·.1)=false:=by rfl):Snd X G E (.Call (.Name "len" p) (e::es) [] pos) (z05 (f1 len0) mas):=fun hK=>
  z3d (CallR.imp (z3y (X:=X)) fun xs H Q ⟨v,h1,a,ys,h2,h3,h4⟩=>⟨a,ys,by rw [h1,h2],by rw [hK];exact h3,h4⟩) (zfa zk7) hg hm PySem.boot_len ha (by decide) (by decide) he hpl hK
theorem zd1 (hg:Gl X "list") (hm:X.mg "list" = none) (ha:SndA X G E (e::es) mas)
    (he:starEach (e::es) X.env=(false,eval e X.env)::starEach es X.env:=by rfl) (hpl:(backTo pos (starEach es X.env)).any (·.1)=false:=by rfl):Snd X G E (.Call (.Name "list" p) (e::es) [] pos) (z05 (f1 z4y) mas):=fun hK=>
  z5p (CallR.imp (z79 (X:=X)) fun xs H Q ⟨v,h1,a,ys,h2,h3,h4⟩=>⟨a,ys,by rw [h1,h2],by rw [hK];exact h3,h4⟩) (zfa zg1) hg hm z9h ha (by decide) (by decide) he hpl hK
end
theorem zg2 (h l:Hs) (k:Nat):getL (h++l) (h.length+k)=getL l k:=by
  unfold getL
  rw [List.getElem?_append_right (by omega),show h.length+k - h.length=k by omega]
theorem zd2 (h l:Hs):getL (h++l) h.length=getL l 0:=zg2 h l 0
mutual
def sh (n:Nat):Dv→Dv
  | .ref i=>.ref (n+i)
  | .tup xs=>.tup (shL n xs)
  | .non=>.non
  | .bl b=>.bl b
  | .int i=>.int i
  | .str x=>.str x
  | .edc=>.edc
  | .exc c=>.exc c
  | .scr=>.scr
def shL (n:Nat):List Dv→List Dv
  | []=>[]
  | x::xs=>sh n x::shL n xs
end
def shO (n:Nat):Ob→Ob
  | .lst xs=>.lst (shL n xs)
def shH (n:Nat) (l:Hs):Hs:=l.map (shO n)
section
variable {n:Nat}
end
def UpR {α:Type} (B:Hs) (f:α→α) (r' r:Rs α):Prop:=match r' with
  | .bad=>True
  | .ok d l=>r=.ok (f d) (B++shH B.length l)
  | .ex c l=>r=.ex c (B++shH B.length l)
structure UpV (n:Nat) (ρ' ρ:Ev):Prop where
  len:ρ'.length=ρ.length
  at_:∀ (i:Nat) (d:Dv),ρ'[i]?=some (some d)→ρ[i]?=some (some (sh n d))
def UpSr (B:Hs) (r' r:Sr):Prop:=match r' with
  | .bad=>True
  | .nx ρ1 l=>∃ ρ,r=.nx ρ (B++shH B.length l)∧UpV B.length ρ1 ρ
  | .bk ρ1 l=>∃ ρ,r=.bk ρ (B++shH B.length l)∧UpV B.length ρ1 ρ
  | .ct ρ1 l=>∃ ρ,r=.ct ρ (B++shH B.length l)∧UpV B.length ρ1 ρ
  | .rt d l=>r=.rt (sh B.length d) (B++shH B.length l)
  | .ex c l=>r=.ex c (B++shH B.length l)
theorem UpR.bind {α β:Type} {B:Hs} {f:α→α} {g:β→β} {r' r:Rs α} {k' k:α→Hs→Rs β} (h:UpR B f r' r) (hk:∀ d l,UpR B g (k' d l) (k (f d) (B++shH B.length l))):UpR B g (r'.bind k') (r.bind k):=by
  cases r' with
  | bad=>trivial
  | ok d l=>rw [show r=_ from h];exact hk d l
  | ex c l=>rw [show r=_ from h];exact rfl
theorem UpR.thenS {α:Type} {B:Hs} {f:α→α} {r' r:Rs α} {k' k:α→Hs→Sr} (h:UpR B f r' r) (hk:∀ d l,UpSr B (k' d l) (k (f d) (B++shH B.length l))):UpSr B (r'.thenS k') (r.thenS k):=by
  cases r' with
  | bad=>trivial
  | ok d l=>rw [show r=_ from h];exact hk d l
  | ex c l=>rw [show r=_ from h];exact rfl
theorem UpV.set {n:Nat} {ρ' ρ:Ev} (u:UpV n ρ' ρ) (i:Nat) (d:Dv):UpV n (ρ'.set i (some d)) (ρ.set i (some (sh n d))):=⟨by rw [List.length_set,List.length_set];exact u.len,fun j d' e=>by
  have hl:=u.len
  by_cases hij:i=j
  · subst hij
    have hi:i<ρ'.length:=by
      have:=(List.getElem?_eq_some_iff.mp e).1
      simpa using this
    rw [List.getElem?_set_self hi] at e
    cases e
    exact List.getElem?_set_self (by omega)
  · rw [List.getElem?_set_ne hij] at e ⊢
    exact u.at_ j d' e⟩
section
variable {ma mb mc:M Dv} {mas:M (List Dv)} {t u:M Bool} {f f':Dv→Dv→Hs→Rs Dv} {g:Dv→Hs→Rs Dv} {F:List Dv→Hs→Rs Dv}
end
section
variable {mi mi':M Src} {st st':Tgt} {test test':M Bool} {inner:MC} {me:M Dv} {cap:List (Option Nat)}
end
section
variable {mo me mi:M Dv} {ml:M (List Dv)} {m u:MS} {t:M Bool}
end
def intD:Dv→Option Int
  | .int i=>some i
  | _=>none
theorem z3g {G:Cfg} {μ:Nat→Addr} {n:Nat} {H:Hp}:∀ {xs:List Dv} {vs:List V} {ns:List Int},RelDL G μ n H xs vs→optL intD xs=some ns→vs=ns.map V.int
  | [],_,ns,r,e=>by cases e;rw [RelDL] at r;subst r;rfl
  | x::xs,_,ns,r,e=>by
    rw [RelDL] at r;obtain ⟨v,rr,rfl,r1,r2⟩:=r
    unfold optL at e
    cases x with
    | int i=>
      dsimp only [intD] at e
      cases q:optL intD xs with
      | none=>rw [q] at e;cases e
      | some zs=>
        rw [q] at e;cases e
        rw [RelD] at r1;subst r1
        rw [z3g r2 q];rfl
    | _=>cases e
section
variable {X:Cx} {G:Cfg} {E:XK} {e a b:Expr} {es:List Expr} {ma mb:M Dv} {mas:M (List Dv)} {p pos:Pos}
end
section
variable {X:Cx} {G:Cfg} {E:XK} {a:Expr} {elts:List Expr} {kk:Nat} {tp p pos:Pos} {ma:M Dv} {ms:M (List Dv)}
end
section
variable {X:Cx} {G:Cfg} {E:XK} {e a b:Expr} {es:List Expr} {ma mb:M Dv} {mas:M (List Dv)} {p pos:Pos}
theorem z7q:∀ {vs:List Value} {ns:List Int},Vals (ns.map V.int) vs→IntsAre vs ns
  | [],[],_=>.nil
  | [],n::ns,h=>by cases h
  | v::vs,[],h=>by cases h
  | v::vs,n::ns,h=>by
    cases h with
    | cons h1 h2=>
      obtain ⟨t,rfl⟩:=h1
      exact .cons _ _ (z7q h2)
theorem zg3:bootBuiltins "sorted" = some (.builtin "sorted"):=by decide +kernel
end
section
variable {X:Cx} {G:Cfg} {E:XK} {e o a b:Expr} {es:List Expr} {ma mb mo me:M Dv} {mas:M (List Dv)} {p pos np apos cpos:Pos} {y:Str}
def zk8 (_ j:Int):Prop:=0<j∧j<18446744073709551616
theorem zg4:OpR X (binaryOp .FloorDiv) (rI zk8 fun i j=>.int (i / j)):=opI fun i j _ _ _ _ _ hc q=>by
  have h1:(0:Int)<j:=hc.1
  have h2:j<18446744073709551616:=hc.2
  refine floordiv_int (by omega) (by rw [Int.fdiv_eq_ediv_of_nonneg i (by omega)];exact q) (.inl (PyProof.noPylong_of_log2 ?_))
  have h3:j.natAbs≠0:=by omega
  have h4:j.natAbs<2 ^ 64:=by omega
  have:=(Nat.log2_lt h3).mpr h4
  omega
def divW (_ j:Int):Bool:=decide (0<j)&&decide (j<18446744073709551616)
theorem zk9 (i j:Int) (h:divW i j=true):zk8 i j:=by
  unfold divW at h;unfold zk8
  simpa only [Bool.and_eq_true,decide_eq_true_eq] using h
def zd3:Dv→Dv→Hs→Rs Dv:=iOpC divW fun i j=>.int (i / j)
theorem zd4 (ha:Snd X G E a ma) (hb:Snd X G E b mb):Snd X G E (.BinOp a .FloorDiv b pos) (m2 zd3 ma mb):=z5m zg4 (z46 zk9) ha hb
def zi7 (K:PySem.W.Frag):R2:=fun x y H Q=>∃ a b ys,x=.ref a∧y=.ref b∧SqT K H a []∧SqT K H b ys∧Q (.ref b) H
theorem op_catT0:OpR X (binaryOp .Add) (zi7 X.K):=by
  intro pins s σ H x y v u Q I rx ry ⟨a,b,ys,e1,e2,ha,hb,q⟩
  subst e1;subst e2
  cases rx
  cases ry
  obtain ⟨its,r1,p1,_⟩:=I.tuple ha
  obtain ⟨its2,r2,p2,_⟩:=I.tuple hb
  have hn:its=[]:=r1.nil_iff.mpr rfl
  subst hn
  obtain ⟨⟨cls,dd,data,sl⟩,ho,hc,n,hd⟩:=p1
  obtain ⟨⟨cls2,dd2,data2,sl2⟩,ho2,hc2,n2,hd2⟩:=p2
  simp only at hc hd hc2 hd2
  subst hc hd hc2 hd2
  exact concat_meets ⟨_,ho,rfl⟩ ⟨_,ho2,rfl⟩ noFill_tuple_add seq_tuple_add PySem.F.slot_tuple_add PySem.F.entry_tuple_add (PySem.F.args_tuple_add_2 _ _)
    (tuple_addW0 a b _ _ n n2 dd dd2 sl sl2 rfl) ⟨ho,ho2,⟨.ref b,H,I,rfl,q⟩⟩
def addE (x y:Dv) (h:Hs):Rs Dv:=match x,y with
  | .tup [],.tup ys=>.ok (.tup ys) h
  | x,y=>addD x y h
theorem zka:OpD G (fun x y H Q=>zi7 G.K x y H Q∨zjj G.K x y H Q) addE:=by
  intro E μ h H x y vx vy Q s rx ry o
  unfold addE at o
  split at o
  · rename_i ys
    obtain ⟨a,vs,rfl,ea,ra⟩:=rx
    obtain ⟨b,ws,rfl,eb,rb⟩:=id ry
    have:vs=[]:=by rw [RelDL] at ra;exact ra
    subst this
    exact .inl ⟨a,b,ws,rfl,rfl,SqT.of ea,SqT.of eb,o.val s ry⟩
  · exact .inr (zjl E μ h H _ _ vx vy Q s rx ry o)
theorem z2t (ha:Snd X G E a ma) (hb:Snd X G E b mb):Snd X G E (.BinOp a .Add b pos) (m2 addE ma mb):=fun hK=>z5m (op_catT0.or zjk) (by rw [hK];exact zka) ha hb hK
def posI (k:Int):List Int→Option Nat
  | []=>none
  | n::ns=>if n=k then some 0 else (posI k ns).map (·+1)
theorem zi8 {k:Int}:∀ {ns:List Int} {j:Nat},posI k ns=some j→ns[j]?=some k∧∀ m,m<j→ns[m]?≠some k
  | [],j,h=>by cases h
  | n::ns,j,h=>by
    unfold posI at h
    split at h
    · rename_i e
      cases h
      exact ⟨by simp [e],fun m hm=>by omega⟩
    · rename_i e
      cases q:posI k ns with
      | none=>rw [q] at h;cases h
      | some i=>
        rw [q] at h;cases h
        obtain ⟨h1,h2⟩:=zi8 q
        refine ⟨by simpa using h1,fun m hm=>?_⟩
        cases m with
        | zero=>simpa using e
        | succ m=>
          have hm':m<i:=by simpa using hm
          simpa using h2 m hm'
theorem zd5:∀ {vs:List Value} {ns:List Int} {i:Nat} {n:Int},IntsAre vs ns→ns[i]?=some n→∃ t,vs[i]?=some (.int n t)
  | _,_,0,n,.cons m t h,e=>by simp at e;subst e;exact ⟨t,rfl⟩
  | _,_,i+1,n,.cons m t h,e=>by simpa using zd5 h (by simpa using e)
  | _,_,i,n,.nil,e=>by simp at e
end
section
variable {X:Cx} {G:Cfg} {E:XK} {k:Nat} {a b:Expr} {ma mb mo:M Dv} {pos:Pos}
theorem x_in (g:Good X G E k) (ha:Snd X G E a ma) (hb:Snd X G E b mb) (hm:lastMarks [.In] [b]=false:=by with_unfolding_all rfl):Snd X G E (.Compare a [.In] [b] pos) (m2 (in0 false) ma mb):=fun hK=>z6f (zmx g.room.units) (by rw [hK];exact zi6 false) ha hb hm hK
theorem zn7 (g:Good X G E k) (ha:Snd X G E a ma) (hb:Snd X G E b mb) (hm:lastMarks [.NotIn] [b]=false:=by with_unfolding_all rfl):SndT X G E (.Compare a [.NotIn] [b] pos) (mB (m2 (in0 true) ma mb)):=fun hK=>z7h (zcp g.room.units) (by rw [hK];exact zi6 true) ha hb hm hK
end
theorem z2h {H:Hs} {n:Nat} {xs ys:List Dv} (e:getL H n=some xs):getL (H.set n (.lst ys)) n=some ys:=by
  have h:=(List.getElem?_eq_some_iff.mp (z0e e)).1
  unfold getL
  rw [List.getElem?_set_self h]
theorem z50 {H:Hs} {n j:Nat} {o:Ob} (h:n≠j):getL (H.set n o) j=getL H j:=by
  unfold getL
  rw [List.getElem?_set_ne h]
theorem z31 {H:Hs} {n:Nat} {xs:List Dv} (e:getL H n=some xs):n<H.length:=(List.getElem?_eq_some_iff.mp (z0e e)).1
theorem z1m {H l:Hs} {n:Nat} {xs:List Dv} (e:getL H n=some xs):getL (H++l) n=some xs:=by
  unfold getL
  rw [List.getElem?_append_left (z31 e),z0e e]
structure Fr (S:List Nat) (H H':Hs):Prop where
  le:H.length≤H'.length
  at_:∀ j,j<H.length→j∉S→H'[j]?=H[j]?
theorem Fr.refl {S:List Nat} {H:Hs}:Fr S H H:=⟨Nat.le_refl _,fun _ _ _=>rfl⟩
theorem Fr.trans {S T:List Nat} {H H1 H2:Hs} (a:Fr S H H1) (b:Fr T H1 H2) (h:∀ j∈T,j∈S∨H.length≤j):Fr S H H2:=
  ⟨Nat.le_trans a.le b.le,fun j hj hS=>(b.at_ j (Nat.lt_of_lt_of_le hj a.le) fun z=>(h j z).elim hS fun w=>absurd (Nat.lt_of_lt_of_le hj w) (Nat.lt_irrefl _)).trans (a.at_ j hj hS)⟩
theorem Fr.app {S:List Nat} {H l:Hs}:Fr S H (H++l):=⟨by simp,fun j hj _=>List.getElem?_append_left hj⟩
theorem Fr.set {H:Hs} {n:Nat} {o:Ob}:Fr [n] H (H.set n o):=⟨by simp,fun j hj hS=>List.getElem?_set_ne (by simpa using Ne.symm (by simpa using hS))⟩
theorem Fr.getL {S:List Nat} {H H':Hs} {j:Nat} {xs:List Dv} (a:Fr S H H') (e:getL H j=some xs) (h:j∉S):getL H' j=some xs:=by
  unfold L2.Mr.getL at e ⊢
  rw [a.at_ j (z31 e) h];exact e
theorem Fr.mono {S T:List Nat} {H H':Hs} (a:Fr S H H') (h:∀ j∈S,j∈T):Fr T H H':=⟨a.le,fun j hj hT=>a.at_ j hj fun z=>hT (h j z)⟩
theorem z0k {m u:MS} {ρ ρ1:Ev} {h h1:Hs} (e:m ρ h=.nx ρ1 h1):mSeq m u ρ h=u ρ1 h1:=by unfold mSeq;rw [e]
theorem zi9 {mi:M Src} {st:Tgt} {b:MS} {ρ:Ev} {h h1:Hs} {src:Src} (e:mi ρ h=.ok src h1):mFor mi st b ρ h=forM src st b src.n 0 ρ h1:=by unfold mFor;rw [e];rfl
theorem if_T {c:M Bool} {t u:MS} {ρ:Ev} {h h1:Hs} (e:c ρ h=.ok true h1):mIf c t u ρ h=t ρ h1:=by unfold mIf;rw [e];rfl
theorem if_F {c:M Bool} {t u:MS} {ρ:Ev} {h h1:Hs} (e:c ρ h=.ok false h1):mIf c t u ρ h=u ρ h1:=by unfold mIf;rw [e];rfl
theorem z9v {src:Src} {sg:Tgt} {b:MS} {f k:Nat} {ρ ρ1 ρ2:Ev} {H H2:Hs} {d:Dv} (hg:src.get k H=some d) (hs:sg d ρ=some ρ1) (hb:b ρ1 H=.nx ρ2 H2):forM src sg b (f+1) k ρ H=forM src sg b f (k+1) ρ2 H2:=by
  simp [forM,hg,hs,hb]
theorem zd6 {src:Src} {sg:Tgt} {b:MS} (P:Nat→Ev→Hs→Prop)
    (step:∀ k ρ H,k<src.n→P k ρ H→∃ d ρ1 ρ2 H2,src.get k H=some d∧sg d ρ=some ρ1∧b ρ1 H=.nx ρ2 H2∧P (k+1) ρ2 H2)
    (fin:∀ ρ H,P src.n ρ H→src.fin H=true):∀ (f k:Nat) (ρ:Ev) (H:Hs),f+k=src.n→P k ρ H→∃ ρ' H',forM src sg b f k ρ H=.nx ρ' H'∧P src.n ρ' H'
  | 0,k,ρ,H,h,p=>by
    have hk:k=src.n:=by omega
    subst hk
    exact ⟨ρ,H,by simp [forM,fin ρ H p],p⟩
  | f+1,k,ρ,H,h,p=>by
    obtain ⟨d,ρ1,ρ2,H2,e1,e2,e3,p2⟩:=step k ρ H (by omega) p
    rw [z9v e1 e2 e3]
    exact zd6 P step fin f (k+1) ρ2 H2 (by omega) p2
theorem z51 {mi:M Src} {src:Src} {sg:Tgt} {b:MS} {ρ:Ev} {H H1:Hs} (hi:mi ρ H=.ok src H1) (P:Nat→Ev→Hs→Prop)
    (step:∀ k ρ H,k<src.n→P k ρ H→∃ d ρ1 ρ2 H2,src.get k H=some d∧sg d ρ=some ρ1∧b ρ1 H=.nx ρ2 H2∧P (k+1) ρ2 H2)
    (fin:∀ ρ H,P src.n ρ H→src.fin H=true) (p:P 0 ρ H1):∃ ρ' H',mFor mi sg b ρ H=.nx ρ' H'∧P src.n ρ' H':=by
  rw [zi9 hi]
  exact zd6 P step fin src.n 0 ρ H1 (by omega) p
theorem z6n {src:Src} {sg:Tgt} {t:M Bool} {m:MC} (P:Nat→Ev→Hs→List Dv→Prop)
    (step:∀ k ρ H acc,k<src.n→P k ρ H acc→∃ d ρ1,src.get k H=some d∧sg d ρ=some ρ1 ∧
      ((∃ H2,t ρ1 H=.ok false H2∧P (k+1) ρ1 H2 acc)∨∃ H2 ρ3 acc3 H3,t ρ1 H=.ok true H2∧m ρ1 H2 acc=.ok (ρ3,acc3) H3∧P (k+1) ρ3 H3 acc3))
    (fin:∀ ρ H acc,P src.n ρ H acc→src.fin H=true):∀ (f k:Nat) (ρ:Ev) (H:Hs) (acc:List Dv),f+k=src.n→P k ρ H acc→∃ ρ' H' acc',z2l src sg t m f k ρ H acc=.ok (ρ',acc') H'∧P src.n ρ' H' acc'
  | 0,k,ρ,H,acc,h,p=>by
    have hk:k=src.n:=by omega
    subst hk
    exact ⟨ρ,H,acc,by simp [z2l,fin ρ H acc p],p⟩
  | f+1,k,ρ,H,acc,h,p=>by
    obtain ⟨d,ρ1,e1,e2,e3⟩:=step k ρ H acc (by omega) p
    rcases e3 with ⟨H2,e3,p2⟩ | ⟨H2,ρ3,acc3,H3,e3,e4,p2⟩
    · obtain ⟨ρ',H',acc',e5,p5⟩:=z6n P step fin f (k+1) ρ1 H2 acc (by omega) p2
      exact ⟨ρ',H',acc',by simp [z2l,e1,e2,e3,e5],p5⟩
    · obtain ⟨ρ',H',acc',e5,p5⟩:=z6n P step fin f (k+1) ρ3 H3 acc3 (by omega) p2
      exact ⟨ρ',H',acc',by simp [z2l,e1,e2,e3,e4,e5],p5⟩
theorem z6o (k:Nat) (H:Hs):∀ ns:List Int,optL (pur (k+1) H) (ns.map Dv.int)=some (ns.map Dt.int)
  | []=>rfl
  | n::ns=>by
    rw [List.map_cons,optL,z6o k H ns];rfl
def prD (p:Int×Int):Dv:=.tup [.int p.1,.int p.2]
def prT (p:Int×Int):Dt:=.tup [.int p.1,.int p.2]
theorem zia (k:Nat) (H:Hs) (p:Int×Int):pur (k+2) H (prD p)=some (prT p):=rfl
theorem z8r (k:Nat) (H:Hs):∀ ps:List (Int×Int),optL (pur (k+2) H) (ps.map prD)=some (ps.map prT)
  | []=>rfl
  | p::ps=>by
    rw [List.map_cons,optL,z8r k H ps,zia];rfl
theorem zib (p q:Int×Int):deq (prT p) (prT q)=decide (p=q):=by
  obtain ⟨a,b⟩:=p
  obtain ⟨c,d⟩:=q
  simp only [prT,deq,deqL,Bool.and_true]
  rw [Bool.eq_iff_iff]
  simp
theorem zn8 (neg:Bool) (H:Hs) (p:Int×Int) (ps:List (Int×Int)):in0 neg (prD p) (.tup (ps.map prD)) H=.ok (.bl (if neg then !decide (p∈ps) else decide (p∈ps))) H:=by
  have e:(ps.map prT).any (fun t=>deq t (prT p))=decide (p∈ps):=by
    rw [Bool.eq_iff_iff]
    simp only [List.any_map,List.any_eq_true,Function.comp,zib,decide_eq_true_eq]
    constructor
    · rintro ⟨q,hq,rfl⟩;exact hq
    · intro h;exact ⟨p,h,rfl⟩
  have h1:optL (pur z0w H) (ps.map prD)=some (ps.map prT):=z8r 28 H ps
  have h2:pur z0w H (prD p)=some (prT p):=zia 28 H p
  show inD [] neg (prD p) (.tup (ps.map prD)) H=_
  simp only [inD,seqD,h1,h2,e]
theorem zkb (neg:Bool) (H:Hs) (x:Int) (ns:List Int):in0 neg (.int x) (.tup (ns.map Dv.int)) H=.ok (.bl (if neg then !decide (x∈ns) else decide (x∈ns))) H:=by
  have e:(ns.map Dt.int).any (fun t=>deq t (.int x))=decide (x∈ns):=by
    rw [Bool.eq_iff_iff]
    simp only [List.any_map,List.any_eq_true,Function.comp,deq,decide_eq_true_eq,beq_iff_eq]
    constructor
    · rintro ⟨q,hq,rfl⟩;exact hq
    · intro h;exact ⟨x,h,rfl⟩
  have h1:optL (pur z0w H) (ns.map Dv.int)=some (ns.map Dt.int):=z6o 29 H ns
  have h2:pur z0w H (.int x)=some (.int x):=rfl
  show inD [] neg (.int x) (.tup (ns.map Dv.int)) H=_
  simp only [inD,seqD,h1,h2,e]
section
variable {X:Cx} {G:Cfg} {E:XK} {elt tg iter tg' iter':Expr} {ifs ifs':List Expr} {sc:Scope} {ps px pos:Pos} {N:List Str} {cap:List (Option Nat)} {mi mi':M Src} {st st':Tgt} {test test':M Bool} {me:M Dv} {i:Nat} {x:Str}
theorem z8s (hN:X.N.Nodup) (hi':X.N[i]?=some x) (hc:X.calm=true) (C:CapOk X sc N cap) (hi:SndI X G E tg iter mi) (hg:∀ s H ex,SndG (blk X sc N s H ex) G tg st) (htt:∀ s H ex,zb0 (blk X sc N s H ex) G ifs test) (hel:∀ s H ex,Snd (blk X sc N s H ex) G E0 elt me)
    (hx:X.env.scope.names.lookup x=some .local:=by rfl) (hsw:swapsWith (.ListComp elt [⟨tg,iter,ifs,0⟩] sc ps) (some (.Name x px)) pos.line X.env=pure true:=by rfl)
    (hs:∀ x,foldedSetIterable iter X.env x=pure x:=by intro _;rfl):SndS X G E (.Assign [.Name x px] (.ListComp elt [⟨tg,iter,ifs,0⟩] sc ps) pos) (mAsg (mAl (z0v mi cap st test (z0t me))) (z03 i)):=fun hK=>
  PS.imp (zax hsw hN hi' hx hc C rfl (fun it D env=>zhs elt tg iter ifs sc ps (.ref it) D env) (hi hK) (fun s H ex=>hg s H ex hK) (fun s H ex=>htt s H ex hK) (fun s H ex D=>PCl.imp (z6b (hel s H ex hK)) fun _ _ _ _ t=>z8l t) hs) fun D σ H ⟨μ,ρ,h,rs,s,o⟩=>
    z6i (zhz (z1o rs s o fun μ1 d h1 v H1 x1 rs1 s1 r1 o1=>o1 μ1 H1 _ Ext.refl s1 (rs1.set i r1)))
end
end L2.Mr
namespace SoM
open PySem PySem.W PyProof.Rows
variable {n:Nat} {f:Nat→Nat} {s:Shared}
def cmp0 (n:Nat) (f:Nat→Nat) (i j:Nat) (C:Bool→Shared→Prop) (s:Shared):Prop:=i<n∧j<n∧C (decide (f i<f j)) s
def F (f:Nat→Nat) (p:Array Nat) (k:Nat):Nat:=f (p.getD k 0)
def Ent (n:Nat) (p:Array Nat):Prop:=p.size=n∧p.toList.Perm (List.range n)
theorem Ent.lt {p:Array Nat} (e:Ent n p) (hn:0<n) (k:Nat):p.getD k 0<n:=by
  by_cases h:k<p.size
  · have:p.getD k 0=p[k]:=by simp [Array.getD,h]
    rw [this]
    have hm:p[k]∈p.toList:=by simp
    exact List.mem_range.mp (e.2.mem_iff.mp hm)
  · have:p.getD k 0=0:=by simp [Array.getD,h]
    omega
theorem z52 {p q:Array Nat} {i j:Nat} (h:p[i]?=q[j]?):F f p i=F f q j:=by
  unfold F
  simp only [Array.getD_eq_getD_getElem?,h]
theorem Ent.mirror {p:Array Nat} (e:Ent n p) (i j d:Nat):Ent n (mirror p i j d):=
  ⟨(mirror_size ..).trans e.1,((Array.perm_iff_toList_perm.mp (mirror_perm p i j d))).trans e.2⟩
theorem Ent.bubble {p:Array Nat} (e:Ent n p) (k d:Nat):Ent n (bubble p k d):=
  ⟨(bubble_size ..).trans e.1,((Array.perm_iff_toList_perm.mp (bubble_perm p k d))).trans e.2⟩
theorem Ent.rev {p:Array Nat} (e:Ent n p) (i j:Nat):Ent n (kas_rev p i j):=e.mirror _ _ _
theorem zd7 {p:Array Nat} {i j:Nat} (hj:j≤p.size) (k:Nat):F f (kas_rev p i j) k=if i≤k∧k<j then F f p (i+j - 1 - k) else F f p k:=by
  have e:=getElem?_mirror_all (i:=i) hj k
  by_cases h:i≤k∧k<j
  · rw [if_pos h] at e ⊢;exact z52 e
  · rw [if_neg h] at e ⊢;exact z52 e
theorem z9w {p:Array Nat} {k d:Nat} (hs:k<p.size) (hd:d≤k) (i:Nat):F f (bubble p k d) i=if i=k - d then F f p k else if k - d<i∧i≤k then F f p (i - 1) else F f p i:=by
  have e:=getElem?_bubble hs d hd i
  by_cases h1:i=k - d
  · rw [if_pos h1] at e ⊢;exact z52 e
  · rw [if_neg h1] at e ⊢
    by_cases h2:k - d<i∧i≤k
    · rw [if_pos h2] at e ⊢;exact z52 e
    · rw [if_neg h2] at e ⊢;exact z52 e
def Inc (f:Nat→Nat) (p:Array Nat) (m:Nat):Prop:=∀ i j,i≤j→j<m→F f p i≤F f p j
def Dec (f:Nat→Nat) (p:Array Nat) (m:Nat):Prop:=∀ i j,i≤j→j<m→F f p j≤F f p i
theorem Inc.succ {p:Array Nat} {m:Nat} (h:Inc f p m) (hm:1≤m) (h1:F f p (m - 1)≤F f p m):Inc f p (m+1):=by
  intro i j hij hj
  by_cases q:j=m
  · subst q
    by_cases r:i=j
    · subst r;exact Nat.le_refl _
    · exact Nat.le_trans (h i (j - 1) (by omega) (by omega)) h1
  · exact h i j hij (by omega)
theorem Dec.succ {p:Array Nat} {m:Nat} (h:Dec f p m) (hm:1≤m) (h1:F f p m≤F f p (m - 1)):Dec f p (m+1):=by
  intro i j hij hj
  by_cases q:j=m
  · subst q
    by_cases r:i=j
    · subst r;exact Nat.le_refl _
    · exact Nat.le_trans h1 (h i (j - 1) (by omega) (by omega))
  · exact h i j hij (by omega)
theorem zd8 {p:Array Nat} (e:Ent n p) (hn:0<n) {Q:Nat→Shared→Prop}:∀ (fu m:Nat) (s:Shared),1≤m→Inc f p m→
    (∀ m',m≤m'→m'≤m+fu→Inc f p m'→(m'=m+fu∨F f p m'<F f p (m' - 1))→Q m' s)→(kas_asc p fu m).kasWp (cmp0 n f) Q s
  | 0,m,s,h1,hi,h=>h m (Nat.le_refl _) (Nat.le_refl _) hi (.inl rfl)
  | fu+1,m,s,h1,hi,h=>by
    refine ⟨e.lt hn _,e.lt hn _, ?_⟩
    by_cases c:f (p.getD m 0)<f (p.getD (m - 1) 0)
    · rw [decide_eq_true c]
      exact h m (Nat.le_refl _) (by omega) hi (.inr c)
    · rw [decide_eq_false c]
      refine zd8 e hn fu (m+1) s (by omega) (hi.succ h1 (Nat.le_of_not_lt c)) fun m' a b c d=>h m' (by omega) (by omega) c ?_
      rcases d with d | d
      · exact .inl (by omega)
      · exact .inr d
theorem z6p (hn:0<n) {Q:Array Nat×Nat×Nat→Shared→Prop}:∀ (fu m q:Nat) (p:Array Nat) (s:Shared),Ent n p→q+1≤m→m+fu≤n→Dec f p m→(∀ k,m - 1 - q≤k→k<m→F f p k=F f p (m - 1))→
    (∀ p' m' q',Ent n p'→q'+1≤m'→m≤m'→m'≤m+fu→Dec f p' m'→(∀ k,m' - 1 - q'≤k→k<m'→F f p' k=F f p' (m' - 1))→Q (p',m',q') s)→(kas_desc fu p m q).kasWp (cmp0 n f) Q s
  | 0,m,q,p,s,e,h1,h2,hd,he,h=>h p m q e h1 (Nat.le_refl _) (Nat.le_refl _) hd he
  | fu+1,m,q,p,s,e,h1,h2,hd,he,h=>by
    refine ⟨e.lt hn _,e.lt hn _, ?_⟩
    by_cases c:f (p.getD m 0)<f (p.getD (m - 1) 0)
    · have c':F f p m<F f p (m - 1):=c
      rw [decide_eq_true c]
      show KasT.kasWp _ (if true=true then (if q>0 then _ else _) else _) _ _
      rw [if_pos rfl]
      by_cases hq:q>0
      · rw [if_pos hq]
        have hsz:m≤p.size:=by rw [e.1];omega
        have hF:∀ k,F f (kas_rev p (m - (q+1)) m) k=F f p k:=by
          intro k
          rw [zd7 hsz]
          split
          · rw [he _ (by omega) (by omega),he k (by omega) (by omega)]
          · rfl
        have hd':Dec f (kas_rev p (m - (q+1)) m) (m+1):=by
          intro i j hij hj
          rw [hF,hF]
          exact hd.succ (by omega) (Nat.le_of_lt c') i j hij hj
        refine z6p hn fu (m+1) 0 _ s (e.rev _ _) (by omega) (by omega) hd' ?_ fun p' m' q' a b c d=>h p' m' q' a b (by omega) (by omega)
        intro k k1 k2
        have:k=m:=by omega
        subst this
        rfl
      · rw [if_neg hq]
        refine z6p hn fu (m+1) 0 _ s e (by omega) (by omega) (hd.succ (by omega) (Nat.le_of_lt c')) ?_ fun p' m' q' a b c d=>h p' m' q' a b (by omega) (by omega)
        intro k k1 k2
        have:k=m:=by omega
        subst this
        rfl
    · have c':¬ F f p m<F f p (m - 1):=c
      rw [decide_eq_false c]
      show KasT.kasWp _ (if false=true then _ else KasT.ask _ _ _) _ _
      rw [if_neg (by simp)]
      refine ⟨e.lt hn _,e.lt hn _, ?_⟩
      by_cases c2:f (p.getD (m - 1) 0)<f (p.getD m 0)
      · rw [decide_eq_true c2]
        exact h p m q e h1 (Nat.le_refl _) (by omega) hd he
      · have c2':¬ F f p (m - 1)<F f p m:=c2
        rw [decide_eq_false c2]
        have eq:F f p m=F f p (m - 1):=by omega
        refine z6p hn fu (m+1) (q+1) _ s e (by omega) (by omega) (hd.succ (by omega) (by omega)) ?_ fun p' m' q' a b c d=>h p' m' q' a b (by omega) (by omega)
        intro k k1 k2
        show F f p k=F f p m
        by_cases r:k=m
        · subst r;rfl
        · rw [eq];exact he k (by omega) (by omega)
theorem Dec.rev {p:Array Nat} {m:Nat} (hm:m≤p.size) (h:Dec f p m):Inc f (kas_rev p 0 m) m:=by
  intro i j hij hj
  rw [zd7 hm,zd7 hm,if_pos ⟨Nat.zero_le _,by omega⟩,if_pos ⟨Nat.zero_le _,hj⟩]
  exact h _ _ (by omega) (by omega)
theorem z9x (hn:0<n) {p:Array Nat} {m:Nat} {Q:Nat×Array Nat→Shared→Prop} (e:Ent n p) (h1:1≤m) (h2:m≤n) (hd:Dec f p m)
    (h:∀ m' p',Ent n p'→1≤m'→m'≤n→Inc f p' m'→Q (m',p') s):(kas_tail3 m n p).kasWp (cmp0 n f) Q s:=by
  unfold kas_tail3
  rw [KasT.kasWp_bind]
  refine zd8 (e.rev 0 m) hn (n - m) m s h1 (hd.rev (by rw [e.1];exact h2)) fun m' a b c _=>?_
  exact h m' _ (e.rev 0 m) (by omega) (by omega) c
theorem z53 (hn:0<n) {p:Array Nat} {m:Nat} {Q:Nat×Array Nat→Shared→Prop} (e:Ent n p) (h2:m+1≤n) (hd:Dec f p (m+1))
    (h:∀ m' p',Ent n p'→1≤m'→m'≤n→Inc f p' m'→Q (m',p') s):(kas_descPart m n p).kasWp (cmp0 n f) Q s:=by
  unfold kas_descPart
  rw [KasT.kasWp_bind]
  refine z6p hn (n - (m+1)) (m+1) 0 p s e (by omega) (by omega) hd (fun k k1 k2=>by (have:k=m:=by omega);subst this;rfl) fun p' m' q' e' a b c d eq=>?_
  show KasT.kasWp _ (if q'>0 then _ else _) _ _
  by_cases hq:q'>0
  · rw [if_pos hq]
    have hsz:m'≤p'.size:=by rw [e'.1];omega
    have hF:∀ k,F f (kas_rev p' (m' - (q'+1)) m') k=F f p' k:=by
      intro k
      rw [zd7 hsz]
      split
      · rw [eq _ (by omega) (by omega),eq k (by omega) (by omega)]
      · rfl
    refine z9x hn (e'.rev _ _) (show 1≤m' by omega) (show m'≤n by omega) ?_ h
    intro i j hij hj
    rw [hF,hF]
    exact d i j hij hj
  · rw [if_neg hq]
    exact z9x hn e' (show 1≤m' by omega) (show m'≤n by omega) d h
theorem zg5 (hn:1≤n) {p:Array Nat} {Q:Nat×Array Nat→Shared→Prop} (e:Ent n p)
    (h:∀ m' p',Ent n p'→1≤m'→m'≤n→Inc f p' m'→Q (m',p') s):(kas_count n p).kasWp (cmp0 n f) Q s:=by
  unfold kas_count
  rw [KasT.kasWp_bind]
  refine zd8 e (by omega) (n - 1) 1 s (Nat.le_refl _) (fun i j hij hj=>by (have:i=j:=by omega);subst this;exact Nat.le_refl _) fun m a b c d=>?_
  show KasT.kasWp _ (if (m==n)=true then _ else if m>1 then _ else _) _ _
  by_cases q:m=n
  · rw [if_pos (beq_iff_eq.mpr q)]
    exact h m p e (by omega) (by omega) c
  · rw [if_neg (by intro z;exact q (beq_iff_eq.mp z))]
    have hlt:F f p m<F f p (m - 1):=by
      rcases d with d | d
      · omega
      · exact d
    by_cases q1:m>1
    · rw [if_pos q1]
      refine ⟨e.lt (by omega) _,e.lt (by omega) _, ?_⟩
      by_cases c2:f (p.getD 0 0)<f (p.getD (m - 1) 0)
      · rw [decide_eq_true c2]
        exact h m p e (by omega) (by omega) c
      · have c2':¬ F f p 0<F f p (m - 1):=c2
        rw [decide_eq_false c2]
        have hsz:m≤p.size:=by rw [e.1];omega
        have eq:∀ k,k<m→F f p k=F f p 0:=by
          intro k hk
          have:=c 0 k (by omega) hk
          have:=c k (m - 1) (by omega) (by omega)
          omega
        have hF:∀ k,F f (kas_rev p 0 m) k=F f p k:=by
          intro k
          rw [zd7 hsz]
          split
          · rw [eq _ (by omega),eq k (by omega)]
          · rfl
        refine z53 (by omega) (e.rev _ _) (by omega) ?_ h
        intro i j hij hj
        rw [hF,hF]
        by_cases r:j=m
        · subst r
          by_cases r2:i=j
          · subst r2;exact Nat.le_refl _
          · have:=eq i (by omega)
            have:=eq (j - 1) (by omega)
            omega
        · rw [eq i (by omega),eq j (by omega)]
          exact Nat.le_refl _
    · rw [if_neg q1]
      have:m=1:=by omega
      subst this
      refine z53 (by omega) e (by omega) ?_ h
      intro i j hij hj
      by_cases r:i=j
      · subst r;exact Nat.le_refl _
      · have h1:i=0:=by omega
        have h2:j=1:=by omega
        subst h1;subst h2
        exact Nat.le_of_lt hlt
theorem z6q {p:Array Nat} (e:Ent n p) (hn:0<n) {k:Nat} (hi:Inc f p k) {Q:Nat→Shared→Prop}:∀ (fu l r:Nat) (s:Shared),r - l≤fu→l≤r→r≤k→
    (∀ i,i<l→F f p i≤F f p k)→(∀ i,r≤i→i<k→F f p k<F f p i)→
    (∀ l',l'≤k→(∀ i,i<l'→F f p i≤F f p k)→(∀ i,l'≤i→i<k→F f p k<F f p i)→Q l' s)→(kas_place p k fu l r).kasWp (cmp0 n f) Q s
  | 0,l,r,s,h1,h2,h3,ha,hb,h=>by
    have:l=r:=by omega
    subst this
    exact h l h3 ha hb
  | fu+1,l,r,s,h1,h2,h3,ha,hb,h=>by
    unfold kas_place
    by_cases q:l≥r
    · rw [if_pos q]
      have:l=r:=by omega
      subst this
      exact h l h3 ha hb
    · rw [if_neg q]
      refine ⟨e.lt hn _,e.lt hn _, ?_⟩
      by_cases c:f (p.getD k 0)<f (p.getD ((l+r) / 2) 0)
      · have c':F f p k<F f p ((l+r) / 2):=c
        rw [decide_eq_true c]
        refine z6q e hn hi fu l ((l+r) / 2) s (by omega) (by omega) (by omega) ha ?_ h
        intro i i1 i2
        have:=hi ((l+r) / 2) i i1 i2
        omega
      · have c':¬ F f p k<F f p ((l+r) / 2):=c
        rw [decide_eq_false c]
        refine z6q e hn hi fu ((l+r) / 2+1) r s (by omega) (by omega) (by omega) ?_ hb h
        intro i i1
        have:=hi i ((l+r) / 2) (by omega) (by omega)
        omega
theorem zic (hn:0<n) {Q:Array Nat→Shared→Prop}:∀ (fu k:Nat) (p:Array Nat) (s:Shared),Ent n p→k+fu≤n→Inc f p k→(∀ p',Ent n p'→Inc f p' (k+fu)→Q p' s)→(kas_bin fu p k).kasWp (cmp0 n f) Q s
  | 0,k,p,s,e,h1,hi,h=>h p e hi
  | fu+1,k,p,s,e,h1,hi,h=>by
    unfold kas_bin
    rw [KasT.kasWp_bind]
    refine z6q e hn hi k 0 k s (by omega) (by omega) (Nat.le_refl _) (fun i hi=>absurd hi (by omega)) (fun i a b=>absurd b (by omega)) fun l hl ha hb=>?_
    have hsz:k<p.size:=by rw [e.1];omega
    refine zic hn fu (k+1) _ s (e.bubble _ _) (by omega) ?_ fun p' e' i'=>h p' e' (by rw [show k+(fu+1)=k+1+fu by omega];exact i')
    intro i j hij hj
    rw [z9w hsz (by omega),z9w hsz (by omega)]
    have hkl:k - (k - l)=l:=by omega
    rw [hkl]
    by_cases i1:i=l
    · rw [if_pos i1]
      by_cases j1:j=l
      · rw [if_pos j1];exact Nat.le_refl _
      · rw [if_neg j1,if_pos (by omega)]
        exact Nat.le_of_lt (hb (j - 1) (by omega) (by omega))
    · rw [if_neg i1]
      by_cases i2:l<i∧i≤k
      · rw [if_pos i2,if_neg (by omega),if_pos (by omega)]
        exact hi (i - 1) (j - 1) (by omega) (by omega)
      · rw [if_neg i2]
        by_cases j1:j=l
        · rw [if_pos j1];exact ha i (by omega)
        · rw [if_neg j1]
          by_cases j2:l<j∧j≤k
          · rw [if_pos j2];exact hi i (j - 1) (by omega) (by omega)
          · rw [if_neg j2];exact hi i j hij (by omega)
theorem zkc (hn:1≤n) {Q:Array Nat→Shared→Prop} (h:∀ p,Ent n p→Inc f p n→Q p s):(kas_sort n).kasWp (cmp0 n f) Q s:=by
  unfold kas_sort
  rw [KasT.kasWp_bind]
  refine zg5 hn ⟨by simp,by simp⟩ fun m p e h1 h2 hi=>?_
  show KasT.kasWp _ (if m<n then _ else _) _ _
  by_cases q:m<n
  · rw [if_pos q]
    have:max m 1=m:=by omega
    rw [this]
    refine zic (by omega) (n - m) m p s e (by omega) hi fun p' e' i'=>h p' e' ?_
    rw [show m+(n - m)=n by omega] at i'
    exact i'
  · rw [if_neg q]
    have:m=n:=by omega
    subst this
    exact h p e hi
theorem zn9 {α:Type} {cmp:Nat→Nat→(Bool→Shared→Prop)→Shared→Prop} {I:Shared→Prop} (hc:∀ i j C s,I s→i<n→j<n→(∀ s',I s'→C (decide (f i<f j)) s')→cmp i j C s):
    ∀ (t:KasT α) (Q:α→Prop) (Q':α→Shared→Prop) (s₀ s:Shared),t.kasWp (cmp0 n f) (fun a _=>Q a) s₀→I s→(∀ a s',Q a→I s'→Q' a s')→t.kasWp cmp Q' s
  | .ret a,Q,Q',s₀,s,h,hi,k=>k a s h hi
  | .ask i j c,Q,Q',s₀,s,h,hi,k=>hc i j _ s hi h.1 h.2.1 fun s' hi'=>zn9 hc (c _) Q Q' s₀ s' h.2.2 hi' k
end SoM
namespace L2
structure Sto {α:Type} (lt:α→α→Bool):Prop where
  irr:∀ x,lt x x=false
  tr:∀ x y z,lt x y=true→lt y z=true→lt x z=true
  tot:∀ x y,lt x y=false→lt y x=false→x=y
section
variable {α:Type} {lt:α→α→Bool}
theorem Sto.asy (o:Sto lt) {x y:α} (h:lt x y=true):lt y x=false:=by
  cases q:lt y x with
  | false=>rfl
  | true=>have:=o.tr x y x h q;rw [o.irr] at this;cases this
theorem Sto.lt_le (o:Sto lt) {x y z:α} (h:lt x y=true) (h2:lt z y=false):lt x z=true:=by
  cases q:lt y z with
  | true=>exact o.tr x y z h q
  | false=>rw [← o.tot y z q h2];exact h
def insK (lt:α→α→Bool) (x:α):List α→List α
  | []=>[x]
  | y::r=>if lt y x then y::insK lt x r else x::y::r
theorem zd9 (x:α):∀ l,(insK lt x l).Perm (x::l)
  | []=>.refl _
  | y::r=>by
    unfold insK
    split
    · exact ((zd9 x r).cons y).trans (List.Perm.swap ..)
    · exact .refl _
abbrev Rise (lt:α→α→Bool) (l:List α):Prop:=l.Pairwise fun a b=>lt b a=false
abbrev z21 (lt:α→α→Bool) (l:List α):Prop:=l.Pairwise fun a b=>lt a b=true
theorem z7r (o:Sto lt):∀ {l l':List α},Rise lt l→Rise lt l'→l.Perm l'→l=l'
  | [],l',_,_,p=>(List.nil_perm.mp p).symm
  | x::r,[],_,_,p=>by simp at p
  | x::r,y::r',h,h',p=>by
    have h1:=List.pairwise_cons.mp h
    have h2:=List.pairwise_cons.mp h'
    have e:x=y:=by
      refine o.tot x y ?_ ?_
      · rcases List.mem_cons.mp (p.mem_iff.mp (List.mem_cons_self ..)) with e | e
        · rw [e];exact o.irr y
        · exact h2.1 x e
      · rcases List.mem_cons.mp (p.mem_iff.mpr (List.mem_cons_self ..)) with e | e
        · rw [e];exact o.irr x
        · exact h1.1 y e
    subst e
    rw [z7r o h1.2 h2.2 (List.Perm.cons_inv p)]
def insS (lt:α→α→Bool) (x:α):List α→List α
  | []=>[x]
  | y::r=>if lt y x then y::insS lt x r else if lt x y then x::y::r else y::r
def z1k (lt:α→α→Bool):List α→List α
  | []=>[]
  | x::r=>insS lt x (z1k lt r)
theorem z6r (o:Sto lt) (x z:α):∀ l,z∈insS lt x l↔z=x∨z∈l
  | []=>by simp [insS]
  | y::r=>by
    unfold insS
    split
    · rw [List.mem_cons,z6r o x z r,List.mem_cons]
      constructor
      · rintro (h | h | h)
        · exact .inr (.inl h)
        · exact .inl h
        · exact .inr (.inr h)
      · rintro (h | h | h)
        · exact .inr (.inl h)
        · exact .inl h
        · exact .inr (.inr h)
    · rename_i q1
      split
      · simp
      · rename_i q2
        have e:=o.tot x y (by simpa using q2) (by simpa using q1)
        subst e
        simp
theorem z1f (o:Sto lt) (z:α):∀ l,z∈z1k lt l↔z∈l
  | []=>.rfl
  | x::r=>by rw [z1k,z6r o,z1f o z r,List.mem_cons]
theorem z7s (o:Sto lt) (x:α):∀ l,z21 lt l→z21 lt (insS lt x l)
  | [],_=>by simp [insS,z21]
  | y::r,h=>by
    have h1:=List.pairwise_cons.mp h
    unfold insS
    split
    · rename_i q
      refine List.pairwise_cons.mpr ⟨fun z hz=>?_,z7s o x r h1.2⟩
      rcases (z6r o x z r).mp hz with rfl | hz
      · exact q
      · exact h1.1 z hz
    · split
      · rename_i q
        refine List.pairwise_cons.mpr ⟨fun z hz=>?_,h⟩
        rcases List.mem_cons.mp hz with rfl | hz
        · exact q
        · exact o.tr _ _ _ q (h1.1 z hz)
      · exact h
theorem z2b (o:Sto lt):∀ l,z21 lt (z1k lt l)
  | []=>List.Pairwise.nil
  | x::r=>z7s o x _ (z2b o r)
theorem z5w (o:Sto lt) {l:List α} (h:z21 lt l):Rise lt l:=h.imp fun h=>o.asy h
theorem z1y (o:Sto lt) {l:List α} (h:z21 lt l):l.Nodup:=h.imp fun {a b} h e=>by rw [e,o.irr] at h;cases h
theorem z3u (o:Sto lt) {l l':List α} (h:z21 lt l) (h':z21 lt l') (m:∀ z,z∈l↔z∈l'):l=l':=by
  refine z7r o (z5w o h) (z5w o h') ?_
  exact (List.perm_ext_iff_of_nodup (z1y o h) (z1y o h')).mpr m
theorem zb7 (o:Sto lt) {l l':List α} (h:z21 lt l') (m:∀ z,z∈l'↔z∈l):l'=z1k lt l:=z3u o h (z2b o l) fun z=>(m z).trans (z1f o z l).symm
def rk (lt:α→α→Bool) (ks:List α) (x:α):Nat:=ks.countP fun y=>lt y x
theorem z3v {p q:α→Bool}:∀ (l:List α),(∀ y,p y=true→q y=true)→l.countP p≤l.countP q
  | [],_=>Nat.le_refl _
  | y::r,h=>by
    have:=z3v r h
    rw [List.countP_cons,List.countP_cons]
    cases hp:p y with
    | true=>rw [h y hp];simp;omega
    | false=>cases q y <;> simp <;> omega
theorem z5x {p q:α→Bool}:∀ (l:List α),(∀ y,p y=true→q y=true)→∀ x,x∈l→q x=true→p x=false→l.countP p<l.countP q
  | [],_,x,hx,_,_=>by simp at hx
  | y::r,h,x,hx,h1,h2=>by
    rw [List.countP_cons,List.countP_cons]
    rcases List.mem_cons.mp hx with rfl | hx
    · have:=z3v r h
      rw [h1,h2];simp;omega
    · have:=z5x r h x hx h1 h2
      cases hp:p y with
      | true=>rw [h y hp];simp;omega
      | false=>cases q y <;> simp <;> omega
theorem zna (o:Sto lt) {ks:List α} {x z:α} (hx:x∈ks):decide (rk lt ks x<rk lt ks z)=lt x z:=by
  cases q:lt x z with
  | true=>exact decide_eq_true (z5x ks (fun y h=>o.tr y x z h q) x hx q (o.irr x))
  | false=>exact decide_eq_false (Nat.not_lt.mpr (z3v ks fun y h=>o.lt_le h q))
theorem zp7 (o:Sto lt) {ks:List α} {x z:α} (hz:z∈ks) (h:rk lt ks x≤rk lt ks z):lt z x=false:=by
  rw [← zna o hz];exact decide_eq_false (Nat.not_lt.mpr h)
end
def ltI (a b:Int):Bool:=decide (a<b)
theorem stoI:Sto ltI:=⟨fun x=>by simp [ltI],fun x y z h1 h2=>by simp [ltI] at *;omega,fun x y h1 h2=>by simp [ltI] at *;omega⟩
def lexL:List Int→List Int→Bool
  | [],[]=>false
  | [],_::_=>true
  | _::_,[]=>false
  | a::x,b::y=>if a==b then lexL x y else decide (a<b)
theorem stoL:Sto lexL:=by
  refine ⟨fun x=>?_,fun x=>?_,fun x=>?_⟩
  · induction x with
    | nil=>rfl
    | cons a x ih=>simp [lexL,ih]
  · induction x with
    | nil=>
      intro y z h1 h2
      cases z with
      | nil=>cases y with
        | nil=>exact h1
        | cons b y=>cases h2
      | cons c z=>rfl
    | cons a x ih=>
      intro y z h1 h2
      cases y with
      | nil=>cases h1
      | cons b y=>
        cases z with
        | nil=>cases h2
        | cons c z=>
          simp only [lexL,beq_iff_eq] at h1 h2 ⊢
          by_cases e1:a=b <;> by_cases e2:b=c
          · rw [if_pos e1] at h1;rw [if_pos e2] at h2;rw [if_pos (e1.trans e2)];exact ih y z h1 h2
          · rw [if_neg e2] at h2;rw [if_neg (by rw [e1];exact e2)];rw [e1];exact h2
          · rw [if_neg e1] at h1;rw [if_neg (by rw [← e2];exact e1)];rw [← e2];exact h1
          · rw [if_neg e1] at h1;rw [if_neg e2] at h2
            simp only [decide_eq_true_eq] at h1 h2
            rw [if_neg (by omega)];simp;omega
  · induction x with
    | nil=>
      intro y h1 h2
      cases y with
      | nil=>rfl
      | cons b y=>cases h1
    | cons a x ih=>
      intro y h1 h2
      cases y with
      | nil=>cases h2
      | cons b y=>
        simp only [lexL,beq_iff_eq] at h1 h2
        by_cases e:a=b
        · subst e
          rw [if_pos rfl] at h1 h2
          rw [ih y h1 h2]
        · rw [if_neg e] at h1
          rw [if_neg (Ne.symm e)] at h2
          simp at h1 h2;omega
def ltP (p q:Int×Int):Bool:=if p.1==q.1 then decide (p.2<q.2) else decide (p.1<q.1)
def keyP (p:Int×Int):List Int:=[p.1,p.2]
theorem z3h (p q:Int×Int):lexL (keyP p) (keyP q)=ltP p q:=by
  unfold ltP keyP lexL
  split
  · unfold lexL
    split
    · rename_i h;simp at h;simp [lexL,h]
    · rfl
  · rfl
theorem zg6 {p q:Int×Int} (h:keyP p=keyP q):p=q:=by
  obtain ⟨a,b⟩:=p
  obtain ⟨c,d⟩:=q
  simp [keyP] at h
  rw [h.1,h.2]
theorem stoP:Sto ltP:=⟨fun x=>by rw [← z3h];exact stoL.irr _,fun x y z h1 h2=>by rw [← z3h] at *;exact stoL.tr _ _ _ h1 h2,fun x y h1 h2=>by rw [← z3h] at *;exact zg6 (stoL.tot _ _ h1 h2)⟩
section
variable {α β:Type} {lt:α→α→Bool} {lt':β→β→Bool} {f:α→β}
theorem z9y (h:∀ x y,lt' (f x) (f y)=lt x y) (x:α):∀ l,insS lt' (f x) (l.map f)=(insS lt x l).map f
  | []=>rfl
  | y::r=>by
    simp only [List.map_cons,insS,h]
    split
    · rw [z9y h x r];rfl
    · split <;> rfl
theorem z7t (h:∀ x y,lt' (f x) (f y)=lt x y):∀ l,z1k lt' (l.map f)=(z1k lt l).map f
  | []=>rfl
  | x::r=>by rw [List.map_cons,z1k,z7t h r,z9y h];rfl
end
end L2
namespace SM
open PySem PySem.SetTable
def Rise (l:List Nat):Prop:=l.Pairwise (·<·)
theorem z6s {l:List Nat} (hr:Rise l) {i k x:Nat} (a:l[i]?=some x) (b:l[k]?=some x):i=k:=by
  obtain ⟨p1,p2⟩:=List.getElem?_eq_some_iff.mp a
  obtain ⟨q1,q2⟩:=List.getElem?_eq_some_iff.mp b
  rcases Nat.lt_trichotomy i k with h | h | h
  · have:=List.pairwise_iff_getElem.mp hr i k p1 q1 h;omega
  · exact h
  · have:=List.pairwise_iff_getElem.mp hr k i q1 p1 h;omega
theorem zg7 (xs:Array Nat) (j:Nat) (hr:Rise xs.toList):∀ (fuel lo hi:Nat),lo≤hi→hi≤xs.size→hi - lo≤fuel→
    (∀ i (h:i<xs.size),i<lo→xs[i]<j)→(∀ i (h:i<xs.size),hi≤i→j≤xs[i])→
    (∀ i (h:i<xs.size),i<below.go xs j fuel lo hi→xs[i]<j)∧(∀ i (h:i<xs.size),below.go xs j fuel lo hi≤i→j≤xs[i])∧below.go xs j fuel lo hi≤xs.size:=by
  intro fuel
  induction fuel with
  | zero=>
    intro lo hi h1 h2 h3 ha hb
    have:lo=hi:=by omega
    subst this
    exact ⟨ha,hb,h2⟩
  | succ n ih=>
    intro lo hi h1 h2 h3 ha hb
    unfold below.go
    by_cases hlt:lo<hi
    · rw [if_pos hlt]
      dsimp only
      have hm:(lo+hi) / 2<xs.size:=by omega
      have e:xs.getD ((lo+hi) / 2) j=xs[(lo+hi) / 2]:=by simp [Array.getD,hm]
      have mono:∀ a b (ha:a<xs.size) (hb:b<xs.size),a<b→xs[a]<xs[b]:=by
        intro a b ha hb hab
        have:=List.pairwise_iff_getElem.mp hr a b (by simpa using ha) (by simpa using hb) hab
        simpa using this
      by_cases hc:xs.getD ((lo+hi) / 2) j<j
      · rw [if_pos hc]
        refine ih _ _ (by omega) h2 (by omega) ?_ hb
        intro i h hi'
        rw [e] at hc
        by_cases q:i=(lo+hi) / 2
        · subst q;exact hc
        · have:=mono i _ h hm (by omega);omega
      · rw [if_neg hc]
        refine ih _ _ (by omega) (by omega) (by omega) ha ?_
        intro i h hi'
        rw [e] at hc
        by_cases q:i=(lo+hi) / 2
        · subst q;omega
        · have:=mono _ i hm h (by omega);omega
    · rw [if_neg hlt]
      have:lo=hi:=by omega
      subst this
      exact ⟨ha,hb,h2⟩
theorem z2c {xs:Array Nat} {j:Nat} (hr:Rise xs.toList):
    (∀ i (h:i<xs.size),i<below xs j→xs[i]<j)∧(∀ i (h:i<xs.size),below xs j≤i→j≤xs[i])∧below xs j≤xs.size:=
  zg7 xs j hr xs.size 0 xs.size (Nat.zero_le _) (Nat.le_refl _) (by omega) (fun i h hi=>absurd hi (by omega)) (fun i h hi=>absurd h (by omega))
theorem z7u {xs:Array Nat} {j:Nat} (hr:Rise xs.toList) (hm:j∈xs.toList):xs[below xs j]?=some j:=by
  obtain ⟨h1,h2,h3⟩:=z2c (j:=j) hr
  obtain ⟨i,hi,e⟩:=List.getElem_of_mem hm
  have hi':i<xs.size:=by simpa using hi
  have e':xs[i]=j:=by simpa using e
  have hle:below xs j≤i:=by
    rcases Nat.lt_or_ge i (below xs j) with q | q
    · have:=h1 i hi' q;omega
    · exact q
  have hb:below xs j<xs.size:=by omega
  have:=h2 (below xs j) hb (Nat.le_refl _)
  have mono:∀ a b (ha:a<xs.size) (hb:b<xs.size),a<b→xs[a]<xs[b]:=by
    intro a b ha hb hab
    have:=List.pairwise_iff_getElem.mp hr a b (by simpa using ha) (by simpa using hb) hab
    simpa using this
  have hE:below xs j=i:=by
    rcases Nat.lt_or_ge (below xs j) i with q | q
    · have:=mono _ _ hb hi' q;omega
    · omega
  rw [Array.getElem?_eq_getElem hb]
  congr 1
  have:∀ k (hk:k<xs.size),k=i→xs[k]=xs[i]:=by intro k hk e;subst e;rfl
  rw [this _ hb hE,e']
theorem zda {xs:Array Nat} {j:Nat} (hm:j∉xs.toList):(xs[below xs j]?==some j)=false:=by
  rw [beq_eq_false_iff_ne]
  intro e
  obtain ⟨h,e⟩:=Array.getElem?_eq_some_iff.mp e
  exact hm (by rw [← e];simp)
theorem z16 {α:Type} (xs:Array α) (p:Nat) (x:α) (hp:p≤xs.size):(insertAt xs p x).toList=xs.toList.take p++x::xs.toList.drop p:=by
  unfold insertAt
  rw [Array.toList_append,Array.toList_push]
  simp [Array.toList_extract,List.take_of_length_le]
theorem z8t {xs:Array Nat} {j:Nat} (hr:Rise xs.toList) (hm:j∉xs.toList):Rise (insertAt xs (below xs j) j).toList:=by
  obtain ⟨h1,h2,h3⟩:=z2c (j:=j) hr
  rw [z16 _ _ _ h3]
  unfold Rise at hr ⊢
  have hlt:∀ a∈xs.toList.take (below xs j),a<j:=by
    intro a ha
    obtain ⟨i,hi,e⟩:=List.getElem_of_mem ha
    rw [List.length_take] at hi
    rw [List.getElem_take] at e
    have:=h1 i (by simp at hi;omega) (by omega)
    simp at e;omega
  have hgt:∀ a∈xs.toList.drop (below xs j),j<a:=by
    intro a ha
    obtain ⟨i,hi,e⟩:=List.getElem_of_mem ha
    rw [List.length_drop] at hi
    rw [List.getElem_drop] at e
    have q:=h2 (below xs j+i) (by simp at hi;omega) (by omega)
    have ne:a≠j:=by rintro rfl;exact hm (List.mem_of_mem_drop ha)
    simp at e;omega
  rw [List.pairwise_append]
  refine ⟨hr.sublist (List.take_sublist _ _), ?_, ?_⟩
  · rw [List.pairwise_cons]
    exact ⟨hgt,hr.sublist (List.drop_sublist _ _)⟩
  · intro a ha b hb
    rcases List.mem_cons.mp hb with rfl | hb
    · exact hlt a ha
    · have:=hlt a ha;have:=hgt b hb;omega
def adv (mask:Nat) (p:Probe):Probe:=
  if p.more>0 then { p with j:=p.j+1,more:=p.more - 1 } else
  { p with j:=(leap mask p.i p.perturb).1,more:=runEnd mask (leap mask p.i p.perturb).1 - (leap mask p.i p.perturb).1,i:=(leap mask p.i p.perturb).1,perturb:=(leap mask p.i p.perturb).2 }
theorem zid (t:SetTable) (p:Probe):t.advance p=adv t.mask p:=by
  unfold SetTable.advance adv
  split <;> rfl
def st0 (mask:Nat) (h:Int):Probe:={ j:=bits h % (mask+1),more:=runEnd mask (bits h % (mask+1)) - bits h % (mask+1),i:=bits h % (mask+1),perturb:=bits h,dummy:=none }
def stN (mask:Nat) (h:Int):Nat→Probe
  | 0=>st0 mask h
  | n+1=>adv mask (stN mask h n)
def pr (mask:Nat) (h:Int) (n:Nat):Nat:=(stN mask h n).j
theorem zdb (mask:Nat) (p:Probe):(adv mask p).dummy=p.dummy:=by unfold adv;split <;> rfl
theorem z7v (mask:Nat) (h:Int):∀ n,(stN mask h n).dummy=none
  | 0=>rfl
  | n+1=>by rw [stN,zdb,z7v mask h n]
def z8u (mask i pt:Nat):Probe:={ j:=i,more:=runEnd mask i - i,i:=i,perturb:=pt,dummy:=none }
def bs (mask:Nat) (h:Int):Nat→Nat×Nat
  | 0=>(bits h % (mask+1),bits h)
  | L+1=>leap mask (bs mask h L).1 (bs mask h L).2
theorem zb8 (mask i:Nat):runEnd mask i - i≤9:=by unfold runEnd;split <;> omega
theorem z9z (mask:Nat) (h:Int) (i pt:Nat) (n:Nat) (e:stN mask h n=z8u mask i pt):∀ k,k≤runEnd mask i - i→stN mask h (n+k)={ z8u mask i pt with j:=i+k,more:=runEnd mask i - i - k }
  | 0,_=>by rw [Nat.add_zero,e];rfl
  | k+1,hk=>by
    have ih:=z9z mask h i pt n e k (by omega)
    rw [show n+(k+1)=(n+k)+1 from rfl,stN,ih]
    unfold adv
    rw [if_pos (show runEnd mask i - i - k>0 by omega)]
    simp [z8u]
    omega
theorem znb (mask:Nat) (h:Int):∀ L,∃ n,n≤10*L∧stN mask h n=z8u mask (bs mask h L).1 (bs mask h L).2
  | 0=>⟨0,by omega,rfl⟩
  | L+1=>by
    obtain ⟨n,hn,e⟩:=znb mask h L
    have r:=z9z mask h _ _ n e (runEnd mask (bs mask h L).1 - (bs mask h L).1) (Nat.le_refl _)
    have:=zb8 mask (bs mask h L).1
    refine ⟨n+(runEnd mask (bs mask h L).1 - (bs mask h L).1)+1,by omega, ?_⟩
    rw [stN,r]
    unfold adv
    rw [if_neg (by simp)]
    rfl
theorem znc (mask:Nat) (h:Int):∀ L,(bs mask h L).2=bits h / 32 ^ L
  | 0=>by simp [bs]
  | L+1=>by
    rw [bs]
    show (bs mask h L).2 / 32=_
    rw [znc mask h L,Nat.div_div_eq_div_mul,Nat.pow_succ]
theorem zkd (h:Int):bits h<2 ^ 64:=by unfold bits;omega
theorem znd (mask:Nat) (h:Int) {L:Nat} (hL:13≤L):(bs mask h L).2=0:=by
  rw [znc]
  have h1:=zkd h
  have h2:(32:Nat) ^ 13≤32 ^ L:=Nat.pow_le_pow_right (by decide) hL
  have h3:(2:Nat) ^ 64<32 ^ 13:=by decide
  exact Nat.div_eq_of_lt (by omega)
def fx (mask x:Nat):Nat:=(x*5+1) % (mask+1)
def itf (mask:Nat):Nat→Nat→Nat
  | 0,x=>x
  | n+1,x=>itf mask n (fx mask x)
theorem za0 (mask:Nat):∀ n x,itf mask (n+1) x=fx mask (itf mask n x)
  | 0,x=>rfl
  | n+1,x=>by rw [itf,za0 mask n,itf]
theorem zie (mask:Nat) (h:Int):∀ n,(bs mask h (13+n)).1=itf mask n (bs mask h 13).1
  | 0=>rfl
  | n+1=>by
    rw [za0,← zie mask h n,show 13+(n+1)=(13+n)+1 from rfl,bs]
    show ((bs mask h (13+n)).1*5+1+(bs mask h (13+n)).2 / 32) % (mask+1)=_
    rw [znd mask h (by omega)]
    rfl
def orb (mask:Nat):Nat→Nat→Nat
  | 0,_=>0
  | n+1,x=>2 ^ x ||| orb mask n (fx mask x)
theorem zdc (mask j:Nat):∀ n x,(orb mask n x).testBit j=true→∃ k,k<n∧itf mask k x=j
  | 0,x,h=>by simp [orb] at h
  | n+1,x,h=>by
    rw [orb,Nat.testBit_or,Bool.or_eq_true] at h
    rcases h with h | h
    · rw [Nat.testBit_two_pow,decide_eq_true_eq] at h
      exact ⟨0,by omega,h⟩
    · obtain ⟨k,hk,e⟩:=zdc mask j n _ h
      exact ⟨k+1,by omega,e⟩
def good (mask:Nat):Prop:=mask=7∨mask=31∨mask=127
def zne (mask:Nat):Bool:=(List.range (mask+1)).all fun x=>orb mask (mask+1) x==2 ^ (mask+1) - 1
theorem zg8 {mask:Nat} (g:good mask):zne mask=true:=by
  rcases g with rfl | rfl | rfl <;> decide +kernel
theorem zdd {mask x j:Nat} (g:good mask) (hx:x≤mask) (hj:j≤mask):∃ k,k≤mask∧itf mask k x=j:=by
  have h1:=zg8 g
  unfold zne at h1
  rw [List.all_eq_true] at h1
  have h2:=h1 x (List.mem_range.mpr (by omega))
  rw [beq_iff_eq] at h2
  have h3:(orb mask (mask+1) x).testBit j=true:=by
    rw [h2,Nat.testBit_two_pow_sub_one,decide_eq_true_eq];omega
  obtain ⟨k,hk,e⟩:=zdc mask j _ _ h3
  exact ⟨k,by omega,e⟩
theorem zg9 (a m:Nat):a % (m+1)≤m:=by
  have:=Nat.mod_lt a (show 0<m+1 by omega)
  omega
theorem zp8 (mask:Nat) (h:Int):∀ L,(bs mask h L).1≤mask
  | 0=>zg9 _ _
  | L+1=>zg9 _ _
theorem za1 {mask j:Nat} (g:good mask) (h:Int) (hj:j≤mask):∃ L,L≤13+mask∧(bs mask h L).1=j:=by
  obtain ⟨k,hk,e⟩:=zdd g (zp8 mask h 13) hj
  exact ⟨13+k,by omega,by rw [zie];exact e⟩
theorem zp9 {mask j:Nat} (g:good mask) (h:Int) (hj:j≤mask):∃ n,n<10*turns mask∧pr mask h n=j:=by
  obtain ⟨L,hL,e⟩:=za1 g h hj
  obtain ⟨n,hn,e2⟩:=znb mask h L
  refine ⟨n,by unfold turns;omega, ?_⟩
  unfold pr
  rw [e2]
  exact e
theorem z7w {mask i:Nat} (hi:i≤mask):runEnd mask i≤mask:=by unfold runEnd;split <;> omega
theorem znf {mask:Nat} (h:Int):∀ n,(stN mask h n).i≤mask∧(stN mask h n).j+(stN mask h n).more≤mask
  | 0=>by
    have e:bits h % (mask+1)≤mask:=zg9 _ _
    have:=z7w e
    have:bits h % (mask+1)≤runEnd mask (bits h % (mask+1)):=by unfold runEnd;split <;> omega
    exact ⟨e,by show bits h % (mask+1)+(runEnd mask (bits h % (mask+1)) - bits h % (mask+1))≤mask;omega⟩
  | n+1=>by
    obtain ⟨h1,h2⟩:=znf (mask:=mask) h n
    rw [stN]
    unfold adv
    split
    · exact ⟨h1,by dsimp only;omega⟩
    · dsimp only
      have e:(leap mask (stN mask h n).i (stN mask h n).perturb).1≤mask:=zg9 _ _
      have:=z7w e
      have:(leap mask (stN mask h n).i (stN mask h n).perturb).1≤runEnd mask (leap mask (stN mask h n).i (stN mask h n).perturb).1:=by unfold runEnd;split <;> omega
      exact ⟨e,by omega⟩
theorem zde {mask:Nat} (h:Int) (n:Nat):pr mask h n≤mask:=by have:=(znf (mask:=mask) h n).2;unfold pr;omega
def Way (mask:Nat) (occ:Nat→Prop) (h:Int) (j:Nat):Prop:=∃ n,pr mask h n=j∧∀ m,m<n→occ (pr mask h m)
theorem Way.mono {mask:Nat} {occ occ':Nat→Prop} {h:Int} {j:Nat} (w:Way mask occ h j) (k:∀ x,occ x→occ' x):Way mask occ' h j:=
  let ⟨n,e,a⟩:=w;⟨n,e,fun m hm=>k _ (a m hm)⟩
structure TOk (t:SetTable) (hs:List Int):Prop where
  size:t.place.size=hs.length
  rise:Rise t.place.toList
  nod:t.dummies=#[]
  bnd:∀ j∈t.place.toList,j≤t.mask
  room:hs.length≤t.mask
  msk:good t.mask
  way:∀ (i:Nat) (h:Int) (j:Nat),hs[i]?=some h→t.place.toList[i]?=some j→Way t.mask (·∈t.place.toList) h j
  plain:t.plain=true
theorem TOk.fits {t:SetTable} {hs:List Int} (T:TOk t hs):t.fits hs.length=true:=by
  unfold SetTable.fits SetTable.fill
  rw [T.nod,T.size]
  simpa using T.room
theorem TOk.gave {t:SetTable} {hs:List Int} (T:TOk t hs):t.gaveWay=false:=by
  unfold SetTable.gaveWay
  rcases T.msk with e | e | e <;> rw [e] <;> rfl
theorem zdf (j:Nat):SetTable.has #[] j=false:=by
  unfold SetTable.has
  simp
theorem TOk.slot_live {t:SetTable} {hs:List Int} (T:TOk t hs) {j:Nat} (h:j∈t.place.toList):∃ i,t.slot j=.live i∧t.place.toList[i]?=some j:=by
  refine ⟨below t.place j, ?_,by simpa using z7u T.rise h⟩
  unfold SetTable.slot
  dsimp only
  rw [z7u T.rise h]
  simp
theorem TOk.slot_empty {t:SetTable} {hs:List Int} (T:TOk t hs) {j:Nat} (h:j∉t.place.toList):t.slot j=.empty:=by
  unfold SetTable.slot
  dsimp only
  rw [zda h,T.nod,zdf]
  rfl
theorem TOk.empty_there {t:SetTable} {hs:List Int} (T:TOk t hs):∃ j,j≤t.mask∧j∉t.place.toList:=by
  rcases Classical.em (∃ j,j≤t.mask∧j∉t.place.toList) with h | h
  · exact h
  · exfalso
    have h1:∀ j,j∈List.range (t.mask+1)→j∈t.place.toList:=by
      intro j hj
      rcases Classical.em (j∈t.place.toList) with q | q
      · exact q
      · exact absurd ⟨j,by have:=List.mem_range.mp hj;omega,q⟩ h
    have h2:=(List.nodup_range (n:=t.mask+1)).length_le_of_subset h1
    rw [List.length_range] at h2
    have h3:t.place.toList.length=hs.length:=by rw [← T.size];simp
    have:=T.room
    omega
theorem zke {t:SetTable} {hs:List Int} (T:TOk t hs) (hashAt:Nat→Int) (h:Int):∀ (fuel n N:Nat),n≤N→N - n<fuel→pr t.mask h N∉t.place.toList→
    ∃ m,n≤m∧m≤N∧(∀ l,n≤l→l<m→pr t.mask h l∈t.place.toList∧∀ i,t.place.toList[i]?=some (pr t.mask h l)→hashAt i≠h) ∧
      ((pr t.mask h m∉t.place.toList∧probe.go t hashAt h fuel (stN t.mask h n)=some (.empty (pr t.mask h m) none)) ∨
       (∃ i,t.place.toList[i]?=some (pr t.mask h m)∧hashAt i=h∧probe.go t hashAt h fuel (stN t.mask h n)=some (.candidate (pr t.mask h m) i (stN t.mask h (m+1))))):=by
  intro fuel
  induction fuel with
  | zero=>intro n N _ h2 _;omega
  | succ f ih=>
    intro n N h1 h2 h3
    have hj:(stN t.mask h n).j=pr t.mask h n:=rfl
    rcases Classical.em (pr t.mask h n∈t.place.toList) with hm | hm
    · obtain ⟨i,e1,e2⟩:=T.slot_live hm
      by_cases hh:hashAt i=h
      · refine ⟨n,Nat.le_refl _,h1,fun l a b=>absurd a (by omega),.inr ⟨i,e2,hh, ?_⟩⟩
        rw [probe.go,hj,e1]
        dsimp only
        rw [if_pos (beq_iff_eq.mpr hh),zid]
        rfl
      · have hne:n≠N:=by rintro rfl;exact h3 hm
        obtain ⟨m,a1,a2,a3,a4⟩:=ih (n+1) N (by omega) (by omega) h3
        have e3:probe.go t hashAt h (f+1) (stN t.mask h n)=probe.go t hashAt h f (stN t.mask h (n+1)):=by
          rw [probe.go,hj,e1]
          dsimp only
          rw [if_neg (by intro q;exact hh (beq_iff_eq.mp q)),zid]
          rfl
        refine ⟨m,by omega,a2,fun l b1 b2=>?_,by rw [e3];exact a4⟩
        rcases Nat.lt_or_ge n l with q | q
        · exact a3 l (by omega) b2
        · have:l=n:=by omega
          subst this
          refine ⟨hm,fun i' e'=>?_⟩
          have:i'=i:=z6s T.rise e' e2
          subst this
          exact hh
    · refine ⟨n,Nat.le_refl _,h1,fun l a b=>absurd a (by omega),.inl ⟨hm, ?_⟩⟩
      rw [probe.go,hj,T.slot_empty hm]
      dsimp only
      rw [z7v]
theorem TOk.stops {t:SetTable} {hs:List Int} (T:TOk t hs) (h:Int):∃ N,N<10*turns t.mask∧pr t.mask h N∉t.place.toList:=by
  obtain ⟨j,hj,hn⟩:=T.empty_there
  obtain ⟨N,hN,e⟩:=zp9 T.msk h hj
  exact ⟨N,hN,by rw [e];exact hn⟩
theorem TOk.before {t:SetTable} {hs:List Int} (T:TOk t hs) {h:Int} {i j m:Nat} (e1:hs[i]?=some h) (e2:t.place.toList[i]?=some j) (hm:pr t.mask h m∉t.place.toList):∃ n,n<m∧pr t.mask h n=j:=by
  obtain ⟨n,e,a⟩:=T.way i h j e1 e2
  refine ⟨n, ?_,e⟩
  rcases Nat.lt_or_ge n m with q | q
  · exact q
  · exfalso
    rcases Nat.lt_or_ge m n with r | r
    · exact hm (a m r)
    · have:m=n:=by omega
      subst this
      exact hm (by rw [e];exact List.mem_of_getElem? e2)
theorem z41 {xs:Array Nat} {p j x:Nat} (hp:p≤xs.size):x∈(insertAt xs p j).toList↔x=j∨x∈xs.toList:=by
  rw [z16 _ _ _ hp,List.mem_append,List.mem_cons]
  have e:x∈xs.toList↔x∈xs.toList.take p∨x∈xs.toList.drop p:=by rw [← List.mem_append,List.take_append_drop]
  rw [e]
  constructor
  · rintro (a | a | a)
    · exact .inr (.inl a)
    · exact .inl a
    · exact .inr (.inr a)
  · rintro (a | a | a)
    · exact .inr (.inl a)
    · exact .inl a
    · exact .inr (.inr a)
theorem zng {t:SetTable} (hn:t.dummies=#[]) (j:Nat):t.put j=({ t with place:=insertAt t.place (below t.place j) j },below t.place j):=by
  unfold SetTable.put
  dsimp only
  rw [hn,zdf]
  cases t
  subst hn
  rfl
theorem zdg {α:Type} (l:List α) (x:α) (p i:Nat) (hp:p≤l.length):(l.take p++x::l.drop p)[i]?=if i<p then l[i]? else if i=p then some x else l[i - 1]?:=by
  have hl:(l.take p).length=p:=by rw [List.length_take];omega
  by_cases h1:i<p
  · rw [if_pos h1,List.getElem?_append_left (by omega),List.getElem?_take_of_lt h1]
  · rw [if_neg h1,List.getElem?_append_right (by omega),hl]
    by_cases h2:i=p
    · subst h2;rw [if_pos rfl,Nat.sub_self];rfl
    · rw [if_neg h2]
      obtain ⟨k,rfl⟩:∃ k,i=p+(k+1):=⟨i - p - 1,by omega⟩
      rw [show p+(k+1) - p=k+1 by omega,List.getElem?_cons_succ,List.getElem?_drop,show p+(k+1) - 1=p+k by omega]
theorem TOk.put {t:SetTable} {hs:List Int} (T:TOk t hs) {h:Int} {n:Nat} (hn:pr t.mask h n∉t.place.toList) (hw:∀ m,m<n→pr t.mask h m∈t.place.toList) (hr:hs.length+1≤t.mask):
    TOk { t with place:=insertAt t.place (below t.place (pr t.mask h n)) (pr t.mask h n) } (hs.take (below t.place (pr t.mask h n))++h::hs.drop (below t.place (pr t.mask h n))):=by
  have hb:=(z2c (j:=pr t.mask h n) T.rise).2.2
  have hs':t.place.toList.length=hs.length:=by rw [← T.size];simp
  have hlen:(hs.take (below t.place (pr t.mask h n))++h::hs.drop (below t.place (pr t.mask h n))).length=hs.length+1:=by
    rw [List.length_append,List.length_cons,List.length_take,List.length_drop]
    have:=T.size
    omega
  refine ⟨?_,z8t T.rise hn,T.nod, ?_, ?_,T.msk, ?_,T.plain⟩
  · show (insertAt t.place (below t.place (pr t.mask h n)) (pr t.mask h n)).size=_
    rw [hlen]
    have:(insertAt t.place (below t.place (pr t.mask h n)) (pr t.mask h n)).toList.length=hs.length+1:=by
      rw [z16 _ _ _ hb,List.length_append,List.length_cons,List.length_take,List.length_drop,hs']
      have:=T.size
      omega
    simpa using this
  · intro j hj
    rcases (z41 hb).mp hj with rfl | hj
    · exact zde h n
    · exact T.bnd j hj
  · rw [hlen];exact hr
  · intro i h' j e1 e2
    have e2':(t.place.toList.take (below t.place (pr t.mask h n))++pr t.mask h n::t.place.toList.drop (below t.place (pr t.mask h n)))[i]?=some j:=by
      rw [← z16 _ _ _ hb];exact e2
    have hb2:below t.place (pr t.mask h n)≤hs.length:=by rw [← T.size];exact hb
    rw [zdg _ _ _ _ hb2] at e1
    rw [zdg _ _ _ _ (by rw [hs'];exact hb2)] at e2'
    have mono:∀ x,x∈t.place.toList→x∈(insertAt t.place (below t.place (pr t.mask h n)) (pr t.mask h n)).toList:=fun x hx=>(z41 hb).mpr (.inr hx)
    by_cases q1:i<below t.place (pr t.mask h n)
    · rw [if_pos q1] at e1 e2'
      exact (T.way _ _ _ e1 e2').mono mono
    · rw [if_neg q1] at e1 e2'
      by_cases q2:i=below t.place (pr t.mask h n)
      · rw [if_pos q2] at e1 e2'
        cases e1;cases e2'
        exact ⟨n,rfl,fun m hm=>mono _ (hw m hm)⟩
      · rw [if_neg q2] at e1 e2'
        exact (T.way _ _ _ e1 e2').mono mono
def occA (owner:Array (Option Nat)) (j:Nat):Prop:=(owner.getD j (some 0)).isSome=true
theorem z7x {P:Nat→Bool} {n:Nat} (h:(List.range n).find? P=none):∀ k,k<n→P k=false:=by
  intro k hk
  have:=List.find?_eq_none.mp h k (List.mem_range.mpr hk)
  simpa using this
theorem zdh {P:Nat→Bool}:∀ {n k:Nat},(List.range n).find? P=some k→k<n∧P k=true∧∀ l,l<k→P l=false:=by
  intro n
  induction n with
  | zero=>intro k h;simp at h
  | succ n ih=>
    intro k h
    rw [List.range_succ,List.find?_append] at h
    cases q:(List.range n).find? P with
    | some k'=>
      rw [q] at h
      simp at h
      subst h
      obtain ⟨a,b,c⟩:=ih q
      exact ⟨by omega,b,c⟩
    | none=>
      rw [q] at h
      by_cases hp:P n=true
      · simp [hp] at h
        subst h
        exact ⟨by omega,hp,fun l hl=>z7x q l hl⟩
      · simp [hp] at h
theorem zkf {mask:Nat} {h:Int} {L n:Nat} (e:stN mask h n=z8u mask (bs mask h L).1 (bs mask h L).2):stN mask h (n+(runEnd mask (bs mask h L).1 - (bs mask h L).1)+1)=z8u mask (bs mask h (L+1)).1 (bs mask h (L+1)).2:=by
  have r:=z9z mask h _ _ n e (runEnd mask (bs mask h L).1 - (bs mask h L).1) (Nat.le_refl _)
  rw [stN,r]
  unfold adv
  rw [if_neg (by simp)]
  rfl
theorem zkg {mask:Nat} {h:Int} {owner:Array (Option Nat)}:∀ (fuel L n:Nat),stN mask h n=z8u mask (bs mask h L).1 (bs mask h L).2→(∀ k,k<n→occA owner (pr mask h k))→
    (∃ L',L≤L'∧L'<L+fuel∧¬ occA owner (bs mask h L').1)→
    ∃ n,layClean.free mask owner fuel (bs mask h L).1 (bs mask h L).2=some (pr mask h n)∧¬ occA owner (pr mask h n)∧∀ m,m<n→occA owner (pr mask h m):=by
  intro fuel
  induction fuel with
  | zero=>rintro L n _ _ ⟨L',a,b,_⟩;omega
  | succ f ih=>
    rintro L n e hb ⟨L',a1,a2,a3⟩
    have r:=z9z mask h _ _ n e
    have hle:(bs mask h L).1≤runEnd mask (bs mask h L).1:=by unfold runEnd;split <;> omega
    rw [layClean.free]
    cases q:(List.range (runEnd mask (bs mask h L).1+1 - (bs mask h L).1)).find? fun k=>(owner.getD ((bs mask h L).1+k) (some 0)).isNone with
    | some k=>
      obtain ⟨b1,b2,b3⟩:=zdh q
      dsimp only
      have ek:pr mask h (n+k)=(bs mask h L).1+k:=by unfold pr;rw [r k (by omega)]
      refine ⟨n+k,by rw [ek], ?_,fun m hm=>?_⟩
      · rw [ek];unfold occA
        simp at b2;simp [b2]
      · rcases Nat.lt_or_ge m n with z | z
        · exact hb m z
        · obtain ⟨l,rfl⟩:∃ l,m=n+l:=⟨m - n,by omega⟩
          have el:pr mask h (n+l)=(bs mask h L).1+l:=by unfold pr;rw [r l (by omega)]
          rw [el]
          have:=b3 l (by omega)
          unfold occA
          cases w:owner.getD ((bs mask h L).1+l) (some 0) with
          | none=>rw [w] at this;simp at this
          | some _=>rfl
    | none=>
      dsimp only
      have b:=z7x q
      have hocc:∀ l,l≤runEnd mask (bs mask h L).1 - (bs mask h L).1→occA owner ((bs mask h L).1+l):=by
        intro l hl
        have:=b l (by omega)
        unfold occA
        cases w:owner.getD ((bs mask h L).1+l) (some 0) with
        | none=>rw [w] at this;simp at this
        | some _=>rfl
      have hne:L≠L':=by
        rintro rfl
        exact a3 (by simpa using hocc 0 (by omega))
      refine ih (L+1) _ (zkf e) (fun k hk=>?_) ⟨L',by omega,by omega,a3⟩
      rcases Nat.lt_or_ge k n with z | z
      · exact hb k z
      · obtain ⟨l,rfl⟩:∃ l,k=n+l:=⟨k - n,by omega⟩
        have el:pr mask h (n+l)=(bs mask h L).1+l:=by unfold pr;rw [r l (by omega)]
        rw [el]
        exact hocc l (by omega)
structure LOk (mask:Nat) (hs:List Int) (owner:Array (Option Nat)) (k:Nat):Prop where
  size:owner.size=mask+1
  own:∀ (j i:Nat),owner[j]?=some (some i)→i<k∧∃ h,hs[i]?=some h∧Way mask (occA owner) h j
  all:∀ (i:Nat),i<k→∃ j:Nat,owner[j]?=some (some i)
  inj:∀ (j j' i:Nat),owner[j]?=some (some i)→owner[j']?=some (some i)→j=j'
theorem z3i {owner:Array (Option Nat)} {j:Nat} (hj:j<owner.size):occA owner j↔∃ i,owner[j]?=some (some i):=by
  unfold occA
  rw [Array.getElem?_eq_getElem hj]
  simp only [Array.getD,hj,dif_pos,Array.getInternal_eq_getElem,Option.some.injEq]
  cases owner[j] <;> simp
theorem LOk.free {mask k:Nat} {hs:List Int} {owner:Array (Option Nat)} (O:LOk mask hs owner k) (hk:k≤mask):∃ j,j≤mask∧¬ occA owner j:=by
  rcases Classical.em (∃ j,j≤mask∧¬ occA owner j) with h | h
  · exact h
  · exfalso
    have h1:∀ j,j≤mask→∃ i,owner[j]?=some (some i):=fun j hj=>by
      rcases Classical.em (occA owner j) with q | q
      · exact (z3i (by rw [O.size];omega)).mp q
      · exact absurd ⟨j,hj,q⟩ h
    let f:Nat→Nat:=fun j=>match owner[j]? with | some (some i)=>i | _=>0
    have hf:∀ j,j≤mask→owner[j]?=some (some (f j)):=fun j hj=>by
      obtain ⟨i,e⟩:=h1 j hj
      show owner[j]?=some (some (match owner[j]? with | some (some i)=>i | _=>0))
      rw [e]
    have nd:((List.range (mask+1)).map f).Nodup:=by
      rw [List.nodup_iff_pairwise_ne]
      rw [List.pairwise_map]
      refine List.Pairwise.imp_of_mem ?_ (List.nodup_range (n:=mask+1))
      intro a b ha hb hab e
      have ea:=hf a (by have:=List.mem_range.mp ha;omega)
      have eb:=hf b (by have:=List.mem_range.mp hb;omega)
      rw [e] at ea
      exact hab (O.inj _ _ _ ea eb)
    have sub:∀ x,x∈(List.range (mask+1)).map f→x∈List.range k:=by
      intro x hx
      obtain ⟨j,hj,rfl⟩:=List.mem_map.mp hx
      exact List.mem_range.mpr (O.own j _ (hf j (by have:=List.mem_range.mp hj;omega))).1
    have:=nd.length_le_of_subset sub
    simp at this
    omega
theorem LOk.step {mask k:Nat} {hs:List Int} {owner:Array (Option Nat)} {h:Int} (g:good mask) (O:LOk mask hs owner k) (hk:k≤mask) (hh:hs[k]?=some h):
    ∃ j,layClean.free mask owner (turns mask) (bits h % (mask+1)) (bits h)=some j∧LOk mask hs (owner.setIfInBounds j (some k)) (k+1):=by
  obtain ⟨j0,hj0,hn0⟩:=O.free hk
  obtain ⟨L,hL,eL⟩:=za1 g h hj0
  obtain ⟨n,e,hn,hw⟩:=zkg (mask:=mask) (h:=h) (owner:=owner) (turns mask) 0 0 rfl (fun k hk=>absurd hk (by omega)) ⟨L,by omega,by unfold turns;omega,by rw [eL];exact hn0⟩
  refine ⟨pr mask h n,e, ?_⟩
  have hjl:pr mask h n<owner.size:=by rw [O.size];have:=zde (mask:=mask) h n;omega
  have hjn:owner[pr mask h n]?=some none:=by
    rw [Array.getElem?_eq_getElem hjl]
    have:¬ ∃ i,owner[pr mask h n]?=some (some i):=fun q=>hn ((z3i hjl).mpr q)
    cases w:owner[pr mask h n] with
    | none=>rfl
    | some i=>exact absurd ⟨i,by rw [Array.getElem?_eq_getElem hjl,w]⟩ this
  have get:∀ j,(owner.setIfInBounds (pr mask h n) (some k))[j]?=if pr mask h n=j then some (some k) else owner[j]?:=by
    intro j
    rw [Array.getElem?_setIfInBounds]
    by_cases q:pr mask h n=j
    · rw [if_pos q,if_pos q,if_pos hjl]
    · rw [if_neg q,if_neg q]
  have hsz:(owner.setIfInBounds (pr mask h n) (some k)).size=mask+1:=by rw [Array.size_setIfInBounds];exact O.size
  have occm:∀ x,occA owner x→occA (owner.setIfInBounds (pr mask h n) (some k)) x:=by
    intro x hx
    by_cases hl:x<owner.size
    · obtain ⟨i,e⟩:=(z3i hl).mp hx
      refine (z3i (by rw [hsz,← O.size];exact hl)).mpr ?_
      rw [get]
      by_cases q:pr mask h n=x
      · exact ⟨k,if_pos q⟩
      · exact ⟨i,by rw [if_neg q];exact e⟩
    · unfold occA
      simp [Array.getD,hl]
  refine ⟨hsz, ?_, ?_, ?_⟩
  · intro j i e
    rw [get] at e
    by_cases q:pr mask h n=j
    · rw [if_pos q] at e
      cases e
      exact ⟨by omega,h,hh,n,q,fun m hm=>occm _ (hw m hm)⟩
    · rw [if_neg q] at e
      obtain ⟨a,h',b,c⟩:=O.own j i e
      exact ⟨by omega,h',b,c.mono occm⟩
  · intro i hi
    by_cases q:i=k
    · subst q
      exact ⟨pr mask h n,by rw [get,if_pos rfl]⟩
    · obtain ⟨j,e⟩:=O.all i (by omega)
      refine ⟨j, ?_⟩
      rw [get]
      by_cases z:pr mask h n=j
      · rw [← z,hjn] at e;cases e
      · rw [if_neg z];exact e
  · intro j j' i e e'
    rw [get] at e e'
    by_cases z:pr mask h n=j
    · rw [if_pos z] at e
      cases e
      by_cases z':pr mask h n=j'
      · exact z.symm.trans z'
      · rw [if_neg z'] at e'
        have:=(O.own j' _ e').1
        omega
    · rw [if_neg z] at e
      by_cases z':pr mask h n=j'
      · rw [if_pos z'] at e'
        cases e'
        have:=(O.own j _ e).1
        omega
      · rw [if_neg z'] at e'
        exact O.inj _ _ _ e e'
theorem za2 {mask:Nat} {hs:List Int} (g:good mask) (hl:hs.length≤mask):∀ (l pre:List Int) (owner:Array (Option Nat)),hs=pre++l→LOk mask hs owner pre.length→
    ∃ owner',l.foldl (fun (acc:Option (Array (Option Nat)×Nat)) h=>do
        let (owner,k) ← acc
        let j ← layClean.free mask owner (turns mask) (bits h % (mask+1)) (bits h)
        pure (owner.setIfInBounds j (some k),k+1)) (some (owner,pre.length))=some (owner',hs.length)∧LOk mask hs owner' hs.length
  | [],pre,owner,e,O=>by
    rw [List.append_nil] at e
    subst e
    exact ⟨owner,rfl,O⟩
  | h::l,pre,owner,e,O=>by
    have hh:hs[pre.length]?=some h:=by rw [e];simp
    obtain ⟨j,e1,O1⟩:=O.step g (by rw [e] at hl;simp at hl;omega) hh
    have e2:hs=(pre++[h])++l:=by rw [e];simp
    have hlen:(pre++[h]).length=pre.length+1:=by simp
    obtain ⟨o',a,b⟩:=za2 g hl l (pre++[h]) _ e2 (by rw [hlen];exact O1)
    refine ⟨o', ?_,b⟩
    rw [List.foldl_cons]
    rw [← a,hlen]
    congr 1
    show (do let j ← layClean.free mask owner (turns mask) (bits h % (mask+1)) (bits h);pure (owner.setIfInBounds j (some pre.length),pre.length+1))=_
    rw [e1]
    rfl
theorem z8v {mask:Nat} {hs:Array Int} (g:good mask) (hl:hs.size≤mask):∃ owner,layClean mask hs=some owner∧LOk mask hs.toList owner hs.size:=by
  have O0:LOk mask hs.toList (Array.replicate (mask+1) none) 0:=by
    refine ⟨by simp, ?_,fun i hi=>absurd hi (by omega), ?_⟩
    · intro j i e
      rw [Array.getElem?_replicate] at e
      split at e <;> simp at e
    · intro j j' i e
      rw [Array.getElem?_replicate] at e
      split at e <;> simp at e
  obtain ⟨o',a,b⟩:=za2 g (by simpa using hl) hs.toList [] _ rfl O0
  refine ⟨o', ?_,by simpa using b⟩
  unfold layClean
  rw [← Array.foldl_toList]
  simp only [List.length_nil] at a
  rw [a]
  rfl
theorem Way.mono' {mask:Nat} {occ occ':Nat→Prop} {h:Int} {j:Nat} (w:Way mask occ h j) (k:∀ x,x≤mask→occ x→occ' x):Way mask occ' h j:=
  let ⟨n,e,a⟩:=w;⟨n,e,fun m hm=>k _ (zde h m) (a m hm)⟩
theorem z7y (g:Nat→Option Nat):∀ (l:List Nat),l.Pairwise (·<·)→((l.filterMap fun j=>(g j).map ((j,·):Nat→Nat×Nat)).map Prod.fst).Pairwise (·<·)
  | [],_=>by simp
  | j::l,h=>by
    rw [List.pairwise_cons] at h
    have ih:=z7y g l h.2
    cases e:g j with
    | none=>simpa [List.filterMap_cons,e] using ih
    | some i=>
      simp only [List.filterMap_cons,e,Option.map_some,List.map_cons,List.pairwise_cons]
      refine ⟨?_,ih⟩
      intro a ha
      obtain ⟨⟨x,y⟩,hp,rfl⟩:=List.mem_map.mp ha
      obtain ⟨z,hz,ez⟩:=List.mem_filterMap.mp hp
      cases q:g z with
      | none=>rw [q] at ez;simp at ez
      | some i'=>
        rw [q] at ez
        simp at ez
        have:=h.1 z hz
        omega
theorem zkh {mask finger moves:Nat} {led:Bool} {hs:Array Int} (g:good mask) (hl:hs.size≤mask):
    ∃ t order,laid mask finger moves led true hs=some (t,order)∧t.mask=mask∧t.led=led∧order.toList.Perm (List.range hs.size)∧TOk t (order.toList.filterMap (hs.toList[·]?)):=by
  obtain ⟨owner,e,O⟩:=z8v g hl
  generalize hlive:(List.range (mask+1)).filterMap (fun j=>(owner.getD j none).map ((j,·):Nat→Nat×Nat))=live
  have hmem:∀ j i,(j,i)∈live↔owner[j]?=some (some i):=by
    intro j i
    rw [← hlive,List.mem_filterMap]
    constructor
    · rintro ⟨x,hx,ex⟩
      have hx':x<owner.size:=by rw [O.size];exact List.mem_range.mp hx
      have eg:owner.getD x none=owner[x]:=by simp [Array.getD,hx']
      rw [eg] at ex
      cases q:owner[x] with
      | none=>rw [q] at ex;simp at ex
      | some i'=>
        rw [q] at ex
        simp at ex
        obtain ⟨rfl,rfl⟩:=ex
        rw [Array.getElem?_eq_getElem hx',q]
    · intro h
      obtain ⟨hx',q⟩:=Array.getElem?_eq_some_iff.mp h
      refine ⟨j,List.mem_range.mpr (by rw [← O.size];exact hx'), ?_⟩
      have eg:owner.getD j none=owner[j]:=by simp [Array.getD,hx']
      rw [eg,q]
      rfl
  have hrise:(live.map Prod.fst).Pairwise (·<·):=by rw [← hlive];exact z7y _ _ (List.pairwise_lt_range)
  have hperm:(live.map Prod.snd).Perm (List.range hs.size):=by
    refine (List.perm_ext_iff_of_nodup ?_ List.nodup_range).mpr ?_
    · rw [List.nodup_iff_pairwise_ne,List.pairwise_map]
      rw [List.pairwise_map] at hrise
      refine List.Pairwise.imp_of_mem ?_ hrise
      rintro ⟨a,i⟩ ⟨b,i'⟩ ha hb hab e
      have e':i=i':=e
      subst e'
      have:=O.inj a b i ((hmem _ _).mp ha) ((hmem _ _).mp hb)
      have hab':a<b:=hab
      omega
    · intro i
      rw [List.mem_range]
      constructor
      · intro h
        obtain ⟨⟨j,i'⟩,hp,rfl⟩:=List.mem_map.mp h
        exact (O.own j i' ((hmem _ _).mp hp)).1
      · intro h
        obtain ⟨j,ej⟩:=O.all i h
        exact List.mem_map.mpr ⟨(j,i),(hmem _ _).mpr ej,rfl⟩
  have hlen:live.length=hs.size:=by simpa using hperm.length_eq
  have hget:∀ (i:Nat),((live.map Prod.snd).filterMap (hs.toList[·]?))[i]?=(live[i]?).bind fun p=>hs.toList[p.2]?:=by
    have gen:∀ (l:List (Nat×Nat)),(∀ p∈l,p.2<hs.toList.length)→∀ (i:Nat),((l.map Prod.snd).filterMap (hs.toList[·]?))[i]?=(l[i]?).bind fun p=>hs.toList[p.2]?:=by
      intro l
      induction l with
      | nil=>intro _ i;simp
      | cons p l ih=>
        intro hp i
        have h1:=hp p (List.mem_cons_self ..)
        have e1:hs.toList[p.2]?=some hs.toList[p.2]:=List.getElem?_eq_getElem h1
        rw [List.map_cons,List.filterMap_cons,e1]
        cases i with
        | zero=>simp [e1]
        | succ i=>
          simp only [List.getElem?_cons_succ]
          exact ih (fun q hq=>hp q (List.mem_cons_of_mem _ hq)) i
    intro i
    refine gen live ?_ i
    rintro ⟨j,k⟩ hp
    have:=(O.own j k ((hmem _ _).mp hp)).1
    simpa using this
  have hlen':((live.map Prod.snd).filterMap (hs.toList[·]?)).length=hs.size:=by
    have gen:∀ (l:List (Nat×Nat)),(∀ p∈l,p.2<hs.toList.length)→((l.map Prod.snd).filterMap (hs.toList[·]?)).length=l.length:=by
      intro l
      induction l with
      | nil=>intro _;rfl
      | cons p l ih=>
        intro hp
        have h1:=hp p (List.mem_cons_self ..)
        have e1:hs.toList[p.2]?=some hs.toList[p.2]:=List.getElem?_eq_getElem h1
        rw [List.map_cons,List.filterMap_cons,e1]
        show (_::_).length=_
        rw [List.length_cons,List.length_cons,ih (fun q hq=>hp q (List.mem_cons_of_mem _ hq))]
    rw [gen live ?_,hlen]
    rintro ⟨j,k⟩ hp
    have:=(O.own j k ((hmem _ _).mp hp)).1
    simpa using this
  refine ⟨{ mask,place:=(live.map Prod.fst).toArray,dummies:=#[],finger,led,moves,plain:=true },(live.map Prod.snd).toArray, ?_,rfl,rfl,hperm, ?_⟩
  · unfold laid
    rw [e]
    show some _=some _
    rw [hlive]
  · refine ⟨(by show (live.map Prod.fst).toArray.size=((live.map Prod.snd).filterMap (hs.toList[·]?)).length;rw [hlen',List.size_toArray,List.length_map,hlen]),hrise,rfl, ?_,by rw [hlen'];exact hl,g, ?_,rfl⟩
    · intro j hj
      obtain ⟨⟨x,y⟩,hp,rfl⟩:=List.mem_map.mp (show j∈live.map Prod.fst from hj)
      have:=(hmem _ _).mp hp
      obtain ⟨hx',_⟩:=Array.getElem?_eq_some_iff.mp this
      have:=O.size
      show x≤mask
      omega
    · intro i h j e1 e2
      have e1':((live.map Prod.snd).filterMap (hs.toList[·]?))[i]?=some h:=e1
      rw [hget] at e1'
      have e2':(live.map Prod.fst)[i]?=some j:=e2
      rw [List.getElem?_map] at e2'
      cases q:live[i]? with
      | none=>rw [q] at e2';cases e2'
      | some p=>
        obtain ⟨x,k⟩:=p
        rw [q] at e1' e2'
        simp at e1' e2'
        subst e2'
        have hp:=List.mem_of_getElem? q
        obtain ⟨a,h',b,c⟩:=O.own x k ((hmem _ _).mp hp)
        have hh:h'=h:=by
          have:hs.toList[k]?=some h:=by simpa using e1'
          rw [b] at this
          exact Option.some.inj this
        subst hh
        refine c.mono' fun y hy ho=>?_
        obtain ⟨i',ei⟩:=(z3i (by rw [O.size];omega)).mp ho
        exact List.mem_map.mpr ⟨(y,i'),(hmem _ _).mpr ei,rfl⟩
end SM
namespace SR
open PySem PySem.Spec PyProof.Rows SM
section
variable {prog:Program} {w:World}
def hk (prog:Program) (w:World) (k:List Int):Int:=tupleKeyHash (intKind prog w) k
abbrev KB:=List (List Int×Addr)
def ents (prog:Program) (w:World) (kb:KB):List (Int×Value):=kb.map fun p=>(hk prog w p.1,Value.ref p.2)
structure Parts (prog:Program) (w:World) (h:Heap) (a:Addr) (kb:KB) (o:Obj) (es:Array (Int×Value)) (ep:Nat) (t:SetTable):Prop where
  obj:h.get? a=some o
  ex:o.ExactSet
  data:o.data=.set es ep t
  es:es.toList=ents prog w kb
  tab:TOk t (kb.map fun p=>hk prog w p.1)
  nd:(kb.map Prod.fst).Nodup
  nf:kb.length*5<t.mask*3
  led:t.led=!w.params.followText "set-order"
def SetT (prog:Program) (w:World) (h:Heap) (a:Addr) (kb:KB):Prop:=∃ o es ep t,Parts prog w h a kb o es ep t
def Tups (prog:Program) (w:World) (h:Heap) (kb:KB):Prop:=∀ p∈kb,IsTupleKey (intKind prog w) h p.1 p.2
variable {h:Heap} {a:Addr} {kb:KB} {o:Obj} {es:Array (Int×Value)} {ep:Nat} {t:SetTable}
theorem Parts.size (P:Parts prog w h a kb o es ep t):es.size=kb.length:=by
  have:=congrArg List.length P.es
  simpa [ents] using this
theorem Parts.fits (P:Parts prog w h a kb o es ep t):t.fits es.size=true:=by
  have:=P.tab.fits
  rw [List.length_map] at this
  rw [P.size];exact this
theorem Parts.at_ (P:Parts prog w h a kb o es ep t) {i:Nat} {p:List Int×Addr} (e:kb[i]?=some p):es[i]?=some (hk prog w p.1,.ref p.2):=by
  have:es.toList[i]?=some (hk prog w p.1,Value.ref p.2):=by rw [P.es];simp [ents,e]
  simpa using this
theorem Parts.hash_at (P:Parts prog w h a kb o es ep t) {i:Nat} {p:List Int×Addr} (e:kb[i]?=some p):(es[i]?.map (·.1)).getD 0=hk prog w p.1:=by rw [P.at_ e];rfl
end
section
variable {prog:Program} {w:World} {A:Around} {E:Value→Shared→Prop} {s:Shared} {a:Addr} {kb:KB} {o:Obj} {es:Array (Int×Value)} {ep:Nat} {t:SetTable}
theorem za3 {ks:List Int} {b:Addr} {Q:Bool→Shared→Prop} (hb:IsTupleKey (intKind prog w) s.heap ks b) (h:Q false s):wpAny (model prog w) A (ofAClassStatement 8 (.ref b)) Q E s:=by
  obtain ⟨o,items,n,ho,hc,hd,hi⟩:=hb
  unfold ofAClassStatement
  refine wpAny_bind (wpAny_typeOf (T := "tuple") ⟨o,ho,hc⟩ ?_)
  show wpAny _ _ ((if (("tuple" : String) == "tuple")=true then (pure true:Sem Bool) else isSubtype (.type "tuple") (.type "tuple")) >>= _) _ _ s
  rw [if_pos (by decide)]
  refine wpAny_bind (wpAny_pure ?_)
  simp only [Bool.not_true,Bool.false_eq_true,if_false]
  refine wpAny_bind (wpAny_seqItems ho hd ?_)
  refine wpAny_bind ?_
  show wpAny _ _ (forIn items _ _) _ _ s
  rw [← Array.forIn_toList]
  refine wpAny_forIn_list _ (fun rest r s'=>r.1=none∧s'=s∧∀ v∈rest,carriedByValue v=true) _ ?_ ?_ _ _ ⟨rfl,rfl,hi.byValue⟩
  · rintro v rest r s' ⟨hr,rfl,hall⟩
    have hv:=hall v List.mem_cons_self
    have e:ofAClassStatement 7 v=pure false:=by
      cases v with
      | ref a=>simp [carriedByValue] at hv
      | _=>rfl
    rw [e]
    refine wpAny_bind (wpAny_pure ?_)
    simp only [Bool.false_eq_true,if_false]
    exact wpAny_pure ⟨rfl,rfl,fun u hu'=>hall u (List.mem_cons_of_mem _ hu')⟩
  · rintro ⟨r1,r2⟩ s' ⟨hr,rfl,_⟩
    simp only at hr
    subst hr
    exact wpAny_pure h
theorem zki {k:List Int} {b:Addr} {Q:Bool→Shared→Prop} (hb:IsTupleKey (intKind prog w) s.heap k b):∀ (l:List Value),(∀ y∈l,∃ k' b',y=.ref b'∧IsTupleKey (intKind prog w) s.heap k' b')→Q false s→
    wpAny (model prog w) A (searchCouldBeSeen (.ref b) l) Q E s:=by
  intro l hl h
  unfold searchCouldBeSeen
  refine wpAny_bind ?_
  refine wpAny_forIn_list _ (fun rest r s'=>r.1=none∧s'=s∧∀ y∈rest,∃ k' b',y=.ref b'∧IsTupleKey (intKind prog w) s.heap k' b') _ ?_ ?_ _ _ ⟨rfl,rfl,hl⟩
  · rintro y rest r s' ⟨hr,rfl,hall⟩
    obtain ⟨k',b',rfl,hb'⟩:=hall y List.mem_cons_self
    have fin:r.1=none∧s'=s'∧∀ y∈rest,∃ k' b',y=.ref b'∧IsTupleKey (intKind prog w) s'.heap k' b':=⟨hr,rfl,fun u hu=>hall u (List.mem_cons_of_mem _ hu)⟩
    dsimp only
    split
    · exact wpAny_pure ⟨rfl,rfl,fin.2.2⟩
    · refine wpAny_bind (wpAny_eqIsQuiet_tuple hb ?_)
      simp only [Bool.not_true,Bool.false_eq_true,if_false]
      refine wpAny_bind (wpAny_eqIsQuiet_tuple hb' ?_)
      simp only [Bool.not_true,Bool.false_eq_true,if_false]
      refine wpAny_bind (za3 hb ?_)
      simp only [Bool.false_eq_true,if_false]
      refine wpAny_bind (za3 hb' ?_)
      simp only [Bool.false_eq_true,if_false]
      exact wpAny_pure ⟨rfl,rfl,fin.2.2⟩
  · rintro ⟨r1,r2⟩ s' ⟨hr,rfl,_⟩
    simp only at hr
    subst hr
    exact wpAny_pure h
end
end SR
namespace SR
open PySem PySem.Spec PyProof.Rows SM
section
variable {prog:Program} {w:World} {A:Around} {E:Value→Shared→Prop} {s:Shared} {a:Addr} {kb:KB} {o:Obj} {es:Array (Int×Value)} {ep:Nat} {t:SetTable} {k:List Int} {b:Addr}
theorem mem_keys {kb:KB} {k:List Int}:k∈kb.map Prod.fst↔∃ (i:Nat) (b:Addr),kb[i]?=some (k,b):=by
  constructor
  · intro h
    obtain ⟨⟨k',b⟩,hp,rfl⟩:=List.mem_map.mp h
    obtain ⟨i,hi,e⟩:=List.getElem_of_mem hp
    exact ⟨i,b,by rw [List.getElem?_eq_getElem hi,e]⟩
  · rintro ⟨i,b,e⟩
    exact List.mem_map.mpr ⟨(k,b),List.mem_of_getElem? e,rfl⟩
theorem zdi (P:Parts prog w s.heap a kb o es ep t) (T:Tups prog w s.heap kb) (hb:IsTupleKey (intKind prog w) s.heap k b) (hu:A.units<cLine) {Q:SetFound→Shared→Prop}
    (hin:k∈kb.map Prod.fst→Q (.there none) s)
    (hout:k∉kb.map Prod.fst→∀ n,pr t.mask (hk prog w k) n∉t.place.toList→(∀ m,m<n→pr t.mask (hk prog w k) m∈t.place.toList)→Q (.free (pr t.mask (hk prog w k) n) false) s)
    (N:Nat) (hN:N<10*SetTable.turns t.mask) (hNe:pr t.mask (hk prog w k) N∉t.place.toList):
    ∀ (fuel n:Nat) (stand:Option SetTable.Probe),stand.getD (t.probeStart (hk prog w k))=stN t.mask (hk prog w k) n→n≤N→N - n<fuel→
      (∀ l,l<n→pr t.mask (hk prog w k) l∈t.place.toList∧∀ (i:Nat) p,t.place.toList[i]?=some (pr t.mask (hk prog w k) l)→kb[i]?=some p→p.1≠k)→
      wpAny (model prog w) A (setSearchFrom a (.ref b) (hk prog w k) true fuel stand) Q E s:=by
  intro fuel
  induction fuel with
  | zero=>intro n stand _ _ h2;omega
  | succ f ih=>
    intro n stand hst h1 h2 hseen
    have hlen:t.place.toList.length=kb.length:=by have:=P.tab.size;simpa using this
    have kbat:∀ {i j:Nat},t.place.toList[i]?=some j→∃ p,kb[i]?=some p:=fun {i j} e=>by
      obtain ⟨hi,_⟩:=List.getElem?_eq_some_iff.mp e
      exact ⟨kb[i]'(by omega),List.getElem?_eq_getElem (by omega)⟩
    unfold setSearchFrom
    refine wpAny_bind (wpAny_setState_of P.obj P.data P.fits ?_)
    dsimp only
    rw [P.tab.gave]
    simp only [Bool.false_eq_true,if_false]
    obtain ⟨m,a1,a2,a3,a4⟩:=zke P.tab (fun i=>(es[i]?.map (·.1)).getD 0) (hk prog w k) (10*SetTable.turns t.mask) n N h1 (by omega) hNe
    have pass:∀ l,l<m→pr t.mask (hk prog w k) l∈t.place.toList∧∀ (i:Nat) p,t.place.toList[i]?=some (pr t.mask (hk prog w k) l)→kb[i]?=some p→p.1≠k:=by
      intro l hl
      rcases Nat.lt_or_ge l n with q | q
      · exact hseen l q
      · obtain ⟨b1,b2⟩:=a3 l q hl
        refine ⟨b1,fun i p e1 e2 e3=>b2 i e1 ?_⟩
        show (es[i]?.map (·.1)).getD 0=_
        rw [P.hash_at e2,e3]
    rcases a4 with ⟨b1,b2⟩ | ⟨i,b1,b2,b3⟩
    · have e:∀ g:Nat→Int,g=(fun i=>(es[i]?.map (·.1)).getD 0)→t.probe g (hk prog w k) (stand.getD (t.probeStart (hk prog w k)))=some (.empty (pr t.mask (hk prog w k) m) none):=by
        rintro g rfl;rw [hst];exact b2
      rw [e]
      rotate_left
      · rfl
      refine wpAny_pure (hout ?_ m b1 fun l hl=>(pass l hl).1)
      intro hmem
      obtain ⟨i,b',ei⟩:=mem_keys.mp hmem
      obtain ⟨j,ej⟩:∃ j,t.place.toList[i]?=some j:=by
        obtain ⟨hi,_⟩:=List.getElem?_eq_some_iff.mp ei
        exact ⟨_,List.getElem?_eq_getElem (by omega)⟩
      obtain ⟨n',hn',e'⟩:=P.tab.before (i:=i) (h:=hk prog w k) (by rw [List.getElem?_map,ei];rfl) ej b1
      exact (pass n' hn').2 i (k,b') (by rw [e'];exact ej) ei rfl
    · have e:∀ g:Nat→Int,g=(fun i=>(es[i]?.map (·.1)).getD 0)→t.probe g (hk prog w k) (stand.getD (t.probeStart (hk prog w k)))=some (.candidate (pr t.mask (hk prog w k) m) i (stN t.mask (hk prog w k) (m+1))):=by
        rintro g rfl;rw [hst];exact b3
      rw [e]
      rotate_left
      · rfl
      dsimp only
      obtain ⟨p,ep'⟩:=kbat b1
      have hp:=T p (List.mem_of_getElem? ep')
      have es1:t.sameMemory t.moves t.mask=some true:=by unfold SetTable.sameMemory;simp
      obtain ⟨i2,e2,e3⟩:=P.tab.slot_live (List.mem_of_getElem? b1)
      have hi2:i2=i:=z6s P.tab.rise e3 b1
      subst hi2
      have nxt:¬ p.1=k→wpAny (model prog w) A (setSearchFrom a (.ref b) (hk prog w k) true f (some (stN t.mask (hk prog w k) (m+1)))) Q E s:=by
        intro hpk
        have hmN:m≠N:=by rintro rfl;exact hNe (List.mem_of_getElem? b1)
        refine ih (m+1) _ rfl (by omega) (by omega) ?_
        · intro l hl
          rcases Nat.lt_or_ge l m with q | q
          · exact pass l q
          · have:l=m:=by omega
            subst this
            refine ⟨List.mem_of_getElem? b1,fun i' p' z1 z2=>?_⟩
            have:i'=i2:=z6s P.tab.rise z1 b1
            subst this
            rw [ep'] at z2
            cases z2
            exact hpk
      cases hl:t.led
      case' true=>simp only [Bool.not_true,Bool.false_eq_true,if_false]
      case' false=>
        simp only [Bool.not_false,if_true]
        refine wpAny_bind (zki hb _ ?_ ?_)
        · intro y hy
          obtain ⟨e1,he1,rfl⟩:=List.mem_map.mp hy
          have he2:=(Array.mem_filter.mp (Array.mem_toList_iff.mp he1)).1
          have he3:e1∈ents prog w kb:=by rw [← P.es];exact Array.mem_toList_iff.mpr he2
          obtain ⟨q,hq,rfl⟩:=List.mem_map.mp he3
          exact ⟨q.1,q.2,rfl,T q hq⟩
        simp only [Bool.false_eq_true,if_false]
      all_goals
        rw [P.at_ ep']
        dsimp only
        refine wpAny_bind (wpAny_holding (wpAny_eqBool_tuple hu hp hb ?_))
        refine wpAny_bind (wpAny_setState_of P.obj P.data P.fits ?_)
        dsimp only
        by_cases hpk:p.1=k
        · rw [decide_eq_true hpk]
          simp only [Bool.true_and,if_true]
          exact wpAny_pure (hin (mem_keys.mpr ⟨i2,p.2,by rw [ep',← hpk]⟩))
        · rw [decide_eq_false hpk]
          simp only [Bool.and_false,Bool.false_eq_true,if_false]
          rw [es1]
          dsimp only
          simp only [if_true]
          rw [e2]
          dsimp only
          rw [P.at_ ep']
          dsimp only
          refine wpAny_bind (wpAny_isSame_ref_self ?_)
          refine wpAny_bind (wpAny_pure ?_)
          simp only [if_true]
          exact nxt hpk
theorem zga (P:Parts prog w s.heap a kb o es ep t) (T:Tups prog w s.heap kb) (hb:IsTupleKey (intKind prog w) s.heap k b) (hu:A.units<cLine) {Q:SetFound→Shared→Prop}
    (hin:k∈kb.map Prod.fst→Q (.there none) s)
    (hout:k∉kb.map Prod.fst→∀ n,pr t.mask (hk prog w k) n∉t.place.toList→(∀ m,m<n→pr t.mask (hk prog w k) m∈t.place.toList)→Q (.free (pr t.mask (hk prog w k) n) false) s):
    wpAny (model prog w) A (setSearch a (.ref b) (hk prog w k) true) Q E s:=by
  obtain ⟨N,hN,hNe⟩:=P.tab.stops (hk prog w k)
  have hm:10*SetTable.turns t.mask≤1420:=by
    unfold SetTable.turns
    rcases P.tab.msk with e | e | e <;> rw [e] <;> decide
  exact zdi P T hb hu hin hout N hN hNe 100000 0 none rfl (Nat.zero_le _) (by omega) fun l hl=>absurd hl (by omega)
theorem zkj {Q:Bool→Shared→Prop} (hb:IsTupleKey (intKind prog w) s.heap k b) (h:Q true s):wpAny (model prog w) A (hashByValue 8 (.ref b)) Q E s:=by
  have hT:=hb.typeIs
  obtain ⟨o,items,n,ho,hc,hd,hi⟩:=hb
  unfold hashByValue
  refine wpAny_bind (wpAny_specialOf hT F.slot_tuple_hash.lookup ?_)
  dsimp only
  refine wpAny_bind (wpAny_seqItems ho hd ?_)
  refine wpAny_bind ?_
  show wpAny _ _ (forIn items _ _) _ _ s
  rw [← Array.forIn_toList]
  have hv:∀ v∈items.toList,∃ i t,v=.int i t:=by
    clear hd ho
    generalize items.toList=l at hi
    induction hi with
    | nil=>intro v h;cases h
    | cons h1 _ ih=>
      intro v hv
      rcases List.mem_cons.mp hv with rfl | hv
      · obtain ⟨t,e⟩:=Value.isInt_shape h1
        exact ⟨_,t,e⟩
      · exact ih v hv
  refine wpAny_forIn_list _ (fun rest r s'=>r.1=none∧s'=s∧∀ v∈rest,∃ i t,v=.int i t) _ ?_ ?_ _ _ ⟨rfl,rfl,hv⟩
  · rintro v rest r s' ⟨hr,rfl,hall⟩
    obtain ⟨i,t,rfl⟩:=hall v List.mem_cons_self
    refine wpAny_bind (wpAny_pure ?_)
    simp only [Bool.not_true,Bool.false_eq_true,if_false]
    exact wpAny_pure ⟨rfl,rfl,fun u hu'=>hall u (List.mem_cons_of_mem _ hu')⟩
  · rintro ⟨r1,r2⟩ s' ⟨hr,rfl,_⟩
    simp only at hr
    subst hr
    exact wpAny_pure h
end
end SR
namespace SR
open PySem PySem.Spec PyProof.Rows SM
section
variable {prog:Program} {w:World} {A:Around} {E:Value→Shared→Prop} {s:Shared} {a:Addr} {kb:KB} {o:Obj} {es:Array (Int×Value)} {ep:Nat} {t:SetTable} {k:List Int} {b:Addr}
theorem zgb (p:Nat):(ents prog w kb).take p++(hk prog w k,Value.ref b)::(ents prog w kb).drop p=ents prog w (kb.take p++(k,b)::kb.drop p):=by
  simp [ents,List.map_take,List.map_drop]
theorem zgc (p:Nat):(kb.map fun q=>hk prog w q.1).take p++hk prog w k::(kb.map fun q=>hk prog w q.1).drop p=(kb.take p++(k,b)::kb.drop p).map fun q=>hk prog w q.1:=by
  simp [List.map_take,List.map_drop]
theorem z48 {α:Type} (l:List α) (x:α) (p:Nat):(l.take p++x::l.drop p).Perm (x::l):=by
  have h:(l.take p++x::l.drop p).Perm (x::(l.take p++l.drop p)):=List.perm_middle
  rwa [List.take_append_drop] at h
theorem zdj {p:Nat} (h:(kb.map Prod.fst).Nodup) (hk:k∉kb.map Prod.fst):((kb.take p++(k,b)::kb.drop p).map Prod.fst).Nodup:=by
  have q:=(z48 kb (k,b) p).map Prod.fst
  exact q.nodup_iff.mpr (List.nodup_cons.mpr ⟨hk,h⟩)
theorem zdk {es':Array (Int×Value)} {t':SetTable} (hd:o.data=.set es ep t) (ho:s.heap.get? a=some o):(s.heap.update a (Obj.putSet es' t')).get? a=some { o with data:=.set es' (ep+1) t' }:=by
  have:=Heap.get?_update_self (Obj.putSet es' t') ho (by rw [putSet_of es' t' hd];rfl)
  rw [putSet_of es' t' hd] at this
  exact this
theorem z7z {α:Type}:∀ (l:List α),(List.range l.length).filterMap (fun i=>l[i]?)=l
  | []=>rfl
  | x::l=>by
    rw [List.length_cons,List.range_succ_eq_map,List.filterMap_cons]
    simp only [List.getElem?_cons_zero,List.filterMap_map]
    congr 1
    exact z7z l
theorem zdl {kb:KB} {mask' wanted:Nat} {Q:Unit→Shared→Prop} (ho:s.heap.get? a=some o) (hex:o.ExactSet) (hd:o.data=.set es ep t) (hes:es.toList=ents prog w kb) (hT:TOk t (kb.map fun p=>hk prog w p.1)) (nd:(kb.map Prod.fst).Nodup) (hled:t.led=!w.params.followText "set-order")
    (hw:SetTable.sizeAbove wanted - 1=mask') (hg:good mask') (hl:kb.length*5<mask'*3) (hz:SetTable.sizeAbove wanted≤sizeLine)
    (h:∀ h' kb',Heap.SameBut a s.heap h'→SetT prog w h' a kb'→kb'.Perm kb→Q () { s with heap:=h' }):
    wpAny (model prog w) A (setRelay a wanted) Q E s:=by
  have hsz:es.size=kb.length:=by have:=congrArg List.length hes;simpa [ents] using this
  have hfit:t.fits es.size=true:=by have:=hT.fits;rw [List.length_map] at this;rw [hsz];exact this
  have eh:(es.map (·.1)).toList=kb.map fun p=>hk prog w p.1:=by rw [Array.toList_map,hes];simp [ents]
  have hs':(es.map (·.1)).size=kb.length:=by simp [hsz]
  unfold setRelay
  refine wpAny_bind (wpAny_setState_of ho hd hfit ?_)
  dsimp only
  rw [if_neg (by omega)]
  obtain ⟨t',order,e1,e2,e3,e4,e5⟩:=zkh (mask:=mask') (finger:=t.finger) (moves:=t.movedTo mask') (led:=t.led) (hs:=es.map (·.1)) hg (by rw [hs'];omega)
  have er:t.relaid (es.map (·.1)) wanted=some (t',order):=by
    unfold SetTable.relaid
    rw [hw,hT.plain]
    exact e1
  rw [er]
  have hlt:∀ i∈order.toList,i<kb.length:=fun i hi=>by have:=List.mem_range.mp (e4.mem_iff.mp hi);omega
  have hfm:∀ (l:List Nat),(∀ i∈l,i<kb.length)→l.filterMap (fun i=>es[i]?)=ents prog w (l.filterMap fun i=>kb[i]?):=by
    intro l hl
    induction l with
    | nil=>rfl
    | cons i l ih=>
      have hi:=hl i List.mem_cons_self
      have q1:kb[i]?=some kb[i]:=List.getElem?_eq_getElem hi
      have q2:es[i]?=some (hk prog w kb[i].1,Value.ref kb[i].2):=by
        have:es.toList[i]?=some (hk prog w kb[i].1,Value.ref kb[i].2):=by rw [hes];simp [ents,q1]
        simpa using this
      rw [List.filterMap_cons,List.filterMap_cons,q1,q2]
      simp only
      rw [ih fun j hj=>hl j (List.mem_cons_of_mem _ hj)]
      rfl
  have hkey:∀ (l:List Nat),(∀ i∈l,i<kb.length)→l.filterMap (fun i=>(es.map (·.1)).toList[i]?)=(l.filterMap fun i=>kb[i]?).map fun p=>hk prog w p.1:=by
    intro l hl
    induction l with
    | nil=>rfl
    | cons i l ih=>
      have hi:=hl i List.mem_cons_self
      have q1:kb[i]?=some kb[i]:=List.getElem?_eq_getElem hi
      have q2:(es.map (·.1)).toList[i]?=some (hk prog w kb[i].1):=by rw [eh];simp [q1]
      rw [List.filterMap_cons,List.filterMap_cons,q1,q2]
      simp only
      rw [ih fun j hj=>hl j (List.mem_cons_of_mem _ hj)]
      rfl
  have hperm:(order.toList.filterMap fun i=>kb[i]?).Perm kb:=by
    have q:=e4.filterMap (fun i=>kb[i]?)
    rw [hs'] at q
    exact q.trans (List.Perm.of_eq (z7z kb))
  have hes2:(order.filterMap (es[·]?)).toList=ents prog w (order.toList.filterMap fun i=>kb[i]?):=by
    rw [Array.toList_filterMap];exact hfm _ hlt
  have hsz2:(order.filterMap (es[·]?)).size=es.size:=by
    have:=congrArg List.length hes2
    rw [Array.length_toList] at this
    rw [this,hsz]
    simp [ents,hperm.length_eq]
  show wpAny _ _ ((if ((order.filterMap (es[·]?)).size != es.size)=true then (unsupported "internal:set-table-lost-an-element" >>= fun _=>pure (order.filterMap (es[·]?),t')) else pure (order.filterMap (es[·]?),t')) >>= _) _ _ s
  rw [if_neg (by rw [hsz2];simp)]
  refine wpAny_bind (wpAny_pure ?_)
  dsimp only
  refine wpAny_storeSet_of ho hd ?_ (by rw [hsz2,hsz];rcases hg with q | q | q <;> (rw [q] at hl;rw [sizeLine_eq];omega))
  refine h _ (order.toList.filterMap fun i=>kb[i]?) (Heap.SameBut.update ..) ⟨_,_,_,t',zdk hd ho,hex,rfl,hes2, ?_, ?_, ?_,e3.trans hled⟩ hperm
  · rw [← hkey _ hlt];exact e5
  · exact (hperm.map Prod.fst).nodup_iff.mpr nd
  · rw [hperm.length_eq,e2];exact hl
theorem zpa (P:Parts prog w s.heap a kb o es ep t) (T:Tups prog w s.heap kb) (hb:IsTupleKey (intKind prog w) s.heap k b) (hu:A.units<cLine) (h76:k∉kb.map Prod.fst→kb.length+1≤76) {Q:Bool→Shared→Prop}
    (h:∀ h' kb' r,Heap.SameBut a s.heap h'→SetT prog w h' a kb'→(k∈kb.map Prod.fst→kb'.Perm kb)→(k∉kb.map Prod.fst→kb'.Perm ((k,b)::kb))→Q r { s with heap:=h' }):
    wpAny (model prog w) A (setAddHashed a (.ref b) (hk prog w k)) Q E s:=by
  unfold setAddHashed
  refine wpAny_holding ?_
  unfold setAddHashedIn
  refine wpAny_bind (wpAny_setState_of P.obj P.data P.fits ?_)
  dsimp only
  have hbs:byScan (.ref b) es=false:=by simp [byScan,Value.scannable]
  rw [hbs]
  simp only [Bool.false_eq_true,if_false]
  refine wpAny_bind (zga P T hb hu (fun hin=>?_) fun hout n hn hw=>?_)
  · dsimp only
    refine wpAny_pure ?_
    have:=h s.heap kb false (Heap.SameBut.refl ..) ⟨o,es,ep,t,P⟩ (fun _=>.refl _) fun q=>absurd hin q
    exact this
  · dsimp only
    refine wpAny_bind (wpAny_setState_of P.obj P.data P.fits ?_)
    dsimp only
    rw [zng P.tab.nod]
    dsimp only
    rw [if_pos P.tab.plain]
    refine wpAny_bind (zkj hb ?_)
    simp only [if_true]
    have hlen:=P.nf
    have hmask:=P.tab.msk
    have hroom:(kb.map fun p=>hk prog w p.1).length+1≤t.mask:=by
      rw [List.length_map]
      rcases hmask with q | q | q <;> (rw [q] at hlen ⊢;omega)
    have T2:=P.tab.put (h:=hk prog w k) (n:=n) hn hw hroom
    have hbl:=(z2c (j:=pr t.mask (hk prog w k) n) P.tab.rise).2.2
    generalize hp:SetTable.below t.place (pr t.mask (hk prog w k) n)=p at T2 hbl ⊢
    rw [zgc (b:=b)] at T2
    have hesl:(SetTable.insertAt es p (hk prog w k,Value.ref b)).toList=ents prog w (kb.take p++(k,b)::kb.drop p):=by
      rw [z16 _ _ _ (by rw [P.size,← show t.place.size=kb.length from by have:=P.tab.size;simpa using this];exact hbl),P.es,zgb]
    have hsz:(SetTable.insertAt es p (hk prog w k,Value.ref b)).size=kb.length+1:=by
      have:=congrArg List.length hesl
      simp only [ents,List.length_map,Array.length_toList] at this
      rw [this,(z48 kb (k,b) p).length_eq];rfl
    refine wpAny_bind (wpAny_storeSet_of P.obj P.data ?_ (by rw [hsz,sizeLine_eq];have:=h76 hout;omega))
    have hlen2:(kb.take p++(k,b)::kb.drop p).length=kb.length+1:=(z48 kb (k,b) p).length_eq
    have ho2:=zdk (s:=s) (es':=SetTable.insertAt es p (hk prog w k,Value.ref b)) (t':={ t with place:=SetTable.insertAt t.place p (pr t.mask (hk prog w k) n) }) P.data P.obj
    have fill:({ t with place:=SetTable.insertAt t.place p (pr t.mask (hk prog w k) n) }:SetTable).tooFull=decide ((kb.length+1)*5≥t.mask*3):=by
      unfold SetTable.tooFull SetTable.fill
      have e1:=T2.size
      rw [List.length_map,hlen2] at e1
      have e1':(SetTable.insertAt t.place p (pr t.mask (hk prog w k) n)).size=kb.length+1:=e1
      dsimp only
      rw [P.tab.nod,e1']
      rfl
    simp only [Bool.not_false,Bool.true_and]
    rw [fill]
    have fin:∀ h' kb',Heap.SameBut a (s.heap.update a (Obj.putSet (SetTable.insertAt es p (hk prog w k,Value.ref b)) { t with place:=SetTable.insertAt t.place p (pr t.mask (hk prog w k) n) })) h'→SetT prog w h' a kb'→
        kb'.Perm (kb.take p++(k,b)::kb.drop p)→Q true { s with heap:=h' }:=fun h' kb' sb st pm=>
      h h' kb' true ((Heap.SameBut.update ..).trans sb) st (fun q=>absurd q hout) fun _=>pm.trans (z48 kb (k,b) p)
    by_cases full:(kb.length+1)*5≥t.mask*3
    · rw [decide_eq_true full,if_pos rfl]
      have h76':=h76 hout
      have hcase:(t.mask=7∧kb.length=4)∨(t.mask=31∧kb.length=18):=by
        rcases hmask with q | q | q
        · left;rw [q] at hlen full;exact ⟨q,by omega⟩
        · right;rw [q] at hlen full;exact ⟨q,by omega⟩
        · rw [q] at full;omega
      have es0:es.size=kb.length:=P.size
      rcases hcase with ⟨q1,q2⟩ | ⟨q1,q2⟩
      · refine wpAny_bind (zdl (mask':=31) (kb:=kb.take p++(k,b)::kb.drop p) ho2 P.ex rfl hesl T2 (zdj P.nd hout) P.led (by rw [es0,q2];decide) (.inr (.inl rfl)) (by rw [hlen2,q2];decide) (by rw [es0,q2,sizeLine_eq];decide) fun h' kb' sb st pm=>wpAny_pure (fin h' kb' sb st pm))
      · refine wpAny_bind (zdl (mask':=127) (kb:=kb.take p++(k,b)::kb.drop p) ho2 P.ex rfl hesl T2 (zdj P.nd hout) P.led (by rw [es0,q2];decide) (.inr (.inr rfl)) (by rw [hlen2,q2];decide) (by rw [es0,q2,sizeLine_eq];decide) fun h' kb' sb st pm=>wpAny_pure (fin h' kb' sb st pm))
    · rw [decide_eq_false full,if_neg Bool.false_ne_true]
      refine wpAny_pure (fin _ _ (Heap.SameBut.refl ..) ⟨_,_,_,_,ho2,P.ex,rfl,hesl,T2,zdj P.nd hout, ?_,P.led⟩ (.refl _))
      rw [hlen2]
      exact Nat.lt_of_not_le full
end
end SR
namespace SR
open PySem PySem.Spec PyProof.Rows SM
theorem Parts.keep {prog:Program} {w:World} {h h':Heap} {a:Addr} {kb:KB} (S:SetT prog w h a kb) (k:∀ o,h.get? a=some o→h'.get? a=some o):SetT prog w h' a kb:=by
  obtain ⟨o,es,ep,t,P⟩:=S
  exact ⟨o,es,ep,t,k o P.obj,P.ex,P.data,P.es,P.tab,P.nd,P.nf,P.led⟩
theorem z6t {prog:Program} {w:World} {h h':Heap} {ks:List Int} {a:Addr} (x:IsTupleKey (intKind prog w) h ks a) (k:∀ o,h.get? a=some o→h'.get? a=some o):IsTupleKey (intKind prog w) h' ks a:=by
  obtain ⟨o,items,n,ho,r⟩:=x
  exact ⟨o,items,n,k o ho,r⟩
section
variable {prog:Program} {w:World} {A:Around} {R:Result→Shared→Prop} {I:Addr} {fp wr:List Addr} {n:Nat} {P:Nat→Value→Prop} {St:Nat→Heap→Prop}
structure Upto (ky:Nat→List Int) (ad:Nat→Addr) (i:Nat) (kb:KB):Prop where
  from_:∀ p∈kb,∃ j,j<i∧p=(ky j,ad j)
  all:∀ j,j<i→ky j∈kb.map Prod.fst
theorem znh (W:Walks prog w A.in1 I fp wr n P St) (S:Addr) (hSf:S∉fp) (ad:Nat→Addr) (ky:Nat→List Int) (hval:∀ i v,P i v→v=.ref (ad i)) (hu:A.units+2<cLine)
    (U:List (List Int)) (hU:U.length≤76) (hky:∀ i,i<n→ky i∈U) (hS:∀ i,i<n→ad i≠S∧ad i∉wr):
    ∀ (m i:Nat) (s:Shared) (kb:KB),n - i=m→i≤n→St i s.heap→SetT prog w s.heap S kb→Upto ky ad i kb→(∀ j,j<n→IsTupleKey (intKind prog w) s.heap (ky j) (ad j))→
      (∀ h' tk kb',(∀ b o,b∉S::wr→s.heap.get? b=some o→h'.get? b=some o)→SetT prog w h' S kb'→Upto ky ad n kb'→R (.ok (.ret .none)) { s with heap:=h',toks:=tk })→
      codeAny (model prog w) A (.builtin "set.update.loop" ⟨[.ref S,.ref I],[]⟩) R s:=by
  have hSw:S∉wr:=fun h=>hSf (W.sub _ h)
  intro m
  induction m with
  | zero=>
    intro i s kb hk hi hst hT hup hkeys hR
    have hin:i=n:=by omega
    subst hin
    refine codeAny_builtin F.entry_set_update_loop ?_
    rw [Around.under_plainId F.plain_set_update_loop _]
    show wpAny _ A.in1 (pyNext (.ref I) >>= _) _ _ s
    refine wpAny_bind (W.done s _ _ hst fun h' tk hm=>?_)
    exact wpAny_pure (hR h' tk kb (fun b o hb e=>hm b o (fun z=>hb (List.mem_cons_of_mem _ z)) e) (Parts.keep hT fun o e=>hm S o hSw e) hup)
  | succ m ih=>
    intro i s kb hk hi hst hT hup hkeys hR
    have hlt:i<n:=by omega
    refine codeAny_builtin F.entry_set_update_loop ?_
    rw [Around.under_plainId F.plain_set_update_loop _]
    show wpAny _ A.in1 (pyNext (.ref I) >>= _) _ _ s
    refine wpAny_bind (W.item i s _ _ hlt hst fun v h' tk hP hst' hm=>?_)
    have ev:=hval i v hP
    subst ev
    have hT':SetT prog w h' S kb:=Parts.keep hT fun o e=>hm S o hSw e
    have hkeys':∀ j,j<n→IsTupleKey (intKind prog w) h' (ky j) (ad j):=fun j hj=>z6t (hkeys j hj) fun o e=>hm _ o (hS j hj).2 e
    show wpAny _ A.in1 (holding [Value.ref (ad i)] (setAdd S (.ref (ad i))) >>= _) _ _ _
    refine wpAny_bind (wpAny_holding ?_)
    unfold setAdd
    refine wpAny_holding ?_
    refine wpAny_bind (wpAny_pyHash_tuple (s:={ s with heap:=h',toks:=tk }) (show A.in1.units<cLine by show A.units+1<cLine;omega) (hkeys' i hlt) ?_)
    obtain ⟨o,es,ep,t,Pt⟩:=hT'
    have tups:Tups prog w h' kb:=fun p hp=>by
      obtain ⟨j,hj,rfl⟩:=hup.from_ p hp
      exact hkeys' j (by omega)
    have hsub:∀ x∈kb.map Prod.fst,x∈U:=fun x hx=>by
      obtain ⟨p,hp,rfl⟩:=List.mem_map.mp hx
      obtain ⟨j,hj,rfl⟩:=hup.from_ p hp
      exact hky j (by omega)
    refine zpa (s:={ s with heap:=h',toks:=tk+((ky i).length+1) }) (a:=S) (k:=ky i) (b:=ad i) Pt tups (hkeys' i hlt) (by show A.units+1<cLine;omega) (fun hout=>?_) fun h2 kb2 r sb hT2 q1 q2=>?_
    · have nd:(ky i::kb.map Prod.fst).Nodup:=List.nodup_cons.mpr ⟨hout,Pt.nd⟩
      have:=nd.length_le_of_subset (l₂:=U) fun x hx=>by
        rcases List.mem_cons.mp hx with rfl | hx
        · exact hky i hlt
        · exact hsub x hx
      simp at this
      omega
    · have hup2:Upto ky ad (i+1) kb2:=by
        by_cases hin:ky i∈kb.map Prod.fst
        · have pm:=q1 hin
          refine ⟨fun p hp=>?_,fun j hj=>?_⟩
          · obtain ⟨j,hj,e⟩:=hup.from_ p (pm.mem_iff.mp hp)
            exact ⟨j,by omega,e⟩
          · rw [(pm.map Prod.fst).mem_iff]
            rcases Nat.lt_or_ge j i with z | z
            · exact hup.all j z
            · have:j=i:=by omega
              subst this;exact hin
        · have pm:=q2 hin
          refine ⟨fun p hp=>?_,fun j hj=>?_⟩
          · rcases List.mem_cons.mp (pm.mem_iff.mp hp) with z | z
            · exact ⟨i,by omega,z⟩
            · obtain ⟨j,hj,e⟩:=hup.from_ p z
              exact ⟨j,by omega,e⟩
          · rw [(pm.map Prod.fst).mem_iff,List.map_cons,List.mem_cons]
            rcases Nat.lt_or_ge j i with z | z
            · exact .inr (hup.all j z)
            · have:j=i:=by omega
              subst this;exact .inl rfl
      refine wpAny_pure ⟨plainId_quiet F.plain_set_update_loop _,ih (i+1) _ kb2 (by omega) hlt (W.frame _ _ _ hst' fun b hb o e=>?_) hT2 hup2 (fun j hj=>?_) fun h3 tk3 kb3 k3 hT3 hup3=>?_⟩
      · rw [sb.2 b (fun z:b=S=>hSf (by rw [← z];exact hb))];exact e
      · exact z6t (hkeys' j hj) fun o e=>(sb.2 _ (hS j hj).1).trans e
      · refine hR h3 tk3 kb3 (fun b o hb e=>k3 b o hb ?_) hT3 hup3
        exact (sb.2 b fun z=>hb (by rw [z];exact List.mem_cons_self)).trans (hm b o (fun z=>hb (List.mem_cons_of_mem _ z)) e)
end
end SR
namespace SR
open PySem PySem.Spec PyProof.Rows SM
theorem walk_slots:Slot "set" "__iter__" "set.__iter__"∧Slot "set_iterator" "__next__" "set_iterator.__next__"∧Slot "set_iterator" "__iter__" "set_iterator.__iter__"∧Slot "set" "__len__" "set.__len__":=by
  refine ⟨Slot.of (owner := "set") (n := "__iter__") ?_ ?_ ?_ ?_ ?_ ?_,Slot.of (owner := "set_iterator") (n := "__next__") ?_ ?_ ?_ ?_ ?_ ?_,Slot.of (owner := "set_iterator") (n := "__iter__") ?_ ?_ ?_ ?_ ?_ ?_,Slot.of (owner := "set") (n := "__len__") ?_ ?_ ?_ ?_ ?_ ?_⟩
  all_goals first
    | decide +kernel
    | (rw [typeLookup_type,builtinLookup_eq_fast];kernel_rfl)
    | (rw [isSubtype_type];kernel_rfl)
    | (left;decide +kernel)
    | (right;decide +kernel)
theorem z3j (a:Value):argsOk "set.__iter__" ⟨[a],[]⟩∧argsOk "set_iterator.__next__" ⟨[a],[]⟩∧argsOk "set_iterator.__iter__" ⟨[a],[]⟩:=by
  refine ⟨?_, ?_, ?_⟩ <;> unfold argsOk <;> kernel_rfl
theorem z80:entryFor table "set_iterator.__next__" = some Builtin.«set_iterator.__next__»:=entryFor_of_fast (by kernel_rfl)
theorem zdm:entryFor table "set.__iter__" = some Builtin.«frozenset.__iter__»:=entryFor_alias (id' := "frozenset.__iter__") (by kernel_rfl) rfl (by decide +kernel) (by kernel_rfl)
theorem zdn:entryFor table "set_iterator.__iter__" = some Builtin.«dict_keyiterator.__iter__»:=entryFor_alias (id' := "dict_keyiterator.__iter__") (by kernel_rfl) rfl (by decide +kernel) (by kernel_rfl)
end SR
namespace SR
open PySem PySem.Spec PyProof.Rows SM
theorem erase_perm {α:Type}:∀ (l:List α) (i:Nat) (h:i<l.length),(l[i]::l.eraseIdx i).Perm l
  | [],_,h=>absurd h (by simp)
  | x::r,0,_=>.refl _
  | x::r,i+1,h=>by
    have ih:=erase_perm r i (by simpa using h)
    show ((r[i]'(by simpa using h))::x::r.eraseIdx i).Perm (x::r)
    exact (List.Perm.swap _ _ _).trans (ih.cons x)
theorem z54 {α:Type} (next:Nat→Nat):∀ (fuel k:Nat) (l:List α) (out:Array α),l.length≤fuel→(pickOrder.go next fuel k l out).toList.Perm (out.toList++l)
  | 0,k,l,out,h=>by
    have:l=[]:=List.length_eq_zero_iff.mp (by omega)
    subst this
    rw [pickOrder.go];simp
  | fuel+1,k,l,out,h=>by
    rw [pickOrder.go]
    cases l with
    | nil=>simp
    | cons x r=>
      have hlt:next k % (x::r).length<(x::r).length:=Nat.mod_lt _ (by simp)
      rw [List.getElem?_eq_getElem hlt]
      dsimp only
      refine (z54 next fuel (k+1) _ _ (by rw [List.length_eraseIdx_of_lt hlt];omega)).trans ?_
      rw [Array.toList_push,List.append_assoc]
      refine List.Perm.append_left _ ?_
      exact erase_perm _ _ hlt
theorem zdo {α:Type} (next:Nat→Nat) (xs:Array α):(pickOrder next xs).toList.Perm xs.toList:=by
  unfold pickOrder
  have:=z54 next xs.size 0 xs.toList #[] (by simp)
  simpa using this
section
variable {prog:Program} {w:World}
def z32 (w:World) (a:Addr) (ep:Nat) (es:Array (Int×Value)):Array (Int×Value):=if w.params.followText "set-order" then pickOrder (w.params.setOrder a ep) es else es
theorem za4 (w:World) (a:Addr) (ep:Nat) (es:Array (Int×Value)):(z32 w a ep es).toList.Perm es.toList:=by
  unfold z32
  split
  · exact zdo _ _
  · exact .refl _
theorem z49 (w:World) (a:Addr) (ep:Nat) (es:Array (Int×Value)):(z32 w a ep es).size=es.size:=by simpa using (za4 w a ep es).length_eq
def z1i (w:World) (t:SetTable) (i:Nat):Nat:=if w.params.followText "set-order" then 0 else match i with | 0=>0 | j+1=>t.place.getD j 0+1
def z43 (a:Addr) (slot i n ep:Nat):Obj:={ cls:=.type "set_iterator",data:=.fields #[rawInt slot,rawInt i,.ref a,rawInt n,rawInt ep] }
theorem zb9 {t:SetTable} {hs:List Int} (T:TOk t hs) (hb:w.params.followText "set-order" = false) {i:Nat} (hi:i≤t.place.size):SetTable.below t.place (z1i w t i)=i:=by
  obtain ⟨h1,h2,h3⟩:=z2c (j:=z1i w t i) T.rise
  have mono:∀ a b (ha:a<t.place.size) (hb:b<t.place.size),a<b→t.place[a]<t.place[b]:=by
    intro a b ha hb hab
    have:=List.pairwise_iff_getElem.mp T.rise a b (by simpa using ha) (by simpa using hb) hab
    simpa using this
  unfold z1i at h1 h2 h3 ⊢
  rw [hb] at h1 h2 h3 ⊢
  simp only [Bool.false_eq_true,if_false] at h1 h2 h3 ⊢
  cases i with
  | zero=>
    dsimp only at h1 h2 h3 ⊢
    generalize SetTable.below t.place 0=r at h1 h2 h3 ⊢
    cases r with
    | zero=>rfl
    | succ r=>have:=h1 r (by omega) (by omega);omega
  | succ j=>
    dsimp only at h1 h2 h3 ⊢
    have hj:j<t.place.size:=by omega
    have ej:t.place.getD j 0=t.place[j]:=by simp [Array.getD,hj]
    rw [ej] at h1 h2 h3 ⊢
    generalize SetTable.below t.place (t.place[j]+1)=r at h1 h2 h3 ⊢
    rcases Nat.lt_trichotomy r (j+1) with q | q | q
    · have:=h2 j hj (by omega);omega
    · exact q
    · have:=h1 (j+1) (by omega) q
      have:=mono j (j+1) hj (by omega) (by omega)
      omega
end
section
variable {prog:Program} {w:World} {A:Around} {E:Value→Shared→Prop} {s:Shared} {a it:Addr} {kb:KB} {o:Obj} {es:Array (Int×Value)} {ep:Nat} {t:SetTable}
theorem zgd {Q:Bool→Shared→Prop} (P:Parts prog w s.heap a kb o es ep t) (h:Q false s):wpAny (model prog w) A (setDrawn a) Q E s:=by
  unfold setDrawn setsByText
  refine wpAny_bind (wpAny_setState_of P.obj P.data P.fits ?_)
  dsimp only
  refine wpAny_bind (wpAny_bind (wpAny_askSetting (wpAny_pure ?_)))
  have e:(!(w.params.followText "set-order")&&((!t.plain)&&decide (es.size>1)))=false:=by rw [P.tab.plain];simp
  show wpAny _ _ (pure (!(w.params.followText "set-order")&&((!t.plain)&&decide (es.size>1)))) _ _ s
  rw [e]
  exact wpAny_pure h
theorem zni {Q:Value→Shared→Prop} (P:Parts prog w s.heap a kb o es ep t) (h:Q (.ref s.heap.objs.size) { s with heap:=s.heap.push (z43 a 0 0 es.size ep) }):
    wpAny (model prog w) A (pyIter (.ref a)) Q E s:=by
  have hT:s.TypeIs (.ref a) "set" := ⟨o,P.obj,P.ex.1⟩
  refine wpAny_pyIter_slot hT walk_slots.1 (wpAny_call_entry walk_slots.1 hT zdm ?_ (z3j _).1)
  unfold Builtin.«frozenset.__iter__» Builtin.Frozenset.slot0
  refine wpAny_bind (m:=(do Builtin.Frozenset.addrOf (← slotArgs "__iter__" 0 ⟨[.ref a],[]⟩).1:Sem Addr)) (wpAny_pure ?_)
  unfold Builtin.Frozenset.sizeOf
  refine wpAny_bind (wpAny_bind (wpAny_setEntries_of P.obj P.data P.fits (wpAny_pure ?_)))
  refine wpAny_bind (zgd P ?_)
  simp only [Bool.false_eq_true,if_false]
  refine wpAny_bind (wpAny_pure ?_)
  refine wpAny_bind (wpAny_setEpoch_of P.obj P.data P.fits ?_)
  refine wpAny_bind (wpAny_newObj_type ?_ (by size_fits))
  refine wpAny_pure ⟨_,rfl,"set_iterator",_,⟨_,Heap.get?_push_size _ rfl,rfl⟩,walk_slots.2.1.lookup,h⟩
end
end SR
namespace SR
open PySem PySem.Spec PyProof.Rows SM
section
variable {prog:Program} {w:World} {A:Around} {E:Value→Shared→Prop} {s:Shared} {a it:Addr} {kb:KB} {o:Obj} {es:Array (Int×Value)} {ep:Nat} {t:SetTable}
theorem zdp {i:Nat} {Q:Option (Value×Nat)→Shared→Prop} (P:Parts prog w s.heap a kb o es ep t) (hi:i≤es.size)
    (h:Q (((z32 w a ep es)[i]?).map fun e=>(e.2,z1i w t (i+1))) s):wpAny (model prog w) A (setNext a (z1i w t i) i ep) Q E s:=by
  unfold setNext setsByText
  refine wpAny_bind (wpAny_setState_of P.obj P.data P.fits ?_)
  dsimp only
  refine wpAny_bind (wpAny_bind (wpAny_askSetting (wpAny_pure ?_)))
  have hps:t.place.size=es.size:=by have:=P.tab.size;rw [P.size];simpa using this
  show wpAny _ _ (if w.params.followText "set-order" = true then _ else _) _ _ s
  by_cases hb:w.params.followText "set-order" = true
  · rw [if_pos hb,if_neg (by simp)]
    refine wpAny_bind ?_
    unfold setWalk setsByText
    refine wpAny_bind (wpAny_setState_of P.obj P.data P.fits ?_)
    dsimp only
    refine wpAny_bind (wpAny_bind (wpAny_askSetting (wpAny_pure ?_)))
    show wpAny _ _ (if w.params.followText "set-order" = true then _ else _) _ _ s
    rw [if_pos hb]
    refine wpAny_bind (wpAny_askSetting (wpAny_pure (wpAny_pure ?_)))
    unfold z32 z1i at h
    unfold z1i
    rw [if_pos hb] at h ⊢
    rw [if_pos hb] at h
    exact h
  · have hb':w.params.followText "set-order" = false:=by simpa using hb
    rw [if_neg hb]
    have hl:t.led=true:=by rw [P.led,hb'];rfl
    have hd:((!t.plain)&&decide (es.size>1))=false:=by rw [P.tab.plain];rfl
    show wpAny _ _ (if ((!t.plain)&&decide (es.size>1))=true then _ else _) _ _ s
    rw [hd]
    simp only [Bool.false_eq_true,if_false]
    show wpAny _ _ ((if ((!t.led)&&!es.isEmpty)=true then _ else _) >>= _) _ _ s
    rw [hl]
    simp only [Bool.not_true,Bool.false_and,Bool.false_eq_true,if_false]
    refine wpAny_bind (wpAny_pure ?_)
    have hbl:=zb9 (w:=w) P.tab hb' (i:=i) (by omega)
    rw [hbl]
    unfold z32 at h
    rw [if_neg hb] at h
    refine wpAny_pure ?_
    by_cases hlt:i<es.size
    · have e1:es[i]?=some es[i]:=Array.getElem?_eq_getElem hlt
      have e2:t.place[i]?=some t.place[i]:=Array.getElem?_eq_getElem (by omega)
      rw [e1] at h
      rw [e1,e2]
      have e3:z1i w t (i+1)=t.place[i]+1:=by
        unfold z1i
        rw [if_neg hb]
        simp [Array.getD,show i<t.place.size by omega]
      rw [e3] at h
      exact h
    · have e1:es[i]?=none:=Array.getElem?_eq_none (by omega)
      rw [e1] at h ⊢
      exact h
theorem zkk {i:Nat} {x:Int×Value} {Q:Option Value→Shared→Prop} (P:Parts prog w s.heap a kb o es ep t) (hit:s.heap.get? it=some (z43 a (z1i w t i) i es.size ep)) (hx:(z32 w a ep es)[i]?=some x)
    (hQ:∀ h',h'.get? it=some (z43 a (z1i w t (i+1)) (i+1) es.size ep)→Heap.SameBut it s.heap h'→Q (some x.2) { s with heap:=h' }):wpAny (model prog w) A (pyNext (.ref it)) Q E s:=by
  have hT:s.TypeIs (.ref it) "set_iterator" := ⟨_,hit,rfl⟩
  have hlt:i<es.size:=by rw [← z49 w a ep es];exact (Array.getElem?_eq_some_iff.mp hx).1
  unfold pyNext
  refine wpAny_bind (wpAny_attempt (wpAny_callSpecial?_slot (name:=Str.ofString "__next__") hT walk_slots.2.1 (wpAny_call_entry walk_slots.2.1 hT z80 ?_ (z3j _).2.1)))
  unfold Builtin.«set_iterator.__next__»
  refine wpAny_bind (m:=slotArgs "__next__" 0 ⟨[.ref it],[]⟩) (wpAny_pure ?_)
  refine wpAny_bind (wpAny_fieldsOf hit rfl ?_)
  dsimp only
  show wpAny _ _ (setEntries a >>= _) _ _ s
  refine wpAny_bind (wpAny_setEntries_of P.obj P.data P.fits ?_)
  rw [if_neg (by simp)]
  show wpAny _ _ (setNext a ((z1i w t i:Nat):Int).toNat ((i:Nat):Int).toNat ((ep:Nat):Int).toNat >>= _) _ _ s
  rw [Int.toNat_natCast,Int.toNat_natCast,Int.toNat_natCast]
  refine wpAny_bind (zdp P (Nat.le_of_lt hlt) ?_)
  rw [hx]
  show wpAny _ _ (setField (.ref it) 0 (rawInt ((z1i w t (i+1):Nat):Int)) >>= _) _ _ s
  refine wpAny_bind (wpAny_setField_rec hit (by simp) fun h1 g1 b1=>?_)
  refine wpAny_bind (wpAny_setField_rec g1 (by simp) fun h2 g2 b2=>?_)
  refine wpAny_pure ⟨_,rfl,wpAny_pure (hQ h2 ?_ (b1.trans b2))⟩
  rw [g2]
  rfl
theorem znj {i:Nat} {Q:Option Value→Shared→Prop} (hh:A.handled=none) (P:Parts prog w s.heap a kb o es ep t) (hit:s.heap.get? it=some (z43 a (z1i w t i) i es.size ep)) (hi:i=es.size)
    (hQ:∀ h',Heap.ExtBut it s.heap h'→Q none { s with heap:=h' }):wpAny (model prog w) A (pyNext (.ref it)) Q E s:=by
  have hT:s.TypeIs (.ref it) "set_iterator" := ⟨_,hit,rfl⟩
  unfold pyNext
  refine wpAny_bind (wpAny_attempt (wpAny_callSpecial?_slot (name:=Str.ofString "__next__") hT walk_slots.2.1 (wpAny_call_entry walk_slots.2.1 hT z80 ?_ (z3j _).2.1)))
  unfold Builtin.«set_iterator.__next__»
  refine wpAny_bind (m:=slotArgs "__next__" 0 ⟨[.ref it],[]⟩) (wpAny_pure ?_)
  refine wpAny_bind (wpAny_fieldsOf hit rfl ?_)
  dsimp only
  show wpAny _ _ (setEntries a >>= _) _ _ s
  refine wpAny_bind (wpAny_setEntries_of P.obj P.data P.fits ?_)
  rw [if_neg (by simp)]
  show wpAny _ _ (setNext a ((z1i w t i:Nat):Int).toNat ((i:Nat):Int).toNat ((ep:Nat):Int).toNat >>= _) _ _ s
  rw [Int.toNat_natCast,Int.toNat_natCast,Int.toNat_natCast]
  refine wpAny_bind (zdp P (Nat.le_of_eq hi) ?_)
  rw [Array.getElem?_eq_none (by rw [z49];omega)]
  show wpAny _ _ (setField (.ref it) 2 Value.none >>= _) _ _ s
  refine wpAny_bind (wpAny_setField_rec hit (by simp) fun h1 g1 b1=>?_)
  show wpAny _ _ (newExc (.type "StopIteration") [] >>= _) _ _ _
  refine wpAny_bind ?_
  simp only [newExc,newTuple]
  refine wpAny_bind (wpAny_newObj_type ?_ (by size_fits))
  refine wpAny_bind (m:=firstArgMember _ _) (wpAny_of_eq (a:=Value.none) (by first | rfl | (simp only [firstArgMember];rfl)) ?_)
  refine wpAny_newObj_type ?_ (by size_fits)
  simp only [raiseNew]
  refine wpAny_bind (wpAny_handled ?_)
  rw [show A.in1.handled=none from hh]
  refine wpAny_bind (wpAny_pure (wpAny_throw ?_))
  refine wpAny_bind (wpAny_isInstance (T := "StopIteration") (b:=true) ⟨_,Heap.get?_push_size _ rfl,rfl⟩ isSubtype_stop ?_)
  exact wpAny_pure (hQ _ ((b1.extBut.push _).push _))
end
end SR
namespace SR
open PySem PySem.Spec PyProof.Rows SM
section
variable {prog:Program} {w:World} {A:Around} {E:Value→Shared→Prop} {s:Shared} {a:Addr} {kb:KB} {o:Obj} {es:Array (Int×Value)} {ep:Nat} {t:SetTable}
theorem Parts.at' {h h':Heap} (P:Parts prog w h a kb o es ep t) (k:h'.get? a=some o):Parts prog w h' a kb o es ep t:=⟨k,P.ex,P.data,P.es,P.tab,P.nd,P.nf,P.led⟩
theorem zdq (hh:A.handled=none) (I:Addr) (hne:a≠I):
    Walks prog w A I [I,a] [I] es.size (fun i v=>∃ x,(z32 w a ep es)[i]?=some x∧v=x.2) (fun i h=>Parts prog w h a kb o es ep t∧h.get? I=some (z43 a (z1i w t i) i es.size ep)) where
  sub:=fun b hb=>by rw [List.mem_singleton.mp hb];exact List.mem_cons_self ..
  frame:=fun i h h' ⟨p,q⟩ k=>⟨p.at' (k a (by simp) _ p.obj),k I (by simp) _ q⟩
  item:=fun i s Q E hi ⟨p,q⟩ hQ=>by
    have hi':i<(z32 w a ep es).size:=by rw [z49];exact hi
    have hx:(z32 w a ep es)[i]?=some (z32 w a ep es)[i]:=Array.getElem?_eq_getElem hi'
    refine zkk p q hx fun h' q' sb=>hQ _ h' s.toks ⟨_,hx,rfl⟩ ⟨p.at' ((sb.2 a hne).trans p.obj),q'⟩ fun b o hb e=>?_
    exact (sb.2 b fun z=>hb (by rw [z];exact List.mem_cons_self ..)).trans e
  done:=fun s Q E ⟨p,q⟩ hQ=>znj hh p q rfl fun h' x=>hQ h' s.toks fun b o hb e=>x b o (fun z=>hb (by rw [z];exact List.mem_cons_self ..)) e
  self:=fun i s Q E ⟨_,q⟩ hQ=>by
    have hT:s.TypeIs (.ref I) "set_iterator" := ⟨_,q,rfl⟩
    refine wpAny_pyIter_slot hT walk_slots.2.2.1 (wpAny_call_entry walk_slots.2.2.1 hT zdn ?_ (z3j _).2.2)
    exact wpAny_pure ⟨_,rfl,"set_iterator",_,⟨_,q,rfl⟩,walk_slots.2.1.lookup,hQ⟩
theorem zge {S:Addr} {n:Nat} {Q:Unit→Shared→Prop} (h:s.heap.get? S=some (seqObj "list" #[] n)) (q:∀ h' c,h'.get? S=some (seqObj "list" #[] c)→(∀ b o,b≠S→s.heap.get? b=some o→h'.get? b=some o)→Q () { s with heap:=h' }):
    wpAny (model prog w) A (Builtin.List.listTouch (.ref S)) Q E s:=by
  unfold Builtin.List.listTouch
  refine wpAny_bind (listUpdate_at h rfl ?_)
  have h1:=get?_update_seq h (fun x=>x.push Value.none)
  refine listUpdate_at h1 rfl ?_
  have h2:=get?_update_seq h1 (fun x=>x.pop)
  refine q _ _ h2 fun b o hb e=>?_
  rw [Heap.get?_update_ne _ _ _ _ hb,Heap.get?_update_ne _ _ _ _ hb]
  exact e
theorem z8w {Q:List Value→Shared→Prop} (hh:A.handled=none) (P:Parts prog w s.heap a kb o es ep t) (hn:es.size≤sizeLine)
    (q:∀ (h':Heap) (tk:Nat),(∀ b o,s.heap.get? b=some o→h'.get? b=some o)→s.heap.objs.size≤h'.objs.size→Q ((z32 w a ep es).toList.map (·.2)) { s with heap:=h',toks:=tk }):wpAny (model prog w) A (collect (.ref a)) Q E s:=by
  have la:a<s.heap.objs.size:=Heap.lt_size P.obj
  have up1:∀ b o,s.heap.get? b=some o→(s.heap.push (seqObj "list" #[] 0)).get? b=some o:=fun b o e=>Heap.get?_push_of_some _ e
  have hS1:(s.heap.push (seqObj "list" #[] 0)).get? s.heap.objs.size=some (seqObj "list" #[] 0):=Heap.get?_push_size _ rfl
  have P1:Parts prog w (s.heap.push (seqObj "list" #[] 0)) a kb o es ep t:=P.at' (up1 a o P.obj)
  have hT1:Shared.TypeIs { s with heap:=s.heap.push (seqObj "list" #[] 0) } (.ref a) "set" := ⟨o,P1.obj,P1.ex.1⟩
  unfold collect
  refine wpAny_bind (wpAny_runValue (codeAny_builtin entry_proto_collect' ?_))
  rw [Around.under_plainId F.plain_proto_collect _]
  refine wpAny_bind (m:=newList []) (wpAny_newList (wpAny_pure ⟨Code.quiet_builtin _ (by decide +kernel),codeAny_builtin entry_list_iadd' ?_⟩))
  rw [Around.under_plainId F.plain_list_iadd _]
  show wpAny _ A.in1 (Builtin.List.listExtendWith (.ref s.heap.objs.size) (.ref a) (.ref s.heap.objs.size)) _ _ { s with heap:=s.heap.push (seqObj "list" #[] 0) }
  unfold Builtin.List.listExtendWith
  refine wpAny_bind (wpAny_typeOf hT1 ?_)
  have ne:Builtin.List.listSameRef (.ref s.heap.objs.size) (.ref a)=false:=by simp [Builtin.List.listSameRef,Nat.ne_of_gt la]
  rw [if_neg (by rw [ne];decide)]
  refine wpAny_bind (zni P1 ?_)
  have sz:(s.heap.push (seqObj "list" #[] 0)).objs.size=s.heap.objs.size+1:=size_push' _ _
  rw [sz]
  have up2:∀ b o,(s.heap.push (seqObj "list" #[] 0)).get? b=some o→((s.heap.push (seqObj "list" #[] 0)).push (z43 a 0 0 es.size ep)).get? b=some o:=fun b o e=>Heap.get?_push_of_some _ e
  have P2:Parts prog w ((s.heap.push (seqObj "list" #[] 0)).push (z43 a 0 0 es.size ep)) a kb o es ep t:=P1.at' (up2 a o P1.obj)
  have hT2:Shared.TypeIs { s with heap:=(s.heap.push (seqObj "list" #[] 0)).push (z43 a 0 0 es.size ep) } (.ref a) "set" := ⟨o,P2.obj,P2.ex.1⟩
  have hI2:((s.heap.push (seqObj "list" #[] 0)).push (z43 a 0 0 es.size ep)).get? (s.heap.objs.size+1)=some (z43 a 0 0 es.size ep):=by rw [← sz];exact Heap.get?_push_size _ rfl
  refine wpAny_bind (wpAny_holding ?_)
  unfold Builtin.List.listLengthHint
  refine wpAny_bind (wpAny_specialOf hT2 walk_slots.2.2.2.lookup ?_)
  have spl:splitId "set.__len__" = some ("set","__len__"):=by decide +kernel
  dsimp only
  rw [spl]
  dsimp only
  refine wpAny_bind (wpAny_isInstance (b:=true) hT2 sub_set_self ?_)
  rw [if_neg (by decide),if_pos (by decide +kernel)]
  refine wpAny_bind (wpAny_typeOf hT2 (wpAny_pure ?_))
  rw [if_pos (by decide +kernel)]
  refine wpAny_bind (wpAny_rule ?_)
  refine wpAny_bind (zge (s:={ s with heap:=(s.heap.push (seqObj "list" #[] 0)).push (z43 a 0 0 es.size ep) }) (up2 _ _ hS1) fun h3 c hS3 up3=>?_)
  have neS:∀ b o,s.heap.get? b=some o→b≠s.heap.objs.size:=fun b o e=>Nat.ne_of_lt (Heap.lt_size e)
  have P3:Parts prog w h3 a kb o es ep t:=P2.at' (up3 a o (Nat.ne_of_lt la) P2.obj)
  have hI3:h3.get? (s.heap.objs.size+1)=some (z43 a 0 0 es.size ep):=up3 _ _ (Nat.succ_ne_self _) hI2
  have hz:z1i w t 0=0:=by unfold z1i;split <;> rfl
  have hh2:A.in1.handled=none:=by simp [hh]
  have nin:s.heap.objs.size∉[s.heap.objs.size+1,a]:=fun m=>by
    rcases List.mem_cons.mp m with e | m
    · exact Nat.succ_ne_self _ e.symm
    · exact Nat.ne_of_gt la (List.mem_singleton.mp m)
  refine wpAny_pure ⟨plainId_quiet F.plain_extend_loop _,codeAny_extend_loopS (A:=A) ((zdq (kb:=kb) (o:=o) (t:=t) (ep:=ep) (es:=es) hh2 (s.heap.objs.size+1) (a:=a) (Nat.ne_of_lt (Nat.lt_succ_of_lt la))).toS) hn s.heap.objs.size nin _ es.size 0 { s with heap:=h3 } #[] c rfl (Nat.zero_le _)
    ⟨P3,by rw [hz];exact hI3⟩ hS3 (ItemsOf.nil _) fun s' acc c' mv hS' ia=>?_⟩
  have eacc:acc.toList=(z32 w a ep es).toList.map (·.2):=by
    apply List.ext_getElem?
    intro i
    rw [Array.getElem?_toList,List.getElem?_map,Array.getElem?_toList]
    cases q:acc[i]? with
    | some v=>
      obtain ⟨x,h1,h2⟩:=ia.2 i v q
      rw [h1,h2];rfl
    | none=>
      have h1:acc.size≤i:=Array.getElem?_eq_none_iff.mp q
      rw [Array.getElem?_eq_none (by rw [z49,← ia.1];exact h1)];rfl
  obtain ⟨hp,gs,dr,tk,os⟩:=s'
  have e1:gs=s.gens:=mv.gens
  have e2:dr=s.drawn:=mv.drawn
  have e3:os=s.os:=mv.os
  subst e1;subst e2;subst e3
  show wpAny _ A (load s.heap.objs.size >>= _) _ _ _
  refine wpAny_bind (wpAny_load hS' (wpAny_pure ?_))
  rw [eacc]
  refine q hp tk (fun b o e=>mv.heap b o (fun m=>?_) (up3 b o (neS b o e) (up2 b o (up1 b o e)))) (Nat.le_of_lt (Heap.lt_size hS'))
  rcases List.mem_cons.mp m with z | m
  · exact neS b o e z
  · exact Nat.ne_of_lt (Nat.lt_succ_of_lt (Heap.lt_size e)) (List.mem_singleton.mp m)
end
end SR
namespace SR
open PySem PySem.Spec PySem.W PyProof.Rows SoM L2
section
variable {prog:Program} {w:World} {A:Around} {E:Value→Shared→Prop} {s:Shared}
theorem zdr {fin:Bool} {Q:Bool→Shared→Prop}:∀ {kx ky:List Int} {vx vy:List Value} (i:Nat),ItemsAre (intKind prog w) kx vx→ItemsAre (intKind prog w) ky vy→fin=decide (vx.length<vy.length)→Q (lexL kx ky) s→KatLex prog w A true fin Q (vx.zip vy) i s
  | _,_,_,_,i,.nil,.nil,hf,h=>by subst hf;exact kat_nil h
  | _,_,_,_,i,.nil,.cons _ _,hf,h=>by
    subst hf
    refine kat_nil ?_
    rw [decide_eq_true (by simp)];exact h
  | _,_,_,_,i,.cons _ _,.nil,hf,h=>by
    subst hf
    refine kat_nil ?_
    rw [decide_eq_false (by simp)];exact h
  | _,_,_,_,i,.cons (k:=a) hu hx,.cons (k:=b) hv hy,hf,h=>by
    obtain ⟨t,rfl⟩:=Value.isInt_shape hu
    obtain ⟨t',rfl⟩:=Value.isInt_shape hv
    refine kat_cons (wpAny_eqBool_int (kat_go (fun e=>?_) fun e=>?_))
    · refine kat_yes (zdr (i+1) hx hy (hf.trans (by simp)) ?_)
      rw [lexL,if_pos e] at h;exact h
    · have h':Q (decide (a<b)) s:=by rw [lexL,if_neg (by rw [e];simp)] at h;exact h
      refine kat_no ?_
      cases q:i==0 with
      | true=>exact oneLt_int h'
      | false=>exact kat_one _ _ (PyProof.Rows.lt_int h')
theorem znk {x y:Addr} {kx ky:List Int} {Q:Bool→Shared→Prop} (hx:IsTupleKey (intKind prog w) s.heap kx x) (hy:IsTupleKey (intKind prog w) s.heap ky y) (h:Q (lexL kx ky) s):wpAny (model prog w) A (keyLt' (tuples' true) (.ref x) (.ref y)) Q E s:=by
  obtain ⟨ox,ix,nx,e1,_,d1,i1⟩:=hx
  obtain ⟨oy,iy,ny,e2,_,d2,i2⟩:=hy
  exact kat_lt e1 d1 e2 d2 (zdr 0 i1 i2 (by simp) h)
def KeysAt (prog:Program) (w:World) (h:Heap) (n:Nat) (ad:Nat→Addr) (ky:Nat→List Int):Prop:=∀ i,i<n→IsTupleKey (intKind prog w) h (ky i) (ad i)∧ky i≠[]
def z0g (n:Nat) (ad:Nat→Addr):List Value:=(List.range n).map fun i=>.ref (ad i)
theorem z1g (n:Nat) (ad:Nat→Addr):(z0g n ad).length=n:=by simp [z0g]
theorem z6u {n:Nat} {ad:Nat→Addr} {i:Nat} (h:i<n):(z0g n ad).getD i Value.none=.ref (ad i):=by simp [z0g,h]
theorem z81:∀ (l:List Nat) {ad:Nat→Addr} {ky:Nat→List Int},(∀ i∈l,IsTupleKey (intKind prog w) s.heap (ky i) (ad i)∧ky i≠[])→∃ fs:List Value,KatTups s.heap (l.map fun i=>.ref (ad i)) fs∧fs.length=l.length∧∀ v∈fs,∃ a t,v=.int a t
  | [],_,_,_=>⟨[],trivial,rfl,by simp⟩
  | i::l,ad,ky,h=>by
    obtain ⟨fs,t,hl,hv⟩:=z81 l (ad:=ad) (ky:=ky) fun j hj=>h j (List.mem_cons_of_mem _ hj)
    obtain ⟨⟨o,its,n,e,c,d,r⟩,ne⟩:=h i (List.mem_cons_self ..)
    cases q:its.toList with
    | nil=>rw [q] at r;cases hk:ky i with
      | nil=>exact absurd hk ne
      | cons a b=>rw [hk] at r;cases r
    | cons v vs=>
      rw [q] at r
      cases hk:ky i with
      | nil=>exact absurd hk ne
      | cons a b=>
        rw [hk] at r
        cases r with
        | cons hu _=>
          obtain ⟨tk,rfl⟩:=Value.isInt_shape hu
          refine ⟨.int a tk::fs,KatTups.cons e c d (by rw [← Array.getElem?_toList,q];rfl) t,by simp [hl],fun v hv'=>?_⟩
          rcases List.mem_cons.mp hv' with rfl | hv'
          · exact ⟨_,_,rfl⟩
          · exact hv v hv'
theorem zgf {n:Nat} {ad:Nat→Addr} {ky:Nat→List Int} {G:Array Nat→Shared→Prop} (h2:2≤n) (hk:KeysAt prog w s.heap n ad ky)
    (h:∀ p,Ent n p→Rise lexL (p.toList.map ky)→G p s):
    wpAny (model prog w) A (keyKind' (z0g n ad).toArray) (fun κ s'=>(kas_sort (z0g n ad).length).kasWp (kas_ask prog w A κ (z0g n ad)) G s') (fun _ _=>False) s:=by
  obtain ⟨fs,t,hl,hv⟩:=z81 (prog:=prog) (w:=w) (s:=s) (List.range n) (ad:=ad) (ky:=ky) fun i hi=>hk i (List.mem_range.mp hi)
  refine kat_kind (T:=.type "int") t (by rw [hl,List.length_range];omega) (fun v hv'=>?_) (by decide) ?_
  · obtain ⟨a,tk,rfl⟩:=hv v hv'
    exact .now
  · rw [z1g]
    let ks:=(List.range n).map ky
    have mem:∀ i,i<n→ky i∈ks:=fun i hi=>List.mem_map.mpr ⟨i,List.mem_range.mpr hi,rfl⟩
    refine zn9 (n:=n) (f:=fun i=>rk lexL ks (ky i)) (I:=fun s'=>s'=s) (fun i j C s' hs hi hj hC=>?_) (kas_sort n) (fun p=>Ent n p∧Rise lexL (p.toList.map ky)) G s s (zkc (by omega) fun p e inc=>⟨e, ?_⟩) rfl fun p s' hp hs=>by subst hs;exact h p hp.1 hp.2
    · subst hs
      show wpAny (model prog w) A (keyLt' (tuples' true) ((z0g n ad).getD i Value.none) ((z0g n ad).getD j Value.none)) C (fun _ _=>False) s'
      rw [z6u hi,z6u hj]
      refine znk (hk i hi).1 (hk j hj).1 ?_
      have:=hC s' rfl
      rwa [zna stoL (mem i hi)] at this
    · refine List.pairwise_iff_getElem.mpr fun i j hi hj hij=>?_
      have hj':j<p.size:=by simpa using hj
      have hi':i<p.size:=by omega
      have z:=inc i j (Nat.le_of_lt hij) (by rw [← e.1];exact hj')
      unfold SoM.F at z
      have ei:p.getD i 0=p[i]:=by simp [Array.getD,hi']
      have ej:p.getD j 0=p[j]:=by simp [Array.getD,hj']
      rw [ei,ej] at z
      have lt:∀ k (hk:k<p.size),p[k]<n:=fun k hk=>List.mem_range.mp (e.2.mem_iff.mp (by simp))
      have:=zp7 stoL (mem _ (lt j hj')) z
      simpa using this
end
end SR
namespace SR
open PySem PySem.Spec PySem.W PyProof.Rows SoM L2
section
variable {prog:Program} {w:World} {A:Around} {E:Value→Shared→Prop} {s:Shared}
abbrev zgg (h h':Heap):Prop:=∀ b o,h.get? b=some o→h'.get? b=some o
def Sorted (n:Nat) (ad:Nat→Addr) (ky:Nat→List Int) (out:List Value):Prop:=∃ p:List Nat,p.Perm (List.range n)∧Rise lexL (p.map ky)∧out=p.map fun i=>.ref (ad i)
theorem Sorted.len {n:Nat} {ad:Nat→Addr} {ky:Nat→List Int} {out:List Value} (h:Sorted n ad ky out):out.length=n:=by
  obtain ⟨p,pp,_,e⟩:=h
  rw [e,List.length_map,pp.length_eq,List.length_range]
theorem KeysAt.keep {h h':Heap} {n:Nat} {ad:Nat→Addr} {ky:Nat→List Int} (k:KeysAt prog w h n ad ky) (g:∀ i,i<n→∀ o,h.get? (ad i)=some o→h'.get? (ad i)=some o):KeysAt prog w h' n ad ky:=fun i hi=>⟨z6t (k i hi).1 (g i hi),(k i hi).2⟩
theorem zba {a:Addr} {n c:Nat} {ad:Nat→Addr} {ky:Nat→List Int} {P:Fin→Shared→Prop} (ho:s.heap.get? a=some (seqObj "list" (z0g n ad).toArray c)) (h64:n<64) (hk:KeysAt prog w s.heap n ad ky)
    (q:∀ h' e out,Sorted n ad ky out→h'.get? a=some (seqObj "list" out.toArray e)→(∀ b o,b≠a→s.heap.get? b=some o→h'.get? b=some o)→P (.done (.ret .none)) { s with heap:=h' }):
    wpAny (model prog w) A (Builtin.«list.sort» ⟨[.ref a],[]⟩) P E s:=by
  have la:a<s.heap.objs.size:=Heap.lt_size ho
  obtain ⟨e1,g1⟩:∃ e1,(s.heap.update a (Obj.mapSeq fun _=>(#[]:Array Value))).get? a=some (seqObj "list" #[] e1):=⟨_,get?_update_seq ho fun _=>#[]⟩
  have k1:∀ b o,b≠a→s.heap.get? b=some o→(s.heap.update a (Obj.mapSeq fun _=>(#[]:Array Value))).get? b=some o:=fun b o hb e=>by rw [Heap.get?_update_ne _ _ _ _ hb];exact e
  generalize hH1:s.heap.update a (Obj.mapSeq fun _=>(#[]:Array Value))=H1 at g1 k1
  have k3:zgg H1 ((H1.push (seqObj "tuple" (z0g n ad).toArray 0)).push (seqObj "list" #[] 0)):=fun b o e=>Heap.get?_push_of_some _ (Heap.get?_push_of_some _ e)
  have ne:∀ i,i<n→ad i≠a:=fun i hi e=>by
    obtain ⟨⟨o,its,m,e1,c1,_⟩,_⟩:=hk i hi
    rw [e,ho] at e1
    cases e1
    exact absurd (Value.type.inj c1) (by decide)
  have K3:KeysAt prog w ((H1.push (seqObj "tuple" (z0g n ad).toArray 0)).push (seqObj "list" #[] 0)) n ad ky:=hk.keep fun i hi o e=>k3 _ o (k1 _ o (ne i hi) e)
  have g3:=k3 a _ g1
  have kk:∀ b o,b≠a→s.heap.get? b=some o→((H1.push (seqObj "tuple" (z0g n ad).toArray 0)).push (seqObj "list" #[] 0)).get? b=some o:=fun b o hb e=>k3 b o (k1 b o hb e)
  have sl:n≤sizeLine:=by rw [sizeLine_eq];omega
  have fin:∀ (out:List Value),Sorted n ad ky out→wpAny (model prog w) A (do
      let touched:=(← seqEpoch a) != e1
      Builtin.List.listUpdate (.ref a) fun _=>out.toArray
      if let some e:=(none:Option Value) then rule "list.sort.comparison-raised"; throw e
      if touched then rule "list.sort.modified"; raiseError "ValueError" "list modified during sort"
      ret .none) P E { s with heap:=(H1.push (seqObj "tuple" (z0g n ad).toArray 0)).push (seqObj "list" #[] 0) }:=fun out ho'=>by
    refine wpAny_bind (seqEpoch_at g3 rfl ?_)
    refine wpAny_bind (listUpdate_at g3 rfl ?_ (Nat.zero_le _) (by rw [List.size_toArray,ho'.len];omega))
    simp only [bne_self_eq_false,Bool.false_eq_true,if_false]
    exact wpAny_pure (q _ _ out ho' (get?_update_seq g3 fun _=>out.toArray) fun b o hb e=>by rw [Heap.get?_update_ne _ _ _ _ hb];exact kk b o hb e)
  generalize hH3:(H1.push (seqObj "tuple" (z0g n ad).toArray 0)).push (seqObj "list" #[] 0)=H3 at k3 K3 g3 kk fin
  rw [list_sort_plain]
  refine wpAny_bind (listItems_at ho rfl (wpAny_bind (listUpdate_at ho rfl ?_ (by rw [List.size_toArray,z1g];exact sl) (Nat.zero_le _))))
  rw [hH1]
  refine wpAny_bind (seqEpoch_at g1 rfl (wpAny_bind (wpAny_newTuple (wpAny_bind (wpAny_newList (wpAny_holding ?_) (Nat.zero_le _))) (by show (z0g n ad).length≤_;rw [z1g];exact sl))))
  show wpAny (model prog w) A _ P E { s with heap:=(H1.push (seqObj "tuple" (z0g n ad).toArray 0)).push (seqObj "list" #[] 0) }
  rw [hH3]
  have hz:(z0g n ad).toArray.size=n:=by rw [List.size_toArray,z1g]
  dsimp only
  by_cases h2:n<2
  · rw [if_pos (by rw [hz];exact h2),if_pos (by rw [hz];exact h2)]
    refine wpAny_bind (wpAny_pure ?_)
    rw [StateT.run_pure]
    refine wpAny_bind (wpAny_pure ?_)
    have e:(arrOf (SortSt.mk' general' ((z0g n ad).toArray.zip (z0g n ad).toArray) #[] 7 none)).map (·.2)=(z0g n ad).toArray:=by
      show (((z0g n ad).toArray.zip (z0g n ad).toArray)).map (·.2)=_
      rw [Array.map_snd_zip (Nat.le_refl _)]
    dsimp only
    rw [e]
    refine fin _ ⟨List.range n,.refl _, ?_,rfl⟩
    refine List.pairwise_iff_getElem.mpr fun i j hi hj hij=>?_
    rw [List.length_map,List.length_range] at hj
    omega
  · have h2':2≤n:=by omega
    rw [if_neg (by rw [hz];exact h2),if_neg (by rw [hz];exact h2)]
    refine wpAny_bind (wpAny_mono (zgf (A:=A) (s:={ s with heap:=H3 }) (G:=fun p s'=>s'={ s with heap:=H3 }∧Ent n p∧Rise lexL (p.toList.map ky)) h2' K3 fun p e r=>⟨rfl,e,r⟩) (fun κ s0 hκ=>?_) fun _ _ x=>x.elim)
    refine wpAny_bind (wpAny_mono (kat_run (ks:=z0g n ad) (vs:=z0g n ad) (Q:=fun st' s'=>∃ p:Array Nat,p.size=(z0g n ad).length∧arrOf st'=p.map (kas_item ((z0g n ad).toArray.zip (z0g n ad).toArray))∧failedOf st'=none∧s'={ s with heap:=H3 }∧Ent n p∧Rise lexL (p.toList.map ky))
      rfl (by rw [z1g];exact h2') (by rw [z1g];exact h64) (fun p st' s' z1 z2 z3 z4=>⟨p,z1,z2,z3,z4⟩) hκ) ?_ fun _ _ e=>e)
    rintro ⟨⟨⟩,st'⟩ s' ⟨p,_,z2,z3,rfl,z5,z6⟩
    dsimp only
    rw [kat_snds rfl z2,z3]
    have e:(p.toList.map fun i=>(z0g n ad).getD i Value.none)=p.toList.map fun i=>.ref (ad i):=
      List.map_congr_left fun i hi=>z6u (List.mem_range.mp (z5.2.mem_iff.mp hi))
    rw [e]
    exact fin _ ⟨p.toList,z5.2,z6,rfl⟩
theorem z8x {x:Value} {n:Nat} {ad:Nat→Addr} {ky:Nat→List Int} {Q:Value→Shared→Prop} (h64:n<64) (hk:KeysAt prog w s.heap n ad ky)
    (hc:∀ (Q':List Value→Shared→Prop) (E':Value→Shared→Prop),(∀ h' tk,zgg s.heap h'→s.heap.objs.size≤h'.objs.size→Q' (z0g n ad) { s with heap:=h',toks:=tk })→wpAny (model prog w) A.in1 (collect x) Q' E' s)
    (q:∀ h' tk D e out,Sorted n ad ky out→s.heap.objs.size≤D→h'.get? D=some (seqObj "list" out.toArray e)→zgg s.heap h'→Q (.ref D) { s with heap:=h',toks:=tk }):
    wpAny (model prog w) A (call (.builtin "sorted") [x]) Q E s:=by
  refine Calls.call_function_entry kind_sorted plain_sorted entry_sorted (args_sorted1 _) ?_
  unfold Builtin.«sorted»
  refine wpAny_bind (m:=checkCount "sorted" 1 1 _) (wpAny_pure (wpAny_bind (hc _ _ fun h1 tk k1 sz=>wpAny_bind (wpAny_newList ?_ (by rw [z1g,sizeLine_eq];omega)))))
  have g:(h1.push (seqObj "list" (z0g n ad).toArray 0)).get? h1.objs.size=some (seqObj "list" (z0g n ad).toArray 0):=Heap.get?_push_size _ rfl
  have k2:zgg s.heap (h1.push (seqObj "list" (z0g n ad).toArray 0)):=fun b o e=>Heap.get?_push_of_some _ (k1 b o e)
  refine wpAny_bind (wpAny_holding (wpAny_call_entry slot_list_sort ⟨_,g,rfl⟩ entry_list_sort (zba (s:={ s with heap:=h1.push (seqObj "list" (z0g n ad).toArray 0),toks:=tk }) g h64 (hk.keep fun i hi o e=>k2 _ o e) fun h' e out so ho ke=>⟨_,rfl, ?_⟩) (args_list_sort _)))
  exact wpAny_pure ⟨_,rfl,q h' tk h1.objs.size e out so sz ho fun b o e=>ke b o (Nat.ne_of_lt (Nat.lt_of_lt_of_le (Heap.lt_size e) sz)) (k2 b o e)⟩
end
end SR
namespace SR
open PySem PySem.Spec PyProof.Rows SM
def bare (w:World):Obj:={ cls:=.type "set",dict:=none,data:=.set #[] 0 (.fresh 0 0 (!w.params.followText "set-order")) }
section
variable {prog:Program} {w:World} {A:Around} {E:Value→Shared→Prop} {s:Shared}
theorem znl {h:Heap} {a:Addr} (e:h.get? a=some (bare w)):SetT prog w h a []:=by
  have tok:∀ led:Bool,TOk (.fresh 0 0 led) []:=fun led=>⟨rfl,.nil,rfl,(fun j hj=>nomatch hj),Nat.zero_le _,.inl rfl,(fun i h j e=>nomatch e),rfl⟩
  exact ⟨bare w,#[],0,_,e,⟨rfl,rfl,rfl⟩,rfl,rfl,tok _,.nil,(by show 0*5<7*3;decide),rfl⟩
theorem zds (a:Value) {Q:Value→Shared→Prop} (q:Q (.ref s.heap.objs.size) { s with heap:=s.heap.push (bare w) }):
    codeAny (model prog w) A (.call (.builtin "set.__new__") ⟨[.type "set",a],[]⟩) (wants Q E) s:=by
  refine codeAny_call_builtin F.plain_set_new F.entry_set_new (wpAny_of_eq (F.newCall_set_1 a) ?_)
  have self:=sub_set_self
  unfold Builtin.«set.__new__» Builtin.Frozenset.newClass
  cases s
  wp_walk
  exact wpAny_askSetting (wpAny_pure (wpAny_bind (wpAny_alloc (wpAny_pure (wpAny_pure q)))))
theorem z82 {v:Value} {Q N:Value→Shared→Prop} (hn:codeAny (model prog w) A.in1 (.call (.builtin "set.__new__") ⟨[.type "set",v],[]⟩) (wants N E) s)
    (hi:∀ x s1,N x s1→s1.TypeIs x "set"∧codeAny (model prog w) A.in1 (.call (.builtin "set.__init__") ⟨[x,v],[]⟩) (wants (fun r s2=>r=.none∧Q x s2) E) s1):wpAny (model prog w) A (call (.type "set") [v]) Q E s:=by
  have f:=F.called_set
  obtain ⟨_,_,fm⟩:=f.mro
  have fd:=f.made
  have fs:=f.sub
  have ft:=f.notType
  have fc:=f.canCreate
  have fk:=F.typeCall_set_1 v
  have fl:=f.init.lookup
  have q:(Code.builtin "type.__call__" ⟨[.type "set",v],[]⟩).quiet=true:=Code.quiet_builtin _ (by decide +kernel)
  refine wpAny_call (codeAny_of_tree (wpAny_pure ⟨q,codeAny_builtin F.entry_type_call ?_⟩))
  rw [Around.under_plain (weight_type_call_type "set" [v] []) rfl]
  repeat (any_goals (first | assumption | wp_step))
  refine codeAny_mono hn ?_
  rintro (e | fl1) s1 h1
  · exact h1
  · cases fl1 <;> try exact h1.elim
    rename_i x
    obtain ⟨hx,hr⟩:=hi x s1 h1
    have fb:=f.init.bind x
    repeat (any_goals (first | assumption | wp_step))
    refine codeAny_mono hr ?_
    rintro (e | fl2) s2 h2
    · exact h2
    · cases fl2 <;> try exact h2.elim
      obtain ⟨rfl,h3⟩:=h2
      repeat (any_goals (first | assumption | wp_step))
theorem zif {l:Addr} {T:String} {it:Obj} {n:Nat} {P:Nat→Value→Prop} {St:Nat→Heap→Prop} {fp wr:List Addr} (ad:Nat→Addr) (ky:Nat→List Int) (U:List (List Int)) {Q:Value→Shared→Prop}
    (hu:A.units+8<cLine) (hT:s.TypeIs (.ref l) T) (n1:isSubtype (.type T) (.type "set")=pure false) (n2:isSubtype (.type T) (.type "frozenset")=pure false) (n3:(Value.type T==Value.type "dict")=false)
    (hi:∀ (B:Around) (Q':Value→Shared→Prop) (E':Value→Shared→Prop),Q' (.ref (s.heap.objs.size+1)) { s with heap:=(s.heap.push (bare w)).push it }→wpAny (model prog w) B (pyIter (.ref l)) Q' E' { s with heap:=s.heap.push (bare w) })
    (W:Walks prog w A.in1.in1.in1 (s.heap.objs.size+1) fp wr n P St) (hfp:s.heap.objs.size∉fp) (hwr:∀ b∈wr,s.heap.objs.size<b) (h0:St 0 ((s.heap.push (bare w)).push it))
    (hval:∀ i v,P i v→v=.ref (ad i)) (hU:U.length≤76) (hky:∀ i,i<n→ky i∈U) (hkeys:∀ j,j<n→IsTupleKey (intKind prog w) s.heap (ky j) (ad j))
    (q:∀ (h':Heap) (tk:Nat) kb,SetT prog w h' s.heap.objs.size kb→Upto ky ad n kb→(∀ b o,s.heap.get? b=some o→h'.get? b=some o)→Q (.ref s.heap.objs.size) { s with heap:=h',toks:=tk }):
    wpAny (model prog w) A (call (.type "set") [.ref l]) Q E s:=by
  refine z82 (N:=fun x s1=>x=.ref s.heap.objs.size∧s1={ s with heap:=s.heap.push (bare w) }) (zds _ ⟨rfl,rfl⟩) ?_
  rintro x s1 ⟨rfl,rfl⟩
  have up:∀ b o,s.heap.get? b=some o→(s.heap.push (bare w)).get? b=some o:=fun b o e=>Heap.get?_push_of_some _ e
  have hb:(s.heap.push (bare w)).get? s.heap.objs.size=some (bare w):=Heap.get?_push_size _ rfl
  have hS:Shared.TypeIs { s with heap:=s.heap.push (bare w) } (.ref s.heap.objs.size) "set" := ⟨_,hb,rfl⟩
  refine ⟨hS,codeAny_call_builtin F.called_set.init.plain F.entry_set_init (check_set_init_1 hS ?_)⟩
  obtain ⟨ol,el,cl⟩:=hT
  have hl1:Shared.TypeIs { s with heap:=s.heap.push (bare w) } (.ref l) T:=⟨ol,up l ol el,cl⟩
  have lt:∀ j,j<n→ad j<s.heap.objs.size:=fun j hj=>let ⟨_,_,_,e,_⟩:=hkeys j hj;Heap.lt_size e
  have hb2:((s.heap.push (bare w)).push it).get? s.heap.objs.size=some (bare w):=Heap.get?_push_of_some _ hb
  have run:∀ (R:Result→Shared→Prop),(∀ h' tk kb,SetT prog w h' s.heap.objs.size kb→Upto ky ad n kb→(∀ b o,s.heap.get? b=some o→h'.get? b=some o)→R (.ok (.ret .none)) { s with heap:=h',toks:=tk })→
      codeAny (model prog w) A.in1.in1 (.builtin "set.update.loop" ⟨[.ref s.heap.objs.size,.ref (s.heap.objs.size+1)],[]⟩) R { s with heap:=(s.heap.push (bare w)).push it }:=fun R hR=>by
    refine znh W s.heap.objs.size hfp ad ky hval (by show A.units+1+1+2<cLine;omega) U hU hky (fun j hj=>⟨Nat.ne_of_lt (lt j hj),fun m=>Nat.lt_asymm (lt j hj) (hwr _ m)⟩) n 0 _ [] rfl (Nat.zero_le _) h0 (znl hb2)
      ⟨(fun p hp=>nomatch hp),fun j hj=>absurd hj (Nat.not_lt_zero j)⟩ (fun j hj=>z6t (hkeys j hj) fun o e=>Heap.get?_push_of_some _ (up _ o e)) fun h' tk kb keep S u=>hR h' tk kb S u fun b o e=>?_
    have hlt:=Heap.lt_size e
    exact keep b o (fun m=>(List.mem_cons.mp m).elim (Nat.ne_of_lt hlt) fun m=>Nat.lt_asymm hlt (hwr b m)) (Heap.get?_push_of_some _ (up b o e))
  unfold Builtin.«set.__init__» noKeywords Builtin.Frozenset.updateFrom
  generalize hPI:pyIter=PI
  unfold bare at hb
  wp_walk
  subst hPI
  refine hi _ _ _ ?_
  refine wpAny_bind (wpAny_runValue (run _ fun h' tk kb S u keep=>?_))
  exact wpAny_pure (wpAny_pure ⟨rfl,q h' tk kb S u keep⟩)
end
end SR
namespace L2.Mr
open PySem PySem.Spec PyProof.Rows SR
def TupsAre (H:Hp):List V→List (List Int)→Prop
  | [],[]=>True
  | v::vs,k::ks=>(∃ b,v=.ref b∧H b=some (.tup (k.map V.int)))∧TupsAre H vs ks
  | _,_=>False
def vAd:V→Addr
  | .ref b=>b
  | _=>0
def adV (vs:List V) (i:Nat):Addr:=vAd (vs.getD i .non)
section
variable {X:Cx} {pins:List (Addr×Obj)} {σ:St} {H H':Hp} {s:Shared}
theorem TupsAre.len:∀ {vs:List V} {ks:List (List Int)},TupsAre H vs ks→vs.length=ks.length
  | [],[],_=>rfl
  | [],_::_,h=>h.elim
  | _::_,[],h=>h.elim
  | v::vs,k::ks,h=>by rw [List.length_cons,List.length_cons,TupsAre.len h.2]
theorem TupsAre.at_:∀ {vs:List V} {ks:List (List Int)} {i:Nat},TupsAre H vs ks→i<ks.length→vs[i]?=some (.ref (adV vs i))∧H (adV vs i)=some (.tup ((ks.getD i []).map V.int))
  | [],[],_,_,h=>by simp at h
  | [],_::_,_,h,_=>h.elim
  | _::_,[],_,h,_=>h.elim
  | v::vs,k::ks,0,h,_=>by
    obtain ⟨⟨b,rfl,e⟩,_⟩:=h
    exact ⟨rfl,e⟩
  | v::vs,k::ks,i+1,h,hi=>by
    obtain ⟨e1,e2⟩:=TupsAre.at_ (i:=i) h.2 (by simpa using hi)
    have ea:adV (v::vs) (i+1)=adV vs i:=by simp [adV]
    exact ⟨by rw [ea];simpa using e1,by rw [ea];simpa using e2⟩
theorem TupsAre.of:∀ {vs:List V} {ks:List (List Int)},vs.length=ks.length→(∀ i,i<ks.length→∃ b,vs[i]?=some (.ref b)∧H b=some (.tup ((ks.getD i []).map V.int)))→TupsAre H vs ks
  | [],[],_,_=>trivial
  | [],_::_,h,_=>by simp at h
  | _::_,[],h,_=>by simp at h
  | v::vs,k::ks,h,g=>by
    obtain ⟨b,e1,e2⟩:=g 0 (by simp)
    exact ⟨⟨b,by simpa using e1,by simpa using e2⟩,TupsAre.of (by simpa using h) fun i hi=>by simpa using g (i+1) (by simpa using hi)⟩
theorem za5:∀ {k:List Int} {its:List Value} {prog:Program} {w:World},Vals (k.map V.int) its→ItemsAre (intKind prog w) k its
  | [],_,_,_,.nil=>.nil
  | n::k,_,_,_,.cons h1 h2=>by
    obtain ⟨t,rfl⟩:=h1
    exact .cons (intKind_is _ _ _ _) (za5 h2)
theorem zdt (I:Inv X pins σ H s) {b:Addr} {k:List Int} (e:H b=some (.tup (k.map V.int))):IsTupleKey (intKind X.prog X.w) s.heap k b:=by
  obtain ⟨_,its,r,o,e1,c,_,n,d⟩:=I.hok b _ e
  exact ⟨o,its.toArray,n,e1,c,d,za5 r⟩
theorem zdu {vs:List V} {ks:List (List Int)} {its:List Value} (h:TupsAre H vs ks) (r:Vals vs its):its=z0g ks.length (adV vs):=by
  have hl:=r.length
  have hl2:=h.len
  apply List.ext_getElem?
  intro i
  by_cases hi:i<ks.length
  · obtain ⟨e1,_⟩:=h.at_ hi
    obtain ⟨u,e2,e3⟩:=r.get e1
    cases e3
    rw [e2];simp [z0g,hi]
  · rw [List.getElem?_eq_none (by omega),List.getElem?_eq_none (by rw [z1g];omega)]
theorem zgh {n:Nat} {ad:Nat→Addr} {ky:Nat→List Int} {out:List Value} (so:Sorted n ad ky out) (hH:∀ i,i<n→H (ad i)=some (.tup ((ky i).map V.int))):
    ∃ (p:List Nat) (vs':List V),p.Perm (List.range n)∧Rise lexL (p.map ky)∧Vals vs' out∧TupsAre H vs' (p.map ky):=by
  obtain ⟨p,pp,r,rfl⟩:=so
  refine ⟨p,p.map fun i=>V.ref (ad i),pp,r, ?_, ?_⟩
  · clear pp r
    induction p with
    | nil=>exact .nil
    | cons i p ih=>exact .cons rfl ih
  · have:∀ q:List Nat,(∀ i∈q,i<n)→TupsAre H (q.map fun i=>V.ref (ad i)) (q.map ky):=fun q=>by
      induction q with
      | nil=>intro _;trivial
      | cons i q ih=>exact fun h=>⟨⟨_,rfl,hH i (h i (List.mem_cons_self ..))⟩,ih fun j hj=>h j (List.mem_cons_of_mem _ hj)⟩
    exact this p fun i hi=>List.mem_range.mp (pp.mem_iff.mp hi)
theorem zgi {α:Type} {p:List Nat} {n:Nat} {l:List α} {d:α} (h:p.Perm (List.range n)) (hl:l.length=n):(p.map fun i=>l.getD i d).Perm l:=by
  refine (h.map _).trans ?_
  have:(List.range n).map (fun i=>l.getD i d)=l:=by
    apply List.ext_getElem (by simp [hl])
    intro i h1 h2
    simp [h2]
  rw [this]
def SetO (prog:Program) (w:World) (l:Addr) (o:Obj) (kb:KB):Prop:=∃ es ep t,∀ h:Heap,h.get? l=some o→Parts prog w h l kb o es ep t
structure KbOk (H:Hp) (kb:KB) (ks:List (List Int)):Prop where
  tup:∀ p∈kb,H p.2=some (.tup (p.1.map V.int))
  frm:∀ p∈kb,p.1∈ks
  all:∀ k∈ks,k∈kb.map Prod.fst
abbrev znm (X:Cx):List V→Hp→VK→Prop:=fun xs H Q=>∃ (p:Addr) (vs:List V) (ks:List (List Int)),xs=[.ref p]∧H p=some (.lst vs)∧TupsAre H vs ks∧(z1k lexL ks).length≤76∧∀ l o kb,H l=none→SetO X.prog X.w l o kb→KbOk H kb ks→Q (.ref l) (upd H l (.frz o (.own 0)))
theorem sub_list:isSubtype (.type "list") (.type "set")=pure false∧isSubtype (.type "list") (.type "frozenset")=pure false:=⟨F.sub_list_set,F.sub_list_frozenset⟩
theorem zdv {k:Nat} (rm:Room k X.A):CallR X (.type "set") (znm X):=by
  intro pins s σ H xs us Q I rv ⟨p,vs,ks,e,hp,ht,hU,q⟩
  subst e
  obtain ⟨u,rfl,ru⟩:=z4e rv
  cases ru
  obtain ⟨its,rits,pl,hz⟩:=I.list (SqL.of hp)
  have hits:=zdu ht rits
  have lp:=I.hok.lt hp
  have hI:s.heap.IsList p (z0g ks.length (adV vs)).toArray:=by rw [← hits];exact pl.isList
  have hsz:(z0g ks.length (adV vs)).toArray.size=ks.length:=by rw [List.size_toArray,z1g]
  have hh:X.A.in1.in1.in1.handled=none:=rm.hd
  have hne:p≠s.heap.objs.size+1:=Nat.ne_of_lt (Nat.lt_succ_of_lt lp)
  have hb:(s.heap.push (bare X.w)).IsList p (z0g ks.length (adV vs)).toArray:=hI.push _
  have hs1:(s.heap.push (bare X.w)).objs.size=s.heap.objs.size+1:=size_push' _ _
  have W:=Walks.list (prog:=X.prog) (w:=X.w) (A:=X.A.in1.in1.in1) hh (s.heap.objs.size+1) p hne (z0g ks.length (adV vs)).toArray
  rw [hsz] at W
  refine zif (T := "list") (it:={ cls:=.type "list_iterator",data:=.fields #[.ref p,.int 0 0] }) (adV vs) (fun i=>ks.getD i []) (z1k lexL ks) (by have:=rm.un;omega) hI.typeIs sub_list.1 sub_list.2 (by decide) (fun B Q' E' hQ=>?_) W ?_ ?_ ?_ (fun i v hv=>?_) hU (fun i hi=>?_) (fun j hj=>?_) fun h' tk kb hS hup k=>?_
  · refine wpAny_pyIter_list hb ?_
    rw [← hs1] at hQ;exact hQ
  · intro m
    rcases List.mem_cons.mp m with z | m
    · exact Nat.succ_ne_self _ z.symm
    · exact Nat.ne_of_gt lp (List.mem_singleton.mp m)
  · intro b hb
    rw [List.mem_singleton.mp hb];exact Nat.lt_succ_self _
  · refine ⟨⟨{ cls:=.type "list_iterator",data:=.fields #[.ref p,.int 0 0] }, ?_,rfl,rfl⟩,hb.push _⟩
    rw [← hs1];exact Heap.get?_push_size _ rfl
  · have hi:i<ks.length:=by
      have:=(Array.getElem?_eq_some_iff.mp hv).1
      rwa [hsz] at this
    have:(z0g ks.length (adV vs))[i]?=some (.ref (adV vs i)):=by simp [z0g,hi]
    rw [List.getElem?_toArray,this] at hv
    exact (Option.some.inj hv).symm
  · refine (z1f stoL _ _).mpr ?_
    show ks.getD i []∈ks
    simp [hi]
  · exact zdt I (ht.at_ hj).2
  · obtain ⟨o,es,ep,t,P⟩:=hS
    refine ⟨.ref s.heap.objs.size,_,I.laid (t':=tk) (o:=.frz o (.own 0)) k (Nat.le_refl _) ⟨P.obj,o,P.obj⟩,rfl,q _ o kb (I.hok.fresh (Nat.le_refl _)) ⟨es,ep,t,fun h e=>P.at' e⟩ ⟨fun z hz=>?_,fun z hz=>?_,fun z hz=>?_⟩⟩
    · obtain ⟨j,hj,rfl⟩:=hup.from_ z hz
      exact (ht.at_ hj).2
    · obtain ⟨j,hj,rfl⟩:=hup.from_ z hz
      show ks.getD j []∈ks
      simp [hj]
    · obtain ⟨j,hj,rfl⟩:=List.getElem_of_mem hz
      have:=hup.all j hj
      simpa [hj] using this
abbrev za6 (X:Cx):List V→Hp→VK→Prop:=fun xs H Q=>∃ (l:Addr) (o:Obj) (kb:KB) (ks:List (List Int)),xs=[.ref l]∧H l=some (.frz o (.own 0))∧SetO X.prog X.w l o kb∧KbOk H kb ks∧(∀ k∈ks,k≠[])∧(z1k lexL ks).length<64∧∀ D vs',H D=none→TupsAre H vs' (z1k lexL ks)→Q (.ref D) (upd H D (.lst vs'))
theorem zgj {α β:Type} {f:α→β}:∀ {l:List β} {l':List β},l.Perm l'→∀ xs:List α,l'=xs.map f→∃ ys:List α,ys.Perm xs∧l=ys.map f:=by
  intro l l' h
  induction h with
  | nil=>intro xs e;exact ⟨xs,.refl _,e⟩
  | cons a _ ih=>
    intro xs e
    cases xs with
    | nil=>cases e
    | cons x xs=>
      simp only [List.map_cons,List.cons.injEq] at e
      obtain ⟨ys,p,e'⟩:=ih xs e.2
      exact ⟨x::ys,p.cons x,by simp [e.1,e']⟩
  | swap a b l=>
    intro xs e
    cases xs with
    | nil=>cases e
    | cons x xs=>
      cases xs with
      | nil=>simp at e
      | cons y xs=>
        simp only [List.map_cons,List.cons.injEq] at e
        exact ⟨y::x::xs,.swap ..,by simp [e.1,e.2.1,e.2.2]⟩
  | trans _ _ ih1 ih2=>
    intro xs e
    obtain ⟨ys,p,e'⟩:=ih2 xs e
    obtain ⟨zs,p',e''⟩:=ih1 ys e'
    exact ⟨zs,p'.trans p,e''⟩
theorem z83 {k:Nat} (rm:Room k X.A):CallR X (.builtin "sorted") (za6 X):=by
  intro pins s σ H xs us Q I rv ⟨l,o,kb,ks,e,hl,⟨es,ep,t,hP⟩,kO,ne,h64,q⟩
  subst e
  obtain ⟨u,rfl,ru⟩:=z4e rv
  cases ru
  have P:=hP s.heap (I.hok l _ hl).1
  have pe:(z32 X.w l ep es).toList.Perm (ents X.prog X.w kb):=by rw [← P.es];exact za4 _ _ _ _
  obtain ⟨kc,pk,ek⟩:=zgj pe kb rfl
  have mem:∀ i,i<kc.length→kc.getD i ([],0)∈kb:=fun i hi=>pk.mem_iff.mp (by simp [hi])
  have hn:(kb.map Prod.fst).length=(z1k lexL ks).length:=by
    refine List.Perm.length_eq ((List.perm_ext_iff_of_nodup P.nd (z1y stoL (z2b stoL ks))).mpr fun z=>?_)
    rw [z1f stoL]
    refine ⟨fun h=>?_,fun h=>kO.all z h⟩
    obtain ⟨p,hp,rfl⟩:=List.mem_map.mp h
    exact kO.frm p hp
  have hlen:kc.length<64:=by rw [pk.length_eq];rw [List.length_map] at hn;omega
  have hes:es.size=kc.length:=by rw [P.size,pk.length_eq]
  have KA:KeysAt X.prog X.w s.heap kc.length (fun i=>(kc.getD i ([],0)).2) (fun i=>(kc.getD i ([],0)).1):=fun i hi=>⟨zdt I (kO.tup _ (mem i hi)),ne _ (kO.frm _ (mem i hi))⟩
  have er:(z32 X.w l ep es).toList.map (·.2)=z0g kc.length (fun i=>(kc.getD i ([],0)).2):=by
    rw [ek,List.map_map]
    apply List.ext_getElem (by simp [z1g])
    intro i h1 h2
    have hi:i<kc.length:=by simpa using h1
    simp [z0g,hi]
  refine z8x hlen KA (fun Q' E' hQ=>?_) fun h' tk D e out so hD ho k=>?_
  · refine z8w (show X.A.in1.handled=none from rm.hd) P (by rw [hes,sizeLine_eq];omega) fun h' tk kk sz=>?_
    rw [er]
    exact hQ h' tk kk sz
  · obtain ⟨pp,vs',h1,h2,h3,h4⟩:=zgh (H:=H) so fun i hi=>kO.tup _ (mem i hi)
    have pm:(pp.map fun i=>(kc.getD i ([],0)).1).Perm (kb.map Prod.fst):=by
      have:=((zgi (d:=(([],0):List Int×Addr)) h1 rfl).trans pk).map Prod.fst
      rwa [List.map_map] at this
    have nd:(pp.map fun i=>(kc.getD i ([],0)).1).Nodup:=pm.nodup_iff.mpr P.nd
    have rs:z21 lexL (pp.map fun i=>(kc.getD i ([],0)).1):=by
      refine (h2.and nd).imp fun {a b} ⟨x,y⟩=>?_
      cases q:lexL a b with
      | true=>rfl
      | false=>exact absurd (stoL.tot a b q x) y
    have e1:(pp.map fun i=>(kc.getD i ([],0)).1)=z1k lexL ks:=zb7 stoL rs fun z=>by
      rw [pm.mem_iff]
      refine ⟨fun h=>?_,fun h=>kO.all z h⟩
      obtain ⟨p,hp,rfl⟩:=List.mem_map.mp h
      exact kO.frm p hp
    rw [e1] at h4
    refine ⟨.ref D,_,I.laid (t':=tk) k hD (show ObjOk X.prog X.w _ _ _ (.lst vs') from ⟨?_,out,e,h3,ho⟩),rfl,q D vs' (I.hok.fresh hD) h4⟩
    rw [h4.len,sizeLine_eq];omega
end
def keyD:Dv→Option (List Int)
  | .tup xs=>optL intD xs
  | _=>none
def tupK (k:List Int):Dv:=.tup (k.map Dv.int)
section
variable {X:Cx} {G:Cfg} {E:XK} {k:Nat} {e a b:Expr} {es:List Expr} {ma mb:M Dv} {mas:M (List Dv)} {p p2 pos pos2:Pos}
theorem z6v {μ:Nat→Addr} {n:Nat} {H:Hp}:∀ {xs:List Dv} {vs:List V} {ks:List (List Int)},RelDL G μ n H xs vs→optL keyD xs=some ks→TupsAre H vs ks
  | [],_,ks,r,e=>by cases e;rw [RelDL] at r;subst r;trivial
  | x::xs,_,ks,r,e=>by
    rw [RelDL] at r;obtain ⟨v,rr,rfl,r1,r2⟩:=r
    unfold optL at e
    cases x with
    | tup ds=>
      dsimp only [keyD] at e
      cases q:optL intD ds with
      | none=>rw [q] at e;cases e
      | some zs=>
        rw [q] at e
        dsimp only at e
        cases q2:optL keyD xs with
        | none=>rw [q2] at e;cases e
        | some ys=>
          rw [q2] at e
          cases e
          rw [RelD] at r1
          obtain ⟨b,us,rfl,h1,h2⟩:=r1
          rw [z3g h2 q] at h1
          exact ⟨⟨b,rfl,h1⟩,z6v r2 q2⟩
    | _=>cases e
theorem za7 {μ:Nat→Addr} {n:Nat} {H:Hp}:∀ {vs:List V} {ks:List (List Int)},TupsAre H vs ks→RelDL G μ n H (ks.map tupK) vs
  | [],[],_=>RelDL.nil
  | [],_::_,h=>h.elim
  | _::_,[],h=>h.elim
  | v::vs,k::ks,h=>by
    obtain ⟨⟨b,rfl,e⟩,h2⟩:=h
    refine RelDL.cons ?_ (za7 h2)
    unfold tupK
    rw [RelD]
    exact ⟨b,_,rfl,e,z2a k⟩
def neK (ks:List (List Int)):Bool:=ks.all fun k=>!k.isEmpty
theorem znn {ks:List (List Int)} (h:neK ks=true):∀ k∈ks,k≠[]:=fun k hk e=>by
  have:=List.all_eq_true.mp h k hk
  rw [e] at this;cases this
theorem zpb:bootBuiltins "set" = some (.type "set"):=by decide +kernel
end
open PySem.SeqAt PySem.MeetsSeq PySem.MeetsSeq2 PySem.MeetsSeq3
section
variable {X:Cx} {G:Cfg} {E:XK} {k:Nat} {e a b o:Expr} {es:List Expr} {mo me ma mb:M Dv} {mas:M (List Dv)} {p p2 pos pos2 apos cpos np:Pos} {y:Str}
theorem z6w {prog:Program} {w:World} {A:Around} {Ee:Value→Shared→Prop} {s:Shared} {t sl:Addr} {items:Array Value} {vl vu:Value} {lo hi:Option Int} {Q:Value→Shared→Prop} (ht:IsTup s.heap t items) (hs:s.heap.IsSliceOf sl vl vu .none) (pl:IsPart vl lo) (pu:IsPart vu hi)
    (h0:HT.sIx items.size 0 lo=0) (h1:HT.sIx items.size items.size hi=items.size) (h:Q (.ref t) s):wpAny (model prog w) A (getItem (.ref t) (.ref sl)) Q Ee s:=by
  obtain ⟨os,hos,hcs,hds⟩:=id hs
  have hTs:s.TypeIs (.ref sl) "slice" := ⟨os,hos,hcs⟩
  have tt:=ht.typeIs
  obtain ⟨ot,et,ct,_⟩:=id ht
  unfold getItem
  try with_reducible refine wpAny_holding ?_
  first | refine wpAny_bind (wpAny_pure ?_) | skip
  refine wpAny_bind (wpAny_sequenceKey tt (by decide) (wpAny_bind (wpAny_callSpecial?_slot (name:=Str.ofString "__getitem__") tt PyProof.Rows.slot_tuple_getitem (wpAny_call_entry PyProof.Rows.slot_tuple_getitem tt PySem.F.entry_tuple_getitem ?_ (PySem.F.args_tuple_getitem_2 _ _)))))
  refine wpAny_bind (m:=slotArgs "__getitem__" 1 ⟨[.ref t,.ref sl],[]⟩) (wpAny_pure (wpAny_bind (tupleItemsOf_ ht (wpAny_bind (wpAny_typeOf hTs ?_)))))
  rw [if_pos (by decide)]
  refine wpAny_bind (HT.sliceApplied_gen hs pl pu ?_)
  rw [h0,h1]
  show wpAny _ _ (if (((0:Nat):Int)==0&&(1:Int)==1&&(items.size - 0)==items.size)=true then _ else _) _ _ s
  rw [if_pos (by simp)]
  unfold Builtin.Tuple.tupleIsExact
  refine wpAny_bind (wpAny_bind (wpAny_typeOf tt (wpAny_pure ?_)))
  rw [if_pos (by decide)]
  refine wpAny_bind (wpAny_rule (wpAny_pure ⟨_,rfl,wpAny_pure h⟩))
theorem zkl:SlR X (fun x lo hi H Q=>∃ a xs,x=.ref a∧SqT X.K H a xs∧HT.sIx xs.length 0 lo=0∧HT.sIx xs.length xs.length hi=xs.length∧Q (.ref a) H):=by
  intro pins s σ H x v vl vu lo hi sl Q I rx hs pl pu ⟨a,xs,ex,hx,h0,h1,q⟩
  subst ex
  cases rx
  obtain ⟨its,r,ht,hz⟩:=I.tuple hx
  have hlen:its.toArray.size=xs.length:=by rw [List.size_toArray];exact r.length.symm
  exact ⟨"tuple",_,PyProof.Rows.slot_tuple_getitem.lookup,ht.typeIs,z6w ht hs pl pu (by rw [hlen];exact h0) (by rw [hlen];exact h1) ⟨.ref a,H,I,rfl,q⟩⟩
def slE (x:Dv) (lo hi:Option Int) (h:Hs):Rs Dv:=match x with
  | .ref j=>match getL h j with
    | some xs=>.ok (.ref h.length) (h++[.lst (cutD xs lo hi)])
    | none=>.bad
  | .tup xs=>.ok (.tup (cutD xs lo hi)) h
  | _=>.bad
theorem zdw {xs:List Dv} {lo hi:Option Int} (h0:HT.sIx xs.length 0 lo=0) (h1:HT.sIx xs.length xs.length hi=xs.length):cutD xs lo hi=xs:=by
  unfold cutD
  rw [h0,h1];simp
def mSlE (m:M Dv) (lo hi:MO):M Dv:=fun ρ h=>(m ρ h).bind fun x h1=>(lo ρ h1).bind fun l h2=>(hi ρ h2).bind fun u h3=>slE x l u h3
theorem zbb {lo hi:Option Expr} {ml mh:MO} (ho:Snd X G E o mo) (hl:SndO X G E lo ml) (hh:SndO X G E hi mh):Snd X G E (.Subscript o (.Slice lo hi none p2) pos) (mSlE mo ml mh):=fun hK=>
  PE.imp (zf3 (SlR.or (SlR.or zj4 zm7) zkl) (ho hK) (hl hK) (hh hK)) fun σ H Q ⟨μ,ρ,h,rs,s,oo⟩=>z0m rs s oo fun μ1 x h1 vx H1 x1 rs1 s1 r1 o1=>by
    refine ⟨μ1,ρ,h1,rs1,s1,(o1.bind (R1:=fun _ _ _ a b=>b=a)).mono fun l' H2 ⟨μ2,l,h2,x2,s2,el,o2⟩=>?_⟩
    subst el
    refine ⟨μ2,ρ,h2,rs1.mono x2,s2,(o2.bind (R1:=fun _ _ _ a b=>b=a)).mono fun u' H3 ⟨μ3,u,h3,x3,s3,eu,o3⟩=>?_⟩
    subst eu
    have r3:=RelD.mono (x2.trans x3) _ _ r1
    cases x with
    | ref j=>
      dsimp only [slE] at o3
      cases q:getL h3 j with
      | none=>rw [q] at o3;exact o3.elim
      | some xs=>
        rw [q] at o3
        obtain ⟨vs,ea,ra⟩:=s3.ob j _ (z0e q)
        obtain ⟨_,rfl⟩:=r3
        exact .inl (.inl ⟨_,vs,rfl,SqL.of ea,fun p hp=>z3m s3 (zcr ra _ _) hp o3⟩)
    | tup xs=>
      dsimp only [slE] at o3
      obtain ⟨a,vs,rfl,ea,ra⟩:=r3
      by_cases hw:HT.sIx xs.length 0 l'=0∧HT.sIx xs.length xs.length u'=xs.length
      · refine .inr ⟨a,vs,rfl,SqT.of ea,by rw [ra.length];exact hw.1,by rw [ra.length];exact hw.2,o3 μ3 _ _ Ext.refl s3 ?_⟩
        rw [zdw hw.1 hw.2]
        exact ⟨a,vs,rfl,ea,ra⟩
      · exact .inl (.inr ⟨a,vs,rfl,SqT.of ea,by rw [ra.length];exact hw,fun p hp=>o3 μ3 _ _ (Ext.same (z0a hp)) (s3.same (z0a hp)) ⟨p,_,rfl,z0b,RelDL.mono (Ext.same (z0a hp)) _ _ (zcr ra _ _)⟩⟩)
    | _=>exact o3.elim
def ltE (x y:Dv) (h:Hs):Rs Dv:=match x,y with
  | .int i,.int j=>.ok (.bl (decide (i<j))) h
  | .tup xs,.tup ys=>match optL intD xs,optL intD ys with
    | some ns,some ms=>.ok (.bl (HT.lexLt ns ms)) h
    | _,_=>.bad
  | _,_=>.bad
theorem za8:∀ x y:List Int,HT.lexLt x y=lexL x y
  | [],[]=>rfl
  | [],_::_=>rfl
  | _::_,[]=>rfl
  | a::x,b::y=>by
    rw [HT.lexLt_cons,lexL,za8 x y]
    by_cases h:a=b <;> simp [h]
theorem zig:OpD G (fun x y H Q=>(rI0 fun i j=>.bl (decide (i<j))) x y H Q∨rLtT G.K x y H Q) ltE:=by
  intro E μ h H x y vx vy Q s rx ry o
  unfold ltE at o
  split at o
  · rename_i i j
    exact .inl (z7i E μ h H (.int i) (.int j) vx vy Q s rx ry o)
  · rename_i xs ys
    cases q1:optL intD xs with
    | none=>rw [q1] at o;exact o.elim
    | some ns=>
      cases q2:optL intD ys with
      | none=>rw [q1,q2] at o;exact o.elim
      | some ms=>
        rw [q1,q2] at o
        obtain ⟨a,us,rfl,ea,ra⟩:=rx
        obtain ⟨b,ws,rfl,eb,rb⟩:=ry
        exact .inr ⟨a,b,ns,ms,rfl,rfl,SqT.of (by rw [ea,z3g ra q1]),SqT.of (by rw [eb,z3g rb q2]),o.val s rfl⟩
  · exact o.elim
theorem zno (g:Good X G E k) (ha:Snd X G E a ma) (hb:Snd X G E b mb):Snd X G E (.Compare a [.Lt] [b] pos) (m2 ltE ma mb):=fun hK=>
  z6f (OpR.or zm0 (zhn (by have:=g.room.un;omega))) (by rw [hK];exact zig) ha hb (z4d _) hK
theorem znp (g:Good X G E k) (ha:Snd X G E a ma) (hb:Snd X G E b mb):SndT X G E (.Compare a [.Lt] [b] pos) (mB (m2 ltE ma mb)):=fun hK=>
  z7h (OpR.or zm0 (zhn (by have:=g.room.un;omega))) (by rw [hK];exact zig) ha hb (z4d _) hK
theorem zdx:MtR X "list.index" (fun x xs H Q=>∃ (a:Addr) (ns:List Int) (k:Int) (j:Nat),x=.ref a∧xs=[.int k]∧H a=some (.lst (ns.map V.int))∧posI k ns=some j∧Q (.int j) H):=by
  intro pins s σ H x xs v us Q I rx rv ⟨a,ns,k,j,e1,e2,ha,hj,q⟩
  subst e1;subst e2
  cases rx
  obtain ⟨u,rfl,ru⟩:=z4e rv
  obtain ⟨t,rfl⟩:=ru
  obtain ⟨z,its,n,r,hl,e⟩:=I.lstM ha
  obtain ⟨h1,h2⟩:=zi8 hj
  have hi:=z7q r
  have hn:its.length=ns.length:=by have:=r.length;simp at this;omega
  have hjn:j<ns.length:=(List.getElem?_eq_some_iff.mp h1).1
  let eq:Value→Bool:=fun y=>match y with
    | .int m _=>m==k
    | _=>false
  have hat:∀ m,m<ns.length→∃ (n:Int) (tt:Tok),ns[m]?=some n∧its[m]?=some (.int n tt):=fun m hm=>by
    have e0:ns[m]?=some ns[m]:=List.getElem?_eq_getElem hm
    obtain ⟨tt,e1⟩:=zd5 hi e0
    exact ⟨_,tt,e0,e1⟩
  have val:∀ m (hm:m<its.toArray.size),∃ (n:Int) (tt:Tok),ns[m]?=some n∧its.toArray[m]=.int n tt:=fun m hm=>by
    have hm':m<ns.length:=by rw [List.size_toArray,hn] at hm;exact hm
    obtain ⟨n,tt,e0,e1⟩:=hat m hm'
    refine ⟨n,tt,e0, ?_⟩
    obtain ⟨hx,e2⟩:=List.getElem?_eq_some_iff.mp e1
    simpa using e2
  have hj':j<its.toArray.size:=by rw [List.size_toArray,hn];exact hjn
  refine call_meets PySem.F.slot_list_index ⟨_,e,rfl⟩ PySem.F.entry_list_index (PySem.F.args_list_index_2 _ _) (MeetsSeq.list_index a its.toArray n (.int k t) eq (fun y hy=>?_) j hj' ?_ ?_ ?_) ⟨e, ?_⟩
  · obtain ⟨m,hm,rfl⟩:=Array.getElem_of_mem hy
    obtain ⟨n,tt,_,e2⟩:=val m hm
    rw [e2]
    exact MeetsSeq.EqGives.int n k tt t
  · have:its.length≤sizeLine:=by omega
    rw [sizeLine_eq] at this
    omega
  · obtain ⟨n,tt,e0,e2⟩:=val j hj'
    rw [h1] at e0;cases e0
    rw [e2];simp [eq]
  · intro m hm hmj
    obtain ⟨n,tt,e0,e2⟩:=val m hm
    have hne:n≠k:=fun z=>h2 m hmj (by rw [e0,z])
    rw [e2];simpa [eq] using hne
  · exact ⟨.int j,H,I.tok _,⟨_,rfl⟩,q⟩
def idxL (x i:Dv) (h:Hs):Rs Dv:=match x,i with
  | .ref j,.int k=>match getL h j with
    | some xs=>match optL intD xs with
      | some ns=>match posI k ns with
        | some j=>.ok (.int j) h
        | none=>.bad
      | none=>.bad
    | none=>.bad
  | _,_=>.bad
def z2z (mo me:M Dv):M Dv:=fun ρ h=>(mo ρ h).bind fun x h1=>if isL x h1=true then (me ρ h1).bind fun d h2=>idxL x d h2 else .bad
theorem z2w (ho:Snd X G E (.Name y np) mo) (he:Snd X G E e me) (hs:starEach [e] X.env=[(false,eval e X.env)]:=by rfl) (hl:(apos.endLine==cpos.line)=true:=by rfl):Snd X G E (.Call (.Attribute (.Name y np) "index" apos) [e] [] cpos) (z2z mo me):=fun hK=>
  PE.imp (zf5 PySem.F.plainAttrs_list PySem.F.slot_list_index PySem.F.type_list_index zdx (ho hK) (z17 (he hK) z27 hs) rfl (by rw [hs];rfl) hl hs rfl) fun σ H Q ⟨μ,ρ,h,rs,s,oo⟩=>z0m rs s oo fun μ1 x h1 vx H1 x1 rs1 s1 r1 o1=>by
    split at o1
    · rename_i hl
      refine ⟨z9n s1 r1 hl,z0m rs1 s1 o1 fun μ2 d h2 vd H2 x2 rs2 s2 r2 o2=>?_⟩
      unfold idxL at o2
      split at o2
      · rename_i j k
        cases q:getL h2 j with
        | none=>rw [q] at o2;exact o2.elim
        | some xs=>
          rw [q] at o2
          dsimp only at o2
          cases q2:optL intD xs with
          | none=>rw [q2] at o2;exact o2.elim
          | some ns=>
            rw [q2] at o2
            dsimp only at o2
            cases q3:posI k ns with
            | none=>rw [q3] at o2;exact o2.elim
            | some i=>
              rw [q3] at o2
              obtain ⟨vs,ea,ra⟩:=s2.ob j _ (z0e q)
              obtain ⟨_,rfl⟩:=RelD.mono x2 _ _ r1
              rw [RelD] at r2;subst r2
              exact ⟨_,ns,k,i,rfl,rfl,by rw [ea,z3g ra q2],q3,o2.val s2 rfl⟩
      · exact o2.elim
    · exact o1.elim
def rngV (j:Int):List Int:=(List.range j.toNat).map fun k:Nat=>(k:Int)
theorem zdy:CallR X (.type "range") (fun xs H Q=>∃ j:Int,xs=[.int j]∧∀ l,H l=none→Q (.ref l) (upd H l (.rng 0 j))):=by
  intro pins s σ H xs us Q I rv ⟨j,e,q⟩
  subst e
  obtain ⟨u,rfl,ru⟩:=z4e rv
  obtain ⟨t,rfl⟩:=ru
  refine call_range_1 ⟨.ref s.heap.objs.size,_,I.laid (t':=s.toks+1+1) (o:=.rng 0 j) (fun b ob q=>Heap.get?_push_of_some _ q) (Nat.le_refl _) ⟨_,_,_,Heap.get?_push_size _ rfl⟩,rfl,q _ (I.hok.fresh (Nat.le_refl _))⟩
theorem z84 (rm:Room k X.A):CallR X (.type "list") (fun xs H Q=>∃ (l:Addr) (j:Int),xs=[.ref l]∧H l=some (.rng 0 j)∧0≤j∧j≤1000∧∀ D,H D=none→Q (.ref D) (upd H D (.lst ((rngV j).map V.int)))):=by
  intro pins s σ H xs us Q I rv ⟨l,j,e,hl,h0,h1,q⟩
  subst e
  obtain ⟨u,rfl,ru⟩:=z4e rv
  cases ru
  obtain ⟨t,u,v,hr⟩:=I.hok l _ hl
  refine call_list_range (n:=j.toNat) (a:=0) (b:=j) (c:=1) rm.hd hr (small_one (by omega) (by omega) (by omega) (by omega)) ?_ (by omega) fun h' tk acc c ke ho ia=>?_
  · rw [rangeSize_one]
    split <;> omega
  · have hv:Vals ((rngV j).map V.int) acc.toList:=by
      have:∀ (n:Nat) (as:List Value),as.length=n→(∀ (i:Nat) (v:Value),as[i]?=some v→∃ t,v=Value.int (0+(i:Int)*1) t)→Vals (((List.range n).map fun k:Nat=>(k:Int)).map V.int) as:=fun n=>by
        induction n with
        | zero=>
          intro as hl _
          rw [List.length_eq_zero_iff.mp hl];exact .nil
        | succ n ih=>
          intro as hl hi
          have hne:as≠[]:=fun z=>by rw [z] at hl;cases hl
          have e:=List.dropLast_concat_getLast hne
          rw [← e,List.range_succ,List.map_append,List.map_append]
          have hlast:as[n]?=some (as.getLast hne):=by
            rw [List.getLast_eq_getElem,List.getElem?_eq_getElem (by omega)]
            congr 2;omega
          obtain ⟨t,ht⟩:=hi n _ hlast
          refine Vals.append (ih as.dropLast (by simp [hl]) fun i v hv=>hi i v ?_) ?_
          · rw [List.getElem?_dropLast] at hv
            split at hv
            · exact hv
            · cases hv
          · refine .cons ?_ .nil
            show RelV (.int (n:Int)) _
            rw [ht]
            exact ⟨t,by simp⟩
      refine this j.toNat acc.toList (by simpa using ia.1) fun i v hv=>?_
      exact ia.2 i v (by simpa using hv)
    refine ⟨.ref s.heap.objs.size,_,I.laid (t':=tk) ke (Nat.le_refl _) (show ObjOk X.prog X.w _ _ _ (.lst ((rngV j).map V.int)) from ⟨?_,acc.toList,c,hv, ?_⟩),rfl,q _ (I.hok.fresh (Nat.le_refl _))⟩
    · rw [List.length_map,rngV,List.length_map,List.length_range,sizeLine_eq];omega
    · rw [ho]
def z2x:Dv→Hs→Rs Dv
  | .int j,h=>if (decide (0≤j)&&decide (j≤1000))=true then .ok (.ref h.length) (h++[.lst ((rngV j).map Dv.int)]) else .bad
  | _,_=>.bad
theorem zdz (g:Good X G E k) (hg:Gl X "list") (hm:X.mg "list" = none) (hg2:Gl X "range") (hm2:X.mg "range" = none) (ha:SndA X G E [e] mas)
    (he:starEach [e] X.env=[(false,eval e X.env)]:=by rfl) (he2:starEach [Expr.Call (.Name "range" p2) [e] [] pos2] X.env=[(false,eval (.Call (.Name "range" p2) [e] [] pos2) X.env)]:=by rfl):
    Snd X G E (.Call (.Name "list" p) [.Call (.Name "range" p2) [e] [] pos2] [] pos) (z05 (f1 z2x) mas):=fun hK=>
  PE.imp (z2o (z84 g.room) hg hm z9h (z17 (z2o zdy hg2 hm2 boot_range (ha hK) (by decide) (by decide) he rfl) z27 he2) (by decide) (by decide) he2 rfl) fun σ H Q ⟨μ,ρ,h,rs,s,o⟩=>by
    refine z19 rs s o fun μ1 ds h1 vs H1 x1 rs1 s1 r1 o1=>?_
    unfold f1 at o1
    split at o1
    · rename_i d
      obtain ⟨v,rfl,rv⟩:=z2q r1
      cases d with
      | int j=>
        dsimp only [z2x] at o1
        split at o1
        · rename_i h0
          rw [Bool.and_eq_true] at h0
          have j0:0≤j:=by simpa using h0.1
          have j1:j≤1000:=by simpa using h0.2
          rw [RelD] at rv;subst rv
          refine ⟨j,rfl,fun l hl=>?_⟩
          have sm:=z0a (o:=.rng 0 j) hl
          refine ⟨l,j,rfl,z0b,j0,j1,fun D hD=>?_⟩
          exact z3m (E:=E) (s1.same sm) (z2a _) hD (fun μ' H' v x'=>o1 μ' H' v ((Ext.same sm).trans x'))
        · exact o1.elim
      | _=>exact o1.elim
    · exact o1.elim
end
section
variable {mo me:M Dv} {ml mh:MO}
end
section
variable {X:Cx} {G:Cfg} {E:XK} {k:Nat} {e a b o:Expr} {es:List Expr} {mo me ma mb:M Dv} {mas:M (List Dv)} {p p2 pos pos2 apos cpos np:Pos} {y:Str}
theorem sub_tuple:isSubtype (.type "tuple") (.type "set")=pure false∧isSubtype (.type "tuple") (.type "frozenset")=pure false:=by
  constructor <;> (rw [isSubtype_type];kernel_rfl)
abbrev znq (X:Cx):List V→Hp→VK→Prop:=fun xs H Q=>∃ (p:Addr) (vs:List V) (ks:List (List Int)),xs=[.ref p]∧H p=some (.tup vs)∧TupsAre H vs ks∧(z1k lexL ks).length≤76∧∀ l o kb,H l=none→SetO X.prog X.w l o kb→KbOk H kb ks→Q (.ref l) (upd H l (.frz o (.own 0)))
theorem ze0 (rm:Room k X.A):CallR X (.type "set") (znq X):=by
  intro pins s σ H xs us Q I rv ⟨p,vs,ks,e,hp,ht,hU,q⟩
  subst e
  obtain ⟨u,rfl,ru⟩:=z4e rv
  cases ru
  obtain ⟨its,rits,pl,hz⟩:=I.tuple (SqT.of hp)
  have hits:=zdu ht rits
  have lp:=I.hok.lt hp
  have hI:s.heap.IsTuple p (z0g ks.length (adV vs)).toArray:=by rw [← hits];exact pl
  have hsz:(z0g ks.length (adV vs)).toArray.size=ks.length:=by rw [List.size_toArray,z1g]
  have hne:p≠s.heap.objs.size+1:=Nat.ne_of_lt (Nat.lt_succ_of_lt lp)
  have hb:(s.heap.push (bare X.w)).IsTuple p (z0g ks.length (adV vs)).toArray:=IsTup.push (items:=(z0g ks.length (adV vs)).toArray) hI _
  have hs1:(s.heap.push (bare X.w)).objs.size=s.heap.objs.size+1:=size_push' _ _
  have W:=Walks.tuple (prog:=X.prog) (w:=X.w) (A:=X.A.in1.in1.in1) (show X.A.in1.in1.in1.handled=none from rm.hd) (s.heap.objs.size+1) p hne (z0g ks.length (adV vs)).toArray
  rw [hsz] at W
  refine zif (T := "tuple") (it:={ cls:=.type "tuple_iterator",data:=.fields #[.ref p,.int 0 0] }) (adV vs) (fun i=>ks.getD i []) (z1k lexL ks) (by have:=rm.un;omega) hI.typeIs sub_tuple.1 sub_tuple.2 (by decide) (fun B Q' E' hQ=>?_) W (fun m=>?_) (fun b hb=>?_) ⟨⟨{ cls:=.type "tuple_iterator",data:=.fields #[.ref p,.int 0 0] }, ?_,rfl,rfl⟩,IsTup.push (items:=(z0g ks.length (adV vs)).toArray) hb _⟩ (fun i v hv=>?_) hU (fun i hi=>?_) (fun j hj=>zdt I (ht.at_ hj).2) fun h' tk kb hS hup k=>?_
  · refine wpAny_pyIter_tuple hb ?_
    rw [← hs1] at hQ;exact hQ
  · rcases List.mem_cons.mp m with z | m
    · exact Nat.succ_ne_self _ z.symm
    · exact Nat.ne_of_gt lp (List.mem_singleton.mp m)
  · rw [List.mem_singleton.mp hb];exact Nat.lt_succ_self _
  · rw [← hs1];exact Heap.get?_push_size _ rfl
  · have hi:i<ks.length:=by
      have:=(Array.getElem?_eq_some_iff.mp hv).1
      rwa [hsz] at this
    have:(z0g ks.length (adV vs))[i]?=some (.ref (adV vs i)):=by simp [z0g,hi]
    rw [List.getElem?_toArray,this] at hv
    exact (Option.some.inj hv).symm
  · refine (z1f stoL _ _).mpr ?_
    show ks.getD i []∈ks
    simp [hi]
  · obtain ⟨o,es,ep,t,P⟩:=hS
    refine ⟨.ref s.heap.objs.size,_,I.laid (t':=tk) (o:=.frz o (.own 0)) k (Nat.le_refl _) ⟨P.obj,o,P.obj⟩,rfl,q _ o kb (I.hok.fresh (Nat.le_refl _)) ⟨es,ep,t,fun h e=>P.at' e⟩ ⟨fun z hz=>?_,fun z hz=>?_,fun z hz=>?_⟩⟩
    · obtain ⟨j,hj,rfl⟩:=hup.from_ z hz
      exact (ht.at_ hj).2
    · obtain ⟨j,hj,rfl⟩:=hup.from_ z hz
      show ks.getD j []∈ks
      simp [hj]
    · obtain ⟨j,hj,rfl⟩:=List.getElem_of_mem hz
      have:=hup.all j hj
      simpa [hj] using this
theorem ze1 (rm:Room k X.A):CallR X (.type "set") (fun xs H Q=>znm X xs H Q∨znq X xs H Q):=by
  intro pins s σ H xs us Q I rv h
  rcases h with h | h
  · exact zdv rm pins s σ H xs us Q I rv h
  · exact ze0 rm pins s σ H xs us Q I rv h
def seqK (x:Dv) (h:Hs):Option (List (List Int)):=match x with
  | .ref i=>match getL h i with
    | some xs=>optL keyD xs
    | none=>none
  | .tup xs=>optL keyD xs
  | _=>none
def z1n (x:Dv) (h:Hs):Rs Dv:=match seqK x h with
  | some ks=>if (neK ks&&decide ((z1k lexL ks).length<64))=true then .ok (.ref h.length) (h++[.lst ((z1k lexL ks).map tupK)]) else .bad
  | none=>.bad
theorem z5y (g:Good X G E k) (hg:Gl X "sorted") (hm:X.mg "sorted" = none) (hg2:Gl X "set") (hm2:X.mg "set" = none) (ha:SndA X G E [e] mas)
    (he:starEach [e] X.env=[(false,eval e X.env)]:=by rfl) (he2:starEach [Expr.Call (.Name "set" p2) [e] [] pos2] X.env=[(false,eval (.Call (.Name "set" p2) [e] [] pos2) X.env)]:=by rfl):
    Snd X G E (.Call (.Name "sorted" p) [.Call (.Name "set" p2) [e] [] pos2] [] pos) (z05 (f1 z1n) mas):=fun hK=>
  PE.imp (z35 (z83 g.room) hg hm zg3 (z17 (z2o (ze1 g.room) hg2 hm2 zpb (ha hK) (by decide) (by decide) he rfl) z27 he2) (by decide) (by decide) he2 rfl) fun σ H Q ⟨μ,ρ,h,rs,s,o⟩=>by
    refine z19 rs s o fun μ1 ds h1 vs H1 x1 rs1 s1 r1 o1=>?_
    unfold f1 at o1
    split at o1
    · rename_i d
      obtain ⟨v,rfl,rv⟩:=z2q r1
      unfold z1n at o1
      cases q:seqK d h1 with
      | none=>rw [q] at o1;exact o1.elim
      | some ks=>
        rw [q] at o1
        dsimp only at o1
        split at o1
        · rename_i h0
          rw [Bool.and_eq_true] at h0
          have h64:(z1k lexL ks).length<64:=by simpa using h0.2
          have fin:∀ (l:Addr) (o:Obj) (kb:KB),H1 l=none→SetO X.prog X.w l o kb→KbOk H1 kb ks→za6 X [.ref l] (upd H1 l (.frz o (.own 0))) Q:=fun l o kb hl so ko=>by
            have sm:=z0a (o:=.frz o (.own 0)) hl
            refine ⟨l,o,kb,ks,rfl,z0b,so,⟨fun p hp=>sm _ _ (ko.tup p hp),ko.frm,ko.all⟩,znn h0.1,h64,fun D vs' hD ht=>?_⟩
            exact z3m (E:=E) (s1.same sm) (za7 ht) hD (fun μ' H' v x'=>o1 μ' H' v ((Ext.same sm).trans x'))
          cases d with
          | ref i=>
            dsimp only [seqK] at q
            cases q1:getL h1 i with
            | none=>rw [q1] at q;cases q
            | some xs=>
              rw [q1] at q
              obtain ⟨vs,e1,r2⟩:=s1.ob i _ (z0e q1)
              obtain ⟨_,rfl⟩:=rv
              exact .inl ⟨_,vs,ks,rfl,e1,z6v r2 q,by omega,fin⟩
          | tup xs=>
            obtain ⟨a,vs,rfl,e1,r2⟩:=rv
            exact .inr ⟨_,vs,ks,rfl,e1,z6v r2 q,by omega,fin⟩
          | _=>cases q
        · exact o1.elim
    · exact o1.elim
end
theorem za9 {α β:Type} {f g:α→Option β}:∀ l:List α,(∀ x∈l,f x=g x)→l.filterMap f=l.filterMap g
  | [],_=>rfl
  | x::l,h=>by
    rw [List.filterMap_cons,List.filterMap_cons,h x (by simp),za9 l fun y hy=>h y (by simp [hy])]
section
variable {X:Cx} {G:Cfg} {E:XK} {o:Expr} {mo:M Dv} {ms:MO} {se:Expr} {p2 pos:Pos}
end
end L2.Mr
namespace L2.Mr.Com
open PySem PySem.Spec PyProof.Rows L2 L2.Mr
def zgk:MS:=(mRet (z20 (m1 (isiD z5v) (mVar 0)) (m1 notD (m1 (isiD z2g) (mVar 0)))))
def F_qr:List Dv→Hs→Rs Dv:=z0i 1 1 (zgk)
def ze2:MS:=(mRet (z20 (z05 F_qr (z00 (mVar 0) mNil)) (z5n leD leD (mVar 1) (mVar 0) (mVar 2))))
def F_qg:List Dv→Hs→Rs Dv:=z0i 3 3 (ze2)
def zkm:MS:=(mRet (mL allF (z0v (mas zipS (z00 (mVar 0) (z00 (mSlE (mVar 0) (mBd (mC (.int 1))) mNoB) mNil))) [none,none] (sTup 2 (z0l (z03 0) (z0l (z03 1) sNil))) z26 (z0t (m2 ltE (mVar 0) (mVar 1))))))
def F_qm:List Dv→Hs→Rs Dv:=z0i 1 1 (zkm)
def zgl:MS:=(mRet (z05 F_qg (z00 (mVar 1) (z00 (mC (.int 0)) (z00 (m2 subD (mVar 0) (mC (.int 1))) mNil)))))
def F_qs:List Dv→Hs→Rs Dv:=z0i 2 2 (zgl)
def ze3:MS:=(mRet (z20 (m1 (isiD z23) (mVar 1)) (mL allF (z0v (m1s tupS (mVar 1)) [none,some 0] (z03 0) z26 (z0t (z05 F_qs (z00 (mVar 1) (z00 (mVar 0) mNil))))))))
def F_qh:List Dv→Hs→Rs Dv:=z0i 2 2 (ze3)
def z8y:MS:=(mRet (z20 (z05 F_qh (z00 (mVar 0) (z00 (mVar 1) mNil))) (m2 eqD (z05 (f1 len0) (z00 (mVar 1) mNil)) (mC (.int 2)))))
def F_qu:List Dv→Hs→Rs Dv:=z0i 2 2 (z8y)
def zgm:MS:=(mRet (mL allF (z0v (m1s tupS (mVar 1)) [none,some 0] (z03 0) z26 (z0t (z05 F_qu (z00 (mVar 1) (z00 (mVar 0) mNil)))))))
def F_qn:List Dv→Hs→Rs Dv:=z0i 2 2 (zgm)
def zkn:MS:=(mRet (mL anyF (z0v (m1s tupS (mVar 0)) [none,none] (sTup 2 (z0l (z03 0) (z0l (z03 1) sNil))) z26 (z0t (m2 eqD (mVar 0) (mVar 1))))))
def F_qo:List Dv→Hs→Rs Dv:=z0i 1 1 (zkn)
def zko:MS:=(mRet (mL allF (z0v (m1s tupS (mVar 0)) [none,none,none,none,some 0] (sTup 2 (z0l (z03 0) (z0l (z03 1) sNil))) z26 (z2f (m1s tupS (mVar 4)) (sTup 2 (z0l (z03 2) (z0l (z03 3) sNil))) (mB (m2 eqD (mVar 1) (mVar 2))) (z0t (m2 (in0 false) (mTup (z00 (mVar 0) (z00 (mVar 3) mNil))) (mVar 4)))))))
def F_qe:List Dv→Hs→Rs Dv:=z0i 1 1 (zko)
def z85:MS:=(mSeq (mIf (mOr (mNot (mTru (m1 (isiD z23) (mVar 0)))) (mB (m2 neD (z05 (f1 len0) (z00 (mVar 0) mNil)) (mC (.int 2))))) (mRet (mC (.bl false))) z0x) (mSeq (mAsg (mVar 0) (sTup 2 (z0l (z03 1) (z0l (z03 2) sNil)))) (mSeq (mIf (mOr (mNot (mTru (z05 F_qg (z00 (mVar 1) (z00 (mC (.int 1)) (z00 (mC (.int 6)) mNil)))))) (mNot (mTru (m1 (isiD z23) (mVar 2))))) (mRet (mC (.bl false))) z0x) (mSeq (mIf (mOr (mNot (mTru (z05 F_qn (z00 (mVar 1) (z00 (mVar 2) mNil))))) (mNot (mTru (z05 F_qm (z00 (mVar 2) mNil))))) (mRet (mC (.bl false))) z0x) (mRet (z20 (m1 notD (z05 F_qo (z00 (mVar 2) mNil))) (z05 F_qe (z00 (mVar 2) mNil))))))))
def F_qt:List Dv→Hs→Rs Dv:=z0i 1 3 (z85)
def zgn (scr:List Int):MS:=(mSeq (mIf (mB (m2 ltE (mVar 1) (z05 (f1 (lenD scr)) (z00 (mVar 0) mNil)))) (mRet (m2 (ixD scr) (mVar 0) (mVar 1))) z0x) (mRet (mC (.int 0))))
def F_qc (scr:List Int):List Dv→Hs→Rs Dv:=z0i 2 2 (zgn scr)
def zgo (scr:List Int):MS:=(mSeq (mAsg (z05 (F_qc scr) (z00 (mVar 0) (z00 (mVar 1) mNil))) (z03 2)) (mSeq (mIf (mB (m2 geD (mVar 2) (m2 powD (mC (.int 10)) (mC (.int 18))))) (mRet (mLst (z00 (m2 subD (mVar 2) (m2 powD (mC (.int 10)) (mC (.int 18)))) (z00 (mC (.bl true)) mNil)))) z0x) (mRet (mLst (z00 (m2 modD (mVar 2) (mC (.int 2147483647))) (z00 (mC (.bl false)) mNil))))))
def F_qk (scr:List Int):List Dv→Hs→Rs Dv:=z0i 2 3 (zgo scr)
def zgp:MS:=(mSeq (mIf (mTru (m2 ix0 (mVar 0) (mC (.int 1)))) (mSeq (mAsg (m2 modD (m2 ix0 (mVar 0) (mC (.int 0))) (mVar 1)) (z03 2)) (mSeq (z7k (mVar 0) (mC (.int 0)) (m2 zd3 (m2 ix0 (mVar 0) (mC (.int 0))) (mVar 1))) (mRet (mVar 2)))) z0x) (mSeq (z7k (mVar 0) (mC (.int 0)) (m2 modD (m2 addE (m2 mulD (m2 ix0 (mVar 0) (mC (.int 0))) (mC (.int 48271))) (mC (.int 29))) (mC (.int 2147483647)))) (mSeq (mAsg (m2 modD (m2 addE (m2 addE (m2 mulD (m2 ix0 (mVar 0) (mC (.int 0))) (m2 ix0 (mVar 0) (mC (.int 0)))) (m2 mulD (mC (.int 39373)) (m2 ix0 (mVar 0) (mC (.int 0))))) (mC (.int 7))) (mC (.int 2147483629))) (z03 3)) (mSeq (mAsg (m2 modD (m2 addE (m2 mulD (mVar 3) (mVar 3)) (m2 mulD (mC (.int 16807)) (mVar 3))) (mC (.int 2147483587))) (z03 3)) (mRet (m2 modD (m2 zd3 (mVar 3) (mC (.int 8))) (mVar 1)))))))
def F_qp:List Dv→Hs→Rs Dv:=z0i 2 4 (zgp)
def zgq:MS:=(mSeq (mAsg (z05 (f1 z4y) (z00 (mVar 1) mNil)) (z03 2)) (mSeq (mAsg (mLst mNil) (z03 3)) (mSeq (z1w (mB (m2 neD (mVar 2) (mLst mNil))) (z1s (mApp (mVar 3) (mPop (mVar 2) (z05 F_qp (z00 (mVar 0) (z00 (z05 (f1 len0) (z00 (mVar 2) mNil)) mNil)))))) 40) (mRet (mVar 3)))))
def F_qa:List Dv→Hs→Rs Dv:=z0i 2 4 (zgq)
def zgr:MS:=(mSeq (mAsg (z05 (f1 z1n) (z00 (mVar 0) mNil)) (z03 1)) (z1w (mTru (mC (.bl true))) (mSeq (mAsg (z05 (f1 z4y) (z00 (mVar 1) mNil)) (z03 2)) (mSeq (mFor (m1s lstD (mVar 1)) (sTup 2 (z0l (z03 3) (z0l (z03 4) sNil))) (z1s (mExt (mVar 2) (z0v (m1s lstD (mVar 1)) [none,none,some 3,some 4] (sTup 2 (z0l (z03 0) (z0l (z03 1) sNil))) (mB (m2 eqD (mVar 3) (mVar 0))) (z0t (mTup (z00 (mVar 2) (z00 (mVar 1) mNil)))))))) (mSeq (mAsg (z05 (f1 z1n) (z00 (mVar 2) mNil)) (z03 2)) (mSeq (mIf (mB (m2 eqD (mVar 2) (mVar 1))) (mRet (mVar 1)) z0x) (mAsg (mVar 2) (z03 1)))))) 40))
def F_qf:List Dv→Hs→Rs Dv:=z0i 1 5 (zgr)
def zgs:MS:=(mSeq (mAsg (m2 subD (mVar 1) (m2 ix0 (mLst (z00 (mC (.int 0)) (z00 (mC (.int 0)) (z00 (mC (.int 1)) (z00 (mC (.int 2)) (z00 (mC (.int 0)) (z00 (mC (.int 3)) (z00 (mC (.int 1)) (z00 (mC (.int 4)) mNil))))))))) (z05 F_qp (z00 (mVar 0) (z00 (mC (.int 8)) mNil))))) (z03 2)) (mSeq (mAsg (z05 z6h (z00 (mC (.int 1)) (z00 (mVar 2) mNil))) (z03 2)) (mSeq (mAsg (z05 F_qa (z00 (mVar 0) (z00 (z05 (f1 z2x) (z00 (mVar 2) mNil)) mNil))) (z03 3)) (mSeq (mAsg (z05 F_qp (z00 (mVar 0) (z00 (mC (.int 5)) mNil))) (z03 4)) (mSeq (mAsg (mLst mNil) (z03 5)) (mSeq (mAsg (mAl (z0v (m1s lstD (mVar 3)) [none,some 0] (z03 0) z26 (z0t (z05 F_qp (z00 (mVar 1) (z00 (mC (.int 3)) mNil)))))) (z03 6)) (mSeq (mFor (mas z1a (z00 (mVar 2) mNil)) (z03 7) (mFor (mas z8k (z00 (m2 addE (mVar 7) (mC (.int 1))) (z00 (mVar 2) mNil))) (z03 8) (mSeq (mAsg (mLst (z00 (m2 eqD (z05 F_qp (z00 (mVar 0) (z00 (mC (.int 6)) mNil))) (mC (.int 0))) (z00 (m2 eqD (z05 F_qp (z00 (mVar 0) (z00 (mC (.int 2)) mNil))) (mC (.int 0))) (z00 (m2 gtD (z05 F_qp (z00 (mVar 0) (z00 (mC (.int 4)) mNil))) (mC (.int 0))) mNil)))) (z03 9)) (mSeq (mAsg (m2 addE (mVar 9) (mLst (z00 (m2 ltE (m2 ix0 (mVar 6) (mVar 7)) (m2 ix0 (mVar 6) (mVar 8))) (z00 (m2 eqD (m2 ix0 (mVar 6) (mVar 7)) (m2 ix0 (mVar 6) (mVar 8))) mNil)))) (z03 9)) (mIf (mTru (m2 ix0 (mVar 9) (mVar 4))) (z1s (mApp (mVar 5) (mTup (z00 (m2 ix0 (mVar 3) (mVar 7)) (z00 (m2 ix0 (mVar 3) (mVar 8)) mNil))))) z0x))))) (mSeq (mIf (mB (m2 eqD (mVar 4) (mC (.int 3)))) (mSeq (mAsg (mLst mNil) (z03 5)) (mFor (mas z1a (z00 (mVar 2) mNil)) (z03 7) (mAsg (m2 addE (mVar 5) (mAl (z0v (mas z1a (z00 (mVar 2) mNil)) [none,some 7,some 6] (z03 0) (mB (m2 ltE (m2 ix0 (mVar 2) (mVar 1)) (m2 ix0 (mVar 2) (mVar 0)))) (z0t (mTup (z00 (mVar 1) (z00 (mVar 0) mNil))))))) (z03 5)))) z0x) (mRet (mTup (z00 (mVar 2) (z00 (z05 (f1 z2k) (z00 (z05 F_qf (z00 (mVar 5) mNil)) mNil)) mNil))))))))))))
def F_ql:List Dv→Hs→Rs Dv:=z0i 2 10 (zgs)
def zgt:MS:=(mSeq (mAsg (mLst (z00 (mC .non) (z00 (mC (.int 0)) (z00 (mTup mNil) (z00 (mTup (z00 (mC (.int 0)) (z00 (mTup mNil) mNil))) (z00 (mTup (z00 (mC (.int 7)) (z00 (mTup mNil) mNil))) (z00 (mTup (z00 (mC (.bl true)) (z00 (mTup mNil) mNil))) (z00 (mTup (z00 (mC (.int 2)) (z00 (mLst mNil) mNil))) (z00 (mLst (z00 (mC (.int 2)) (z00 (mTup mNil) mNil))) (z00 (mTup (z00 (mC (.int 2)) (z00 (mTup (z00 (mTup (z00 (mC (.int 0)) (z00 (mC (.int 1)) mNil))) (z00 (mTup (z00 (mC (.int 0)) (z00 (mC (.int 1)) mNil))) mNil))) mNil))) (z00 (mTup (z00 (mC (.int 2)) (z00 (mTup (z00 (mTup (z00 (mC (.int 1)) (z00 (mC (.int 0)) mNil))) (z00 (mTup (z00 (mC (.int 0)) (z00 (mC (.int 1)) mNil))) mNil))) mNil))) mNil))))))))))) (z03 1)) (mSeq (mAsg (m2 addE (mVar 1) (mLst (z00 (mTup (z00 (mC (.int 3)) (z00 (mTup (z00 (mTup (z00 (mC (.int 0)) (z00 (mC (.int 1)) mNil))) (z00 (mTup (z00 (mC (.int 1)) (z00 (mC (.int 2)) mNil))) mNil))) mNil))) (z00 (mTup (z00 (mC (.int 2)) (z00 (mTup (z00 (mTup (z00 (mC (.int 0)) (z00 (mC (.int 0)) mNil))) mNil)) mNil))) (z00 (mTup (z00 (mC (.int 2)) (z00 (mTup (z00 (mTup (z00 (mC (.int 0)) (z00 (mC (.int 2)) mNil))) mNil)) mNil))) (z00 (mTup (z00 (mC (.int 2)) (z00 (mTup (z00 (mTup (z00 (mC (.int 0)) (z00 (mC (.bl true)) mNil))) mNil)) mNil))) (z00 (mTup (z00 (mC (.int 2)) (z00 (mTup (z00 (mTup (z00 (mC (.int 0)) (z00 (mC (.int 1)) (z00 (mC (.int 1)) mNil)))) mNil)) mNil))) (z00 (mC .edc) mNil)))))))) (z03 1)) (mSeq (mAsg (m2 addE (mVar 1) (mLst (z00 (mC (.str "2:")) (z00 (mTup (z00 (mC (.int 2)) (z00 (mTup (z00 (mC (.int 0)) (z00 (mC (.int 1)) mNil))) mNil))) (z00 (mTup (z00 (mC (.int 3)) (z00 (mTup (z00 (mTup (z00 (mC (.int 0)) (z00 (mC (.int 2)) mNil))) (z00 (mTup (z00 (mC (.int 0)) (z00 (mC (.int 1)) mNil))) mNil))) mNil))) (z00 (mTup (z00 (mC (.int 2)) (z00 (mC .non) mNil))) (z00 (mTup (z00 (mC (.int 2)) (z00 (mTup mNil) (z00 (mTup mNil) mNil)))) (z00 (mTup (z00 (mC (.int 2)) mNil)) (z00 (mTup (z00 (mC (.int 2)) (z00 (mTup (z00 (mLst (z00 (mC (.int 0)) (z00 (mC (.int 1)) mNil))) mNil)) mNil))) (z00 (mTup (z00 (mC (.int 2)) (z00 (mTup (z00 (mC .non) mNil)) mNil))) mNil)))))))))) (z03 1)) (mRet (m2 ix0 (mVar 1) (z05 F_qp (z00 (mVar 0) (z00 (mC (.int 24)) mNil))))))))
def F_qb:List Dv→Hs→Rs Dv:=z0i 1 2 (zgt)
def zgu (Fs:List Dv→Hs→Rs Dv):MS:=(mSeq (mIf (mTru (m1 (isiD zcw) (mVar 1))) (mSeq (mIf (mOr (mB (m2 neD (m1 (isiD z23) (mVar 0)) (m1 (isiD z23) (mVar 1)))) (mB (m2 neD (m1 (isiD z7o) (mVar 0)) (m1 (isiD z7o) (mVar 1))))) (mRet (mC (.bl false))) z0x) (mSeq (mIf (mB (m2 neD (z05 (f1 len0) (z00 (mVar 0) mNil)) (z05 (f1 len0) (z00 (mVar 1) mNil)))) (mRet (mC (.bl false))) z0x) (mRet (mL allF (z0v (mas zipS (z00 (mVar 0) (z00 (mVar 1) mNil))) [none,none] (sTup 2 (z0l (z03 0) (z0l (z03 1) sNil))) z26 (z0t (z05 Fs (z00 (mVar 0) (z00 (mVar 1) mNil))))))))) z0x) (mRet (z20 (m2 eqD (mVar 0) (mVar 1)) (m2 eqD (m1 (isiD z2g) (mVar 0)) (m1 (isiD z2g) (mVar 1))))))
def F_qq:Nat→List Dv→Hs→Rs Dv
  | 0=>fun _ _=>.bad
  | n+1=>z0i 2 2 (zgu (F_qq n))
end L2.Mr.Com
namespace L2.Mr
open PySem PySem.Spec PyProof.Rows L2
def mPar (i j:Nat) (ma:M (List Dv)):MS:=fun ρ h=>(ma ρ h).thenS fun ds h1=>match ds with
  | [a,b]=>.nx ((ρ.set i (some a)).set j (some b)) h1
  | _=>.bad
section
variable {X:Cx} {G:Cfg} {E:XK} {pos:Pos}
end
def mBad:M Dv:=fun _ _=>.bad
def cstL (f:Expr→M Dv):List Expr→M (List Dv)
  | []=>mNil
  | e::es=>z00 (f e) (cstL f es)
def cst (lk:Str→Option Nat):Nat→Expr→M Dv
  | 0,_=>mBad
  | n+1,e=>match e with
    | .Constant c _ _=>match c with
      | .int i=>mC (.int i)
      | .bool b=>mC (.bl b)
      | .none=>mC .non
      | .str x=>mC (.str x)
      | _=>mBad
    | .Tuple es _ _=>mTup (cstL (cst lk n) es)
    | .List es _=>mLst (cstL (cst lk n) es)
    | .Dict [] [] _=>mC .edc
    | .Name x _=>match lk x with
      | some i=>mVar i
      | none=>mBad
    | .UnaryOp .USub a _=>m1 negD (cst lk n a)
    | _=>mBad
def zih (e:Expr):Prop:=∀ es env,starEach (e::es) env=(false,eval e env)::starEach es env
section
variable {X:Cx} {G:Cfg} {E:XK} {lk:Str→Option Nat}
theorem z4a {e:Expr}:Snd X G E e mBad:=fun _ pins s σ H Q _ ⟨_,_,_,_,_,o⟩=>o.elim
theorem zkp {e:Expr} {es:List Expr} {ms:M (List Dv)}:SndA X G E (e::es) (z00 mBad ms):=fun _ pos pins s σ H Q _ ⟨_,_,_,_,_,o⟩=>o.elim
theorem z8z {f:Expr→M Dv} (hf:∀ e,Snd X G E e (f e)∧(zih e∨f e=mBad)):∀ es,SndA X G E es (cstL f es)
  | []=>z06
  | e::es=>by
    obtain ⟨a,b | b⟩:=hf e
    · exact z02 a (z8z hf es) (b es X.env)
    · show SndA X G E (e::es) (z00 (f e) _)
      rw [b]
      exact zkp
theorem zaa (hv:∀ x i pos,lk x=some i→Snd X G E (.Name x pos) (mVar i)):∀ n e,Snd X G E e (cst lk n e)∧(zih e∨cst lk n e=mBad)
  | 0,_=>⟨z4a,.inr rfl⟩
  | n+1,e=>by
    unfold cst
    split
    · split
      · exact ⟨z07,.inl fun _ _=>rfl⟩
      · exact ⟨z1u,.inl fun _ _=>rfl⟩
      · exact ⟨z8g,.inl fun _ _=>rfl⟩
      · exact ⟨z4j,.inl fun _ _=>rfl⟩
      · exact ⟨z4a,.inr rfl⟩
    · exact ⟨z1r (z8z (zaa hv n) _),.inl fun _ _=>rfl⟩
    · exact ⟨z1e (z8z (zaa hv n) _),.inl fun _ _=>rfl⟩
    · exact ⟨zk0,.inl fun _ _=>rfl⟩
    · rename_i x pos
      split
      · rename_i i q
        exact ⟨hv x i pos q,.inl fun _ _=>rfl⟩
      · exact ⟨z4a,.inr rfl⟩
    · exact ⟨zn0 (zaa hv n _).1,.inl fun _ _=>rfl⟩
    · exact ⟨z4a,.inr rfl⟩
theorem z90 (n:Nat) {e:Expr} {m:M Dv} (h:cst (fun _=>none) n e=m:=by rfl):Snd X G E e m:=h▸(zaa (fun _ _ _ h=>by cases h) n e).1
end
structure SW (X:Cx) (G:Cfg) (E:XK) (st:Stmt) (m:MS):Prop where
  ok:SndS X G E st m
structure SWs (X:Cx) (G:Cfg) (E:XK) (st:List Stmt) (m:MS):Prop where
  ok:z3p X G E st m
section
variable {X:Cx} {G:Cfg} {E:XK} {st:Stmt} {rest:List Stmt} {m u:MS} {pos:Pos}
theorem z6x (a:SW X G E st m) (b:SWs X G E rest u):SWs X G E (st::rest) (mSeq m u):=⟨z08 a.ok b.ok⟩
theorem zkq (a:SW X G E st m):SWs X G E [st] m:=⟨z0f a.ok⟩
theorem zkr (n:Nat) {i:Nat} {x:Str} {pos':Pos} {e:Expr} {me:M Dv} (hN:X.N.Nodup) (hi:X.N[i]?=some x) (hx:Loc X.env.scope x) (h:cst (fun _=>none) n e=me:=by rfl) (hs:swapsWith e (some (.Name x pos')) pos.line X.env=pure false:=by rfl) (hf:X.fn x=true∨X.env.scope.names.lookup x=some .local:=by first | exact .inl rfl | exact .inr rfl | assumption):
    SW X G E (.Assign [.Name x pos'] e pos) (mAsg me (z03 i)):=⟨z0u hN hi hx (z90 n h) hs hf⟩
theorem ze4 (n:Nat) {i:Nat} {x:Str} {pos' p2 p3:Pos} {e:Expr} {me:M Dv} (hN:X.N.Nodup) (hi:X.N[i]?=some x) (hx:Loc X.env.scope x) (hv:Snd X G E (.Name x p2) (mVar i)) (h:cst (fun _=>none) n e=me:=by rfl) (hs:swapsWith (.BinOp (.Name x p2) .Add e p3) (some (.Name x pos')) pos.line X.env=pure false:=by rfl) (hf:X.fn x=true∨X.env.scope.names.lookup x=some .local:=by first | exact .inl rfl | exact .inr rfl | assumption):
    SW X G E (.Assign [.Name x pos'] (.BinOp (.Name x p2) .Add e p3) pos) (mAsg (m2 addE (mVar i) me) (z03 i)):=⟨z0u hN hi hx (z2t hv (z90 n h)) hs hf⟩
end
section
variable {P:Program} {w:World} {K:PySem.W.Frag} {mg:Str→Option Value} {base:Heap} {G:Cfg} {N:List Str} {f:Addr} {k:Nat}
theorem zks {x qual:Str} {st:Stmt} {fd:FuncData} {ps:List Str} {mb:MS} (Fn:Fun K x qual st f fd) (S:FnScope N ps (z04 st)) (hK:K=G.K)
    (hbody:∀ (cdv:Value) (A:Around) (outer:List Env) (s:Shared) (H:Hp) (E₀ E:XK),Good (cxOf (CXm P w base) P w K mg base N qual (z04 st) f cdv A outer s H E₀) G E k→SWs (cxOf (CXm P w base) P w K mg base N qual (z04 st) f cdv A outer s H E₀) G E (z1q st) mb):
    FnOk P w K mg base (CXm P w base) (k+1) f fd ps (spOf G (z0i ps.length N.length mb)):=z1b Fn S hK fun cdv A outer s H E₀ E g=>(hbody cdv A outer s H E₀ E g).ok
end
end L2.Mr
namespace L2.Mr.K81
open PySem PySem.Spec PyProof.Rows L2 L2.Mr L2.Mr.Com
def tblV:List (Nat×Bool):=[(0,true),(4,true),(7,true)]
def tbl0:List (Nat×Bool):=[(0,true),(4,false),(7,false)]
def tbl1:List (Nat×Bool):=[(0,false),(4,false),(7,false)]
def tbl2:List (Nat×Bool):=[(0,false),(4,false),(7,false)]
def tbl3:List (Nat×Bool):=[(0,false),(4,false),(7,false)]
def tbl4:List (Nat×Bool):=[(0,false),(4,true),(7,false)]
def tbl5:List (Nat×Bool):=[(0,false),(4,false),(7,false)]
def tbl6:List (Nat×Bool):=[(0,false),(4,false),(7,false)]
def tbl7:List (Nat×Bool):=[(0,false),(4,false),(7,true)]
def tbl8:List (Nat×Bool):=[(0,false),(4,false),(7,false)]
def tbl9:List (Nat×Bool):=[(0,false),(4,false),(7,false)]
def tbl10:List (Nat×Bool):=[(0,false),(4,false),(7,false)]
def zgv:MS:=(mIf (mNot (mTru (z05 F_qt (z00 (mVar 0) mNil)))) (z40 0 (z00 (mC (.str "this is no order")) mNil)) z0x)
def F_qi:List Dv→Hs→Rs Dv:=z0i 1 1 (zgv)
def ze5:MS:=(mSeq (z1s (z05 F_qi (z00 (mVar 0) mNil))) (mIf (mNot (mTru (z05 F_qs (z00 (m2 ix0 (mVar 0) (mC (.int 0))) (z00 (mVar 1) mNil))))) (z40 4 (z00 (mC (.str "this is no thing of the order")) mNil)) z0x))
def F_qj:List Dv→Hs→Rs Dv:=z0i 2 2 (ze5)
def z91:MS:=(mSeq (z1s (z05 F_qj (z00 (mVar 0) (z00 (mVar 1) mNil)))) (mSeq (mAsg (mVar 0) (sTup 2 (z0l (z03 2) (z0l (z03 3) sNil)))) (mSeq (mIf (mB (m2 eqD (mVar 2) (mC (.int 1)))) (z40 7 (z00 (mC (.str "an order has at least one thing")) mNil)) z0x) (mSeq (mAsg (mAl (z0v (mas z1a (z00 (mVar 2) mNil)) [none,some 1] (z03 0) (mB (m2 neD (mVar 0) (mVar 1))) (z0t (mVar 0)))) (z03 4)) (mRet (mTup (z00 (m2 subD (mVar 2) (mC (.int 1))) (z00 (mL tupF (z0v (m1s tupS (mVar 3)) [none,none,some 4,some 1] (sTup 2 (z0l (z03 0) (z0l (z03 1) sNil))) (mB (m2 (in0 true) (mVar 3) (mTup (z00 (mVar 0) (z00 (mVar 1) mNil))))) (z0t (mTup (z00 (z2z (mVar 2) (mVar 0)) (z00 (z2z (mVar 2) (mVar 1)) mNil)))))) mNil))))))))
def F_qv:List Dv→Hs→Rs Dv:=z0i 2 5 (z91)
def z33:MS:=(mSeq (mAsg (mLst (z00 (m1 (isiD (z0z none tbl0)) (mVar 1)) (z00 (m1 (isiD (z0z none tbl1)) (mVar 1)) (z00 (m1 (isiD (z0z none tbl2)) (mVar 1)) mNil)))) (z03 3)) (mSeq (mAsg (m2 addE (mVar 3) (mLst (z00 (m1 (isiD (z0z none tbl3)) (mVar 1)) (z00 (m1 (isiD (z0z none tbl4)) (mVar 1)) (z00 (m1 (isiD (z0z none tbl5)) (mVar 1)) mNil))))) (z03 3)) (mSeq (mAsg (m2 addE (mVar 3) (mLst (z00 (m1 (isiD (z0z none tbl6)) (mVar 1)) (z00 (m1 (isiD (z0z none tbl7)) (mVar 1)) (z00 (m1 (isiD (z0z none tbl8)) (mVar 1)) mNil))))) (z03 3)) (mSeq (mAsg (m2 addE (mVar 3) (mLst (z00 (m1 (isiD (z0z none tbl9)) (mVar 1)) (z00 (m1 (isiD (z0z none tbl10)) (mVar 1)) mNil)))) (z03 3)) (mSeq (mIf (mNot (mTru (m1 (isiD (z0z none tblV)) (mVar 1)))) (mRet (mC .non)) z0x) (mRet (mAl (z0v (mas z1a (z00 (mC (.int 11)) mNil)) [none,some 3] (z03 0) (mTru (m2 ix0 (mVar 1) (mVar 0))) (z0t (mVar 0))))))))))
def z55:M Dv:=(z05 F_qv (z00 (mVar 0) (z00 (mVar 1) mNil)))
def z56:M Dv:=(z05 F_qv (z00 (mVar 0) (z00 (mVar 1) mNil)))
def z57:M Dv:=(z05 F_qv (z00 (mVar 0) (z00 (mVar 1) mNil)))
def zgw (scr:List Int):MS:=(mSeq (mAsg (z05 (F_qk scr) (z00 (mVar 0) (z00 (mVar 1) mNil))) (z03 2)) (mSeq (mAsg (z05 F_ql (z00 (mVar 2) (z00 (mC (.int 6)) mNil))) (z03 3)) (mSeq (mFor (mas z1a (z00 (m2 ix0 (mVar 3) (mC (.int 0))) mNil)) (z03 4) (mSeq (mAsg (mAl (z0v (mas z1a (z00 (m2 ix0 (mVar 3) (mC (.int 0))) mNil)) [none,some 4] (z03 0) (mB (m2 neD (mVar 0) (mVar 1))) (z0t (mVar 0)))) (z03 5)) (mSeq (mAsg (mAl (z0v (m1s tupS (m2 ix0 (mVar 3) (mC (.int 1)))) [none,none,some 5,some 4] (sTup 2 (z0l (z03 0) (z0l (z03 1) sNil))) (mB (m2 (in0 true) (mVar 3) (mTup (z00 (mVar 0) (z00 (mVar 1) mNil))))) (z0t (mTup (z00 (z2z (mVar 2) (mVar 0)) (z00 (z2z (mVar 2) (mVar 1)) mNil)))))) (z03 6)) (mIf (mB (m2 eqD (m2 ix0 (mVar 3) (mC (.int 0))) (mC (.int 1)))) (mIf (mB (m2 neD (mRef [3,4] 4 11 z33 z55) (mLst (z00 (mC (.int 7)) mNil)))) (mRet (mC (.bl false))) z0x) (mIf (mNot (mTru (z05 (F_qq 6) (z00 (z05 F_qv (z00 (mVar 3) (z00 (mVar 4) mNil))) (z00 (mTup (z00 (m2 subD (m2 ix0 (mVar 3) (mC (.int 0))) (mC (.int 1))) (z00 (z05 (f1 z2k) (z00 (mVar 6) mNil)) mNil))) mNil))))) (mRet (mC (.bl false))) z0x))))) (mSeq (mAsg (m2 ix0 (mLst (z00 (m2 ix0 (mVar 3) (mC (.int 0))) (z00 (m1 negD (mC (.int 1))) (z00 (mC (.bl true)) (z00 (mC .non) (z00 (mC (.str "0")) (z00 (mTup (z00 (mC (.int 0)) mNil)) (z00 (m2 powD (mC (.int 10)) (mC (.int 29))) mNil)))))))) (z05 F_qp (z00 (mVar 2) (z00 (mC (.int 7)) mNil)))) (z03 7)) (mSeq (mAsg (z05 F_qb (z00 (mVar 2) mNil)) (z03 8)) (mSeq (mIf (mB (m2 neD (mRef [3,7] 4 11 z33 z56) (mLst (z00 (mC (.int 4)) mNil)))) (mRet (mC (.bl false))) z0x) (mIf (mB (m2 neD (mRef [8,7] 4 11 z33 z57) (mLst (z00 (mC (.int 0)) mNil)))) (mRet (mC (.bl false))) z0x)))))))
def ml0 (scr:List Int):MS:=(mFor (mas z1a (z00 (z05 z6h (z00 (mC (.int 1)) (z00 (z05 zay (z00 (z05 (f1 (lenD scr)) (z00 (mVar 0) mNil)) (z00 (mC (.int 10)) mNil))) mNil))) mNil)) (z03 1) (zgw scr))
def ml1:MS:=(mRet (mC (.bl true)))
def zgx (scr:List Int):MS:=(mSeq (ml0 scr) ml1)
def F_qw (scr:List Int):List Dv→Hs→Rs Dv:=z0i 1 9 (zgx scr)
def top (i:Nat):Stmt:=PySem.Challenge.pw_nearorders_k81_a_thing_taken_away.main.body.getD i (.Pass ⟨0,0,0,0⟩)
abbrev s_qr:Stmt:=top 14
abbrev s_qg:Stmt:=top 15
abbrev s_qm:Stmt:=top 16
abbrev s_qs:Stmt:=top 19
abbrev s_qh:Stmt:=top 20
abbrev s_qu:Stmt:=top 21
abbrev s_qn:Stmt:=top 22
abbrev s_qo:Stmt:=top 23
abbrev s_qe:Stmt:=top 24
abbrev s_qt:Stmt:=top 25
abbrev s_qi:Stmt:=top 26
abbrev s_qj:Stmt:=top 27
abbrev s_qv:Stmt:=top 29
abbrev s_qc:Stmt:=top 31
abbrev s_qk:Stmt:=top 32
abbrev s_qp:Stmt:=top 33
abbrev s_qa:Stmt:=top 34
abbrev s_qf:Stmt:=top 35
abbrev s_ql:Stmt:=top 36
abbrev s_qb:Stmt:=top 37
abbrev s_qq:Stmt:=top 38
abbrev s_qd:Stmt:=top 39
abbrev s_qw:Stmt:=top 40
structure Ad where
  f_qr:Addr
  fd_qr:FuncData
  f_qg:Addr
  fd_qg:FuncData
  f_qm:Addr
  fd_qm:FuncData
  f_qs:Addr
  fd_qs:FuncData
  f_qh:Addr
  fd_qh:FuncData
  f_qu:Addr
  fd_qu:FuncData
  f_qn:Addr
  fd_qn:FuncData
  f_qo:Addr
  fd_qo:FuncData
  f_qe:Addr
  fd_qe:FuncData
  f_qt:Addr
  fd_qt:FuncData
  f_qi:Addr
  fd_qi:FuncData
  f_qj:Addr
  fd_qj:FuncData
  f_qv:Addr
  fd_qv:FuncData
  f_qc:Addr
  fd_qc:FuncData
  f_qk:Addr
  fd_qk:FuncData
  f_qp:Addr
  fd_qp:FuncData
  f_qa:Addr
  fd_qa:FuncData
  f_qf:Addr
  fd_qf:FuncData
  f_ql:Addr
  fd_ql:FuncData
  f_qb:Addr
  fd_qb:FuncData
  f_qq:Addr
  fd_qq:FuncData
  f_qd:Addr
  fd_qd:FuncData
  f_qw:Addr
  fd_qw:FuncData
  c_NoOrder:Addr
  c_NoNumber:Addr
  c_NoPairs:Addr
  c_Round:Addr
  c_NoThing:Addr
  c_NoRow:Addr
  c_TooMany:Addr
  c_TooFew:Addr
  c_NoText:Addr
  c_NoLine:Addr
  c_NoDeed:Addr
  t_MOST_THINGS:Tok
  NE:Addr
  cc:Addr
  P:Addr
structure Tx (K:PySem.W.Frag) (mg:Str→Option Value) (G:Cfg) (A:Ad):Prop where
  hK:K=G.K
  F_qr:Fun K "is_whole" "is_whole" s_qr A.f_qr A.fd_qr
  B_qr:Binds K A.fd_qr ["thing"] []
  m_qr:mg "is_whole" = some (.ref A.f_qr)
  F_qg:Fun K "is_between" "is_between" s_qg A.f_qg A.fd_qg
  B_qg:Binds K A.fd_qg ["thing","low","high"] []
  m_qg:mg "is_between" = some (.ref A.f_qg)
  F_qm:Fun K "is_rising" "is_rising" s_qm A.f_qm A.fd_qm
  B_qm:Binds K A.fd_qm ["parts"] []
  m_qm:mg "is_rising" = some (.ref A.f_qm)
  F_qs:Fun K "is_thing" "is_thing" s_qs A.f_qs A.fd_qs
  B_qs:Binds K A.fd_qs ["many","thing"] []
  m_qs:mg "is_thing" = some (.ref A.f_qs)
  F_qh:Fun K "are_things" "are_things" s_qh A.f_qh A.fd_qh
  B_qh:Binds K A.fd_qh ["many","thing"] []
  m_qh:mg "are_things" = some (.ref A.f_qh)
  F_qu:Fun K "is_pair" "is_pair" s_qu A.f_qu A.fd_qu
  B_qu:Binds K A.fd_qu ["many","thing"] []
  m_qu:mg "is_pair" = some (.ref A.f_qu)
  F_qn:Fun K "are_pairs" "are_pairs" s_qn A.f_qn A.fd_qn
  B_qn:Binds K A.fd_qn ["many","things"] []
  m_qn:mg "are_pairs" = some (.ref A.f_qn)
  F_qo:Fun K "has_alike" "has_alike" s_qo A.f_qo A.fd_qo
  B_qo:Binds K A.fd_qo ["pairs"] []
  m_qo:mg "has_alike" = some (.ref A.f_qo)
  F_qe:Fun K "is_complete" "is_complete" s_qe A.f_qe A.fd_qe
  B_qe:Binds K A.fd_qe ["pairs"] []
  m_qe:mg "is_complete" = some (.ref A.f_qe)
  F_qt:Fun K "is_order" "is_order" s_qt A.f_qt A.fd_qt
  B_qt:Binds K A.fd_qt ["thing"] []
  m_qt:mg "is_order" = some (.ref A.f_qt)
  F_qi:Fun K "need_order" "need_order" s_qi A.f_qi A.fd_qi
  B_qi:Binds K A.fd_qi ["order"] []
  m_qi:mg "need_order" = some (.ref A.f_qi)
  F_qj:Fun K "need_thing" "need_thing" s_qj A.f_qj A.fd_qj
  B_qj:Binds K A.fd_qj ["order","thing"] []
  m_qj:mg "need_thing" = some (.ref A.f_qj)
  F_qv:Fun K "without" "without" s_qv A.f_qv A.fd_qv
  B_qv:Binds K A.fd_qv ["order","thing"] []
  m_qv:mg "without" = some (.ref A.f_qv)
  F_qc:Fun K "_law_cell_at" "_law_cell_at" s_qc A.f_qc A.fd_qc
  B_qc:Binds K A.fd_qc ["_law_script","_law_k"] []
  m_qc:mg "_law_cell_at" = some (.ref A.f_qc)
  F_qk:Fun K "_law_state" "_law_state" s_qk A.f_qk A.fd_qk
  B_qk:Binds K A.fd_qk ["_law_script","_law_k"] []
  m_qk:mg "_law_state" = some (.ref A.f_qk)
  F_qp:Fun K "_law_take" "_law_take" s_qp A.f_qp A.fd_qp
  B_qp:Binds K A.fd_qp ["_law_state_here","_law_many"] []
  m_qp:mg "_law_take" = some (.ref A.f_qp)
  F_qa:Fun K "_law_mixed_row" "_law_mixed_row" s_qa A.f_qa A.fd_qa
  B_qa:Binds K A.fd_qa ["_law_state_here","_law_things"] []
  m_qa:mg "_law_mixed_row" = some (.ref A.f_qa)
  F_qf:Fun K "_law_closed" "_law_closed" s_qf A.f_qf A.fd_qf
  B_qf:Binds K A.fd_qf ["_law_pairs"] []
  m_qf:mg "_law_closed" = some (.ref A.f_qf)
  F_ql:Fun K "_law_order" "_law_order" s_ql A.f_ql A.fd_ql
  B_ql:Binds K A.fd_ql ["_law_state_here","_law_most"] []
  m_ql:mg "_law_order" = some (.ref A.f_ql)
  F_qb:Fun K "_law_bad_order" "_law_bad_order" s_qb A.f_qb A.fd_qb
  B_qb:Binds K A.fd_qb ["_law_state_here"] []
  m_qb:mg "_law_bad_order" = some (.ref A.f_qb)
  F_qq:Fun K "_law_same" "_law_same" s_qq A.f_qq A.fd_qq
  B_qq:Binds K A.fd_qq ["_law_found","_law_due"] []
  m_qq:mg "_law_same" = some (.ref A.f_qq)
  F_qd:Fun K "_law_refused" "_law_refused" s_qd A.f_qd A.fd_qd
  B_qd:Binds K A.fd_qd ["_law_call"] []
  m_qd:mg "_law_refused" = some (.ref A.f_qd)
  F_qw:Fun K "law" "law" s_qw A.f_qw A.fd_qw
  B_qw:Binds K A.fd_qw ["_law_script"] []
  m_qw:mg "law" = some (.ref A.f_qw)
  z_ValueError:mg "ValueError" = none
  z_all:mg "all" = none
  z_any:mg "any" = none
  z_bool:mg "bool" = none
  z_int:mg "int" = none
  z_isinstance:mg "isinstance" = none
  z_len:mg "len" = none
  z_list:mg "list" = none
  z_max:mg "max" = none
  z_min:mg "min" = none
  z_range:mg "range" = none
  z_set:mg "set" = none
  z_sorted:mg "sorted" = none
  z_tuple:mg "tuple" = none
  z_zip:mg "zip" = none
  c_MOST_THINGS:mg "MOST_THINGS" = some (.int 6 A.t_MOST_THINGS)
  n_NoOrder:mg "NoOrder" = some (.ref A.c_NoOrder)
  n_NoNumber:mg "NoNumber" = some (.ref A.c_NoNumber)
  n_NoPairs:mg "NoPairs" = some (.ref A.c_NoPairs)
  n_Round:mg "Round" = some (.ref A.c_Round)
  n_NoThing:mg "NoThing" = some (.ref A.c_NoThing)
  n_NoRow:mg "NoRow" = some (.ref A.c_NoRow)
  n_TooMany:mg "TooMany" = some (.ref A.c_TooMany)
  n_TooFew:mg "TooFew" = some (.ref A.c_TooFew)
  n_NoText:mg "NoText" = some (.ref A.c_NoText)
  n_NoLine:mg "NoLine" = some (.ref A.c_NoLine)
  n_NoDeed:mg "NoDeed" = some (.ref A.c_NoDeed)
  ns_NoOrder:PySem.W.nsIn K mainGlobals "NoOrder" = some (some (.ref A.c_NoOrder))
  x_NoOrder:PySem.W.excIn K A.c_NoOrder bmV "ValueError.__new__" = true
  ce_NoOrder:A.c_NoOrder=G.cl 0
  ns_NoThing:PySem.W.nsIn K mainGlobals "NoThing" = some (some (.ref A.c_NoThing))
  x_NoThing:PySem.W.excIn K A.c_NoThing bmV "ValueError.__new__" = true
  ce_NoThing:A.c_NoThing=G.cl 4
  ns_TooFew:PySem.W.nsIn K mainGlobals "TooFew" = some (some (.ref A.c_TooFew))
  x_TooFew:PySem.W.excIn K A.c_TooFew bmV "ValueError.__new__" = true
  ce_TooFew:A.c_TooFew=G.cl 7
  ktV:∀ c b,tblV.lookup c=some b→PySem.W.kitOne G.K (.ref (G.cl c)) (.type "ValueError")=some b∧ExK G.K (G.cl c)
  kt0:∀ c b,tbl0.lookup c=some b→PySem.W.kitOne G.K (.ref (G.cl c)) (.ref A.c_NoOrder)=some b∧ExK G.K (G.cl c)
  kt1:∀ c b,tbl1.lookup c=some b→PySem.W.kitOne G.K (.ref (G.cl c)) (.ref A.c_NoNumber)=some b∧ExK G.K (G.cl c)
  kt2:∀ c b,tbl2.lookup c=some b→PySem.W.kitOne G.K (.ref (G.cl c)) (.ref A.c_NoPairs)=some b∧ExK G.K (G.cl c)
  kt3:∀ c b,tbl3.lookup c=some b→PySem.W.kitOne G.K (.ref (G.cl c)) (.ref A.c_Round)=some b∧ExK G.K (G.cl c)
  kt4:∀ c b,tbl4.lookup c=some b→PySem.W.kitOne G.K (.ref (G.cl c)) (.ref A.c_NoThing)=some b∧ExK G.K (G.cl c)
  kt5:∀ c b,tbl5.lookup c=some b→PySem.W.kitOne G.K (.ref (G.cl c)) (.ref A.c_NoRow)=some b∧ExK G.K (G.cl c)
  kt6:∀ c b,tbl6.lookup c=some b→PySem.W.kitOne G.K (.ref (G.cl c)) (.ref A.c_TooMany)=some b∧ExK G.K (G.cl c)
  kt7:∀ c b,tbl7.lookup c=some b→PySem.W.kitOne G.K (.ref (G.cl c)) (.ref A.c_TooFew)=some b∧ExK G.K (G.cl c)
  kt8:∀ c b,tbl8.lookup c=some b→PySem.W.kitOne G.K (.ref (G.cl c)) (.ref A.c_NoText)=some b∧ExK G.K (G.cl c)
  kt9:∀ c b,tbl9.lookup c=some b→PySem.W.kitOne G.K (.ref (G.cl c)) (.ref A.c_NoLine)=some b∧ExK G.K (G.cl c)
  kt10:∀ c b,tbl10.lookup c=some b→PySem.W.kitOne G.K (.ref (G.cl c)) (.ref A.c_NoDeed)=some b∧ExK G.K (G.cl c)
  n_NearError:mg "NearError" = some (.ref A.NE)
  e1:PySem.W.subIn K (.ref A.NE) (.type "BaseException")=some true
  e2:PySem.W.subIn K (.type "type") (.type "tuple")=some false
  e3:PySem.W.kitCls K (.ref A.NE) (.ref A.NE)=some true
  e4:∀ c,c<11→PySem.W.subIn K (.ref (G.cl c)) (.ref A.NE)=some true
  lq:(("law" : Str) ++ ".<locals>.") ++ "<lambda>" = G.lq
  tab:G.tab=some A.P
  code:A.fd_qw.code=.ref A.cc
theorem nd0:(["thing"]:List Str).Nodup:=by decide +kernel
theorem nd1:(["thing","low","high"]:List Str).Nodup:=by decide +kernel
theorem nd2:(["parts"]:List Str).Nodup:=by decide +kernel
theorem nd3:(["one","other"]:List Str).Nodup:=by decide +kernel
theorem nd4:(["many","thing"]:List Str).Nodup:=by decide +kernel
theorem nd5:(["part","many"]:List Str).Nodup:=by decide +kernel
theorem nd6:(["many","things"]:List Str).Nodup:=by decide +kernel
theorem nd7:(["thing","many"]:List Str).Nodup:=by decide +kernel
theorem nd8:(["pairs"]:List Str).Nodup:=by decide +kernel
theorem nd9:(["a","b"]:List Str).Nodup:=by decide +kernel
theorem nd10:(["a","b","middle","c","pairs"]:List Str).Nodup:=by decide +kernel
theorem nd11:(["thing","many","pairs"]:List Str).Nodup:=by decide +kernel
theorem nd12:(["order"]:List Str).Nodup:=by decide +kernel
theorem nd13:(["order","thing"]:List Str).Nodup:=by decide +kernel
theorem nd14:(["order","thing","many","pairs","left"]:List Str).Nodup:=by decide +kernel
theorem nd15:(["other","thing"]:List Str).Nodup:=by decide +kernel
theorem nd16:(["a","b","left","thing"]:List Str).Nodup:=by decide +kernel
theorem nd17:(["_law_script","_law_k"]:List Str).Nodup:=by decide +kernel
theorem nd18:(["_law_script","_law_k","_law_cell"]:List Str).Nodup:=by decide +kernel
theorem nd19:(["_law_state_here","_law_many","_law_found","_law_stirred"]:List Str).Nodup:=by decide +kernel
theorem nd20:(["_law_state_here","_law_things","_law_left","_law_found"]:List Str).Nodup:=by decide +kernel
theorem nd21:(["_law_pairs","_law_found","_law_later","_law_a","_law_b"]:List Str).Nodup:=by decide +kernel
theorem nd22:(["_law_c","_law_d","_law_a","_law_b"]:List Str).Nodup:=by decide +kernel
theorem nd23:(["_law_state_here","_law_most","_law_many","_law_row","_law_way","_law_pairs","_law_marks","_law_i","_law_j","_law_near"]:List Str).Nodup:=by decide +kernel
theorem nd24:(["_law_thing","_law_state_here"]:List Str).Nodup:=by decide +kernel
theorem nd25:(["_law_j","_law_i","_law_marks"]:List Str).Nodup:=by decide +kernel
theorem nd26:(["_law_state_here","_law_some"]:List Str).Nodup:=by decide +kernel
theorem nd27:(["_law_found","_law_due"]:List Str).Nodup:=by decide +kernel
theorem nd28:(["_law_one","_law_other"]:List Str).Nodup:=by decide +kernel
theorem nd29:(["_law_call","_law_error","e","_law_marks"]:List Str).Nodup:=by decide +kernel
theorem nd30:(["_law_k","_law_marks"]:List Str).Nodup:=by decide +kernel
theorem nd31:(["_law_script","_law_k","_law_state_here","_law_order_here","_law_thing","_law_left","_law_pairs","_law_none","_law_bad"]:List Str).Nodup:=by decide +kernel
theorem nd32:(["_law_other","_law_thing"]:List Str).Nodup:=by decide +kernel
theorem nd33:(["_law_a","_law_b","_law_left","_law_thing"]:List Str).Nodup:=by decide +kernel
section
variable {P:Program} {w:World} {K:PySem.W.Frag} {mg:Str→Option Value} {base:Heap} {G:Cfg} {A:Ad}
theorem zpc:FnScope ["thing"] ["thing"] (z04 s_qr):=⟨rfl,rfl,rfl,by decide +kernel,rfl,by decide +kernel,by decide +kernel⟩
theorem zpd (T:Tx K mg G A):FnOk P w K mg base (CXm P w base) 1 A.f_qr A.fd_qr ["thing"] (spOf G F_qr):=
  z1b (k:=0) (N:=["thing"]) (mb:=zgk) T.F_qr zpc T.hK fun cdv Ar outer s H E₀ E g=>
    (z0f (z0q (z3o (zk3 rfl T.z_isinstance rfl T.z_int (z01 0)) (z3n (zc4 (z6m rfl T.z_isinstance rfl T.z_bool (z01 0)))))))
theorem zpe:FnScope ["thing","low","high"] ["thing","low","high"] (z04 s_qg):=⟨rfl,rfl,rfl,by decide +kernel,rfl,by decide +kernel,by decide +kernel⟩
theorem znr (T:Tx K mg G A):FnOk P w K mg base (CXm P w base) 2 A.f_qg A.fd_qg ["thing","low","high"] (spOf G F_qg):=
  z1b (k:=1) (N:=["thing","low","high"]) (mb:=ze2) T.F_qg zpe T.hK fun cdv Ar outer s H E₀ E g=>
    (z0f (z0q (z3o (z0c g (zpd T) (by decide) rfl T.m_qr T.F_qr.kp T.B_qr (z02 (z01 0) z06)) (z3n (zn1 (z01 1) (z01 0) (z01 2))))))
theorem zpf:FnScope ["parts"] ["parts"] (z04 s_qm):=⟨rfl,rfl,rfl,by decide +kernel,rfl,by decide +kernel,by decide +kernel⟩
theorem zpg (T:Tx K mg G A):FnOk P w K mg base (CXm P w base) 1 A.f_qm A.fd_qm ["parts"] (spOf G F_qm):=
  z1b (k:=0) (N:=["parts"]) (mb:=zkm) T.F_qm zpf T.hK fun cdv Ar outer s H E₀ E g=>
    (z0f (z0q (z4t g.calm rfl T.z_all (z1c g.calm (z3f (N:=["one","other"]) (cap:=[none,none]) (os:=(z04 s_qm)) (oN:=["parts"]) rfl rfl rfl (by decide +kernel) rfl (by decide +kernel) (by decide +kernel) (by decide +kernel)) (zi4 rfl T.z_zip (z02 (z01 0) (z02 (zbb (z01 0) (zjz z07) zjy) z06))) (fun s H ex=>(z2r (z0o g).calm (z0n (z0j (i:=0) nd3 rfl (by first | exact Or.inl rfl | exact Or.inr rfl)) (z0n (z0j (i:=1) nd3 rfl (by first | exact Or.inl rfl | exact Or.inr rfl)) z1v)))) (fun s H ex=>z4p) (fun s H ex=>(zno (z0o g) (z01 0) (z01 1)))))))
theorem zph:FnScope ["many","thing"] ["many","thing"] (z04 s_qs):=⟨rfl,rfl,rfl,by decide +kernel,rfl,by decide +kernel,by decide +kernel⟩
theorem zns (T:Tx K mg G A):FnOk P w K mg base (CXm P w base) 3 A.f_qs A.fd_qs ["many","thing"] (spOf G F_qs):=
  z1b (k:=2) (N:=["many","thing"]) (mb:=zgl) T.F_qs zph T.hK fun cdv Ar outer s H E₀ E g=>
    (z0f (z0q (z0c g (znr T) (by decide) rfl T.m_qg T.F_qg.kp T.B_qg (z02 (z01 1) (z02 z07 (z02 (zcu (z01 0) z07) z06))))))
theorem zpi:FnScope ["many","thing"] ["many","thing"] (z04 s_qh):=⟨rfl,rfl,rfl,by decide +kernel,rfl,by decide +kernel,by decide +kernel⟩
theorem zpj (T:Tx K mg G A):FnOk P w K mg base (CXm P w base) 4 A.f_qh A.fd_qh ["many","thing"] (spOf G F_qh):=
  z1b (k:=3) (N:=["many","thing"]) (mb:=ze3) T.F_qh zpi T.hK fun cdv Ar outer s H E₀ E g=>
    (z0f (z0q (z3o (z4x rfl T.z_isinstance rfl T.z_tuple (z01 1)) (z3n (z4t g.calm rfl T.z_all (z1c g.calm (z3f (N:=["part","many"]) (cap:=[none,some 0]) (os:=(z04 s_qh)) (oN:=["many","thing"]) rfl rfl rfl (by decide +kernel) rfl (by decide +kernel) (by decide +kernel) (by decide +kernel)) (z4n (z01 1)) (fun s H ex=>(z0j (i:=0) nd5 rfl (by first | exact Or.inl rfl | exact Or.inr rfl))) (fun s H ex=>z4p) (fun s H ex=>(z0c (z0o g) (zns T) (by decide) rfl T.m_qs T.F_qs.kp T.B_qs (z02 (z01 1) (z02 (z01 0) z06))))))))))
theorem zpk:FnScope ["many","thing"] ["many","thing"] (z04 s_qu):=⟨rfl,rfl,rfl,by decide +kernel,rfl,by decide +kernel,by decide +kernel⟩
theorem zpl (T:Tx K mg G A):FnOk P w K mg base (CXm P w base) 5 A.f_qu A.fd_qu ["many","thing"] (spOf G F_qu):=
  z1b (k:=4) (N:=["many","thing"]) (mb:=z8y) T.F_qu zpk T.hK fun cdv Ar outer s H E₀ E g=>
    (z0f (z0q (z3o (z0c g (zpj T) (by decide) rfl T.m_qh T.F_qh.kp T.B_qh (z02 (z01 0) (z02 (z01 1) z06))) (z3n (x_eq g (z7p rfl T.z_len (z02 (z01 1) z06)) z07)))))
theorem zpm:FnScope ["many","things"] ["many","things"] (z04 s_qn):=⟨rfl,rfl,rfl,by decide +kernel,rfl,by decide +kernel,by decide +kernel⟩
theorem zpn (T:Tx K mg G A):FnOk P w K mg base (CXm P w base) 6 A.f_qn A.fd_qn ["many","things"] (spOf G F_qn):=
  z1b (k:=5) (N:=["many","things"]) (mb:=zgm) T.F_qn zpm T.hK fun cdv Ar outer s H E₀ E g=>
    (z0f (z0q (z4t g.calm rfl T.z_all (z1c g.calm (z3f (N:=["thing","many"]) (cap:=[none,some 0]) (os:=(z04 s_qn)) (oN:=["many","things"]) rfl rfl rfl (by decide +kernel) rfl (by decide +kernel) (by decide +kernel) (by decide +kernel)) (z4n (z01 1)) (fun s H ex=>(z0j (i:=0) nd7 rfl (by first | exact Or.inl rfl | exact Or.inr rfl))) (fun s H ex=>z4p) (fun s H ex=>(z0c (z0o g) (zpl T) (by decide) rfl T.m_qu T.F_qu.kp T.B_qu (z02 (z01 1) (z02 (z01 0) z06))))))))
theorem zpo:FnScope ["pairs"] ["pairs"] (z04 s_qo):=⟨rfl,rfl,rfl,by decide +kernel,rfl,by decide +kernel,by decide +kernel⟩
theorem zpp (T:Tx K mg G A):FnOk P w K mg base (CXm P w base) 1 A.f_qo A.fd_qo ["pairs"] (spOf G F_qo):=
  z1b (k:=0) (N:=["pairs"]) (mb:=zkn) T.F_qo zpo T.hK fun cdv Ar outer s H E₀ E g=>
    (z0f (z0q (zjs g.calm rfl T.z_any (z1c g.calm (z3f (N:=["a","b"]) (cap:=[none,none]) (os:=(z04 s_qo)) (oN:=["pairs"]) rfl rfl rfl (by decide +kernel) rfl (by decide +kernel) (by decide +kernel) (by decide +kernel)) (z4n (z01 0)) (fun s H ex=>(z2r (z0o g).calm (z0n (z0j (i:=0) nd9 rfl (by first | exact Or.inl rfl | exact Or.inr rfl)) (z0n (z0j (i:=1) nd9 rfl (by first | exact Or.inl rfl | exact Or.inr rfl)) z1v)))) (fun s H ex=>z4p) (fun s H ex=>(x_eq (z0o g) (z01 0) (z01 1)))))))
theorem zpq:FnScope ["pairs"] ["pairs"] (z04 s_qe):=⟨rfl,rfl,rfl,by decide +kernel,rfl,by decide +kernel,by decide +kernel⟩
theorem zpr (T:Tx K mg G A):FnOk P w K mg base (CXm P w base) 1 A.f_qe A.fd_qe ["pairs"] (spOf G F_qe):=
  z1b (k:=0) (N:=["pairs"]) (mb:=zko) T.F_qe zpq T.hK fun cdv Ar outer s H E₀ E g=>
    (z0f (z0q (z4t g.calm rfl T.z_all (zfh g.calm (z3f (N:=["a","b","middle","c","pairs"]) (cap:=[none,none,none,none,some 0]) (os:=(z04 s_qe)) (oN:=["pairs"]) rfl rfl rfl (by decide +kernel) rfl (by decide +kernel) (by decide +kernel) (by decide +kernel)) (z4n (z01 0)) (fun s H ex=>(z2r (z0o g).calm (z0n (z0j (i:=0) nd10 rfl (by first | exact Or.inl rfl | exact Or.inr rfl)) (z0n (z0j (i:=1) nd10 rfl (by first | exact Or.inl rfl | exact Or.inr rfl)) z1v)))) (fun s H ex=>z4p) (fun s H ex=>(z4n (z01 4))) (fun s H ex=>(z2r (z0o g).calm (z0n (z0j (i:=2) nd10 rfl (by first | exact Or.inl rfl | exact Or.inr rfl)) (z0n (z0j (i:=3) nd10 rfl (by first | exact Or.inl rfl | exact Or.inr rfl)) z1v)))) (fun s H ex=>(z3z (t_eq (z0o g) (z01 1) (z01 2)))) (fun s H ex=>(x_in (z0o g) (z1r (z02 (z01 0) (z02 (z01 3) z06))) (z01 4)))))))
theorem zps:FnScope ["thing","many","pairs"] ["thing"] (z04 s_qt):=⟨rfl,rfl,rfl,by decide +kernel,rfl,by decide +kernel,by decide +kernel⟩
theorem zpt (T:Tx K mg G A):FnOk P w K mg base (CXm P w base) 7 A.f_qt A.fd_qt ["thing"] (spOf G F_qt):=
  z1b (k:=6) (N:=["thing","many","pairs"]) (mb:=z85) T.F_qt zps T.hK fun cdv Ar outer s H E₀ E g=>
    (z08 (z25 (SndW.t (zf9 (z3c (z22 (z4x rfl T.z_isinstance rfl T.z_tuple (z01 0)))) (z9g (t_ne g (z7p rfl T.z_len (z02 (z01 0) z06)) z07)))) (z0f (z0q z1u)) z1d) (z08 (zhy (z01 0) (z2r g.calm (z0n (z0j (i:=1) nd11 rfl (by first | exact Or.inl rfl | exact Or.inr rfl)) (z0n (z0j (i:=2) nd11 rfl (by first | exact Or.inl rfl | exact Or.inr rfl)) z1v)))) (z08 (z25 (SndW.t (zf9 (z3c (z22 (z0c g (znr T) (by decide) rfl T.m_qg T.F_qg.kp T.B_qg (z02 (z01 1) (z02 z07 (z02 (zcs rfl T.c_MOST_THINGS) z06)))))) (z9g (z3c (z22 (z4x rfl T.z_isinstance rfl T.z_tuple (z01 2))))))) (z0f (z0q z1u)) z1d) (z08 (z25 (SndW.t (zf9 (z3c (z22 (z0c g (zpn T) (by decide) rfl T.m_qn T.F_qn.kp T.B_qn (z02 (z01 1) (z02 (z01 2) z06))))) (z9g (z3c (z22 (z0c g (zpg T) (by decide) rfl T.m_qm T.F_qm.kp T.B_qm (z02 (z01 2) z06))))))) (z0f (z0q z1u)) z1d) (z0f (z0q (z3o (zc4 (z0c g (zpp T) (by decide) rfl T.m_qo T.F_qo.kp T.B_qo (z02 (z01 2) z06))) (z3n (z0c g (zpr T) (by decide) rfl T.m_qe T.F_qe.kp T.B_qe (z02 (z01 2) z06))))))))))
theorem zpu:FnScope ["order"] ["order"] (z04 s_qi):=⟨rfl,rfl,rfl,by decide +kernel,rfl,by decide +kernel,by decide +kernel⟩
theorem zpv (T:Tx K mg G A):FnOk P w K mg base (CXm P w base) 8 A.f_qi A.fd_qi ["order"] (spOf G F_qi):=
  z1b (k:=7) (N:=["order"]) (mb:=zgv) T.F_qi zpu T.hK fun cdv Ar outer s H E₀ E g=>
    (z0f (z25 (z3c (z22 (z0c g (zpt T) (by decide) rfl T.m_qt T.F_qt.kp T.B_qt (z02 (z01 0) z06)))) (z0f (z6k g rfl T.n_NoOrder T.ns_NoOrder T.x_NoOrder T.ce_NoOrder (z02 z4j z06))) z1d))
theorem zpw:FnScope ["order","thing"] ["order","thing"] (z04 s_qj):=⟨rfl,rfl,rfl,by decide +kernel,rfl,by decide +kernel,by decide +kernel⟩
theorem zpx (T:Tx K mg G A):FnOk P w K mg base (CXm P w base) 9 A.f_qj A.fd_qj ["order","thing"] (spOf G F_qj):=
  z1b (k:=8) (N:=["order","thing"]) (mb:=ze5) T.F_qj zpw T.hK fun cdv Ar outer s H E₀ E g=>
    (z08 (z4m (z0c g (zpv T) (by decide) rfl T.m_qi T.F_qi.kp T.B_qi (z02 (z01 0) z06))) (z0f (z25 (z3c (z22 (z0c g (zns T) (by decide) rfl T.m_qs T.F_qs.kp T.B_qs (z02 (z1j (z01 0) z07) (z02 (z01 1) z06))))) (z0f (z6k g rfl T.n_NoThing T.ns_NoThing T.x_NoThing T.ce_NoThing (z02 z4j z06))) z1d)))
theorem zpy:FnScope ["order","thing","many","pairs","left"] ["order","thing"] (z04 s_qv):=⟨rfl,rfl,rfl,by decide +kernel,rfl,by decide +kernel,by decide +kernel⟩
theorem zgy (T:Tx K mg G A):FnOk P w K mg base (CXm P w base) 10 A.f_qv A.fd_qv ["order","thing"] (spOf G F_qv):=
  z1b (k:=9) (N:=["order","thing","many","pairs","left"]) (mb:=z91) T.F_qv zpy T.hK fun cdv Ar outer s H E₀ E g=>
    (z08 (z4m (z0c g (zpx T) (by decide) rfl T.m_qj T.F_qj.kp T.B_qj (z02 (z01 0) (z02 (z01 1) z06)))) (z08 (zhy (z01 0) (z2r g.calm (z0n (z0j (i:=2) nd14 rfl (by first | exact Or.inl rfl | exact Or.inr rfl)) (z0n (z0j (i:=3) nd14 rfl (by first | exact Or.inl rfl | exact Or.inr rfl)) z1v)))) (z08 (z25 (t_eq g (z01 2) z07) (z0f (z6k g rfl T.n_TooFew T.ns_TooFew T.x_TooFew T.ce_TooFew (z02 z4j z06))) z1d) (z08 (z0u (i:=4) nd14 rfl (by first | exact Or.inl rfl | exact Or.inr rfl) (z4o (z1c g.calm (z3f (N:=["other","thing"]) (cap:=[none,some 1]) (os:=(z04 s_qv)) (oN:=["order","thing","many","pairs","left"]) rfl rfl rfl (by decide +kernel) rfl (by decide +kernel) (by decide +kernel) (by decide +kernel)) (z1p rfl T.z_range (z02 (z01 2) z06)) (fun s H ex=>(z0j (i:=0) nd15 rfl (by first | exact Or.inl rfl | exact Or.inr rfl))) (fun s H ex=>(z3z (t_ne (z0o g) (z01 0) (z01 1)))) (fun s H ex=>(z01 0))))) (z0f (z0q (z1r (z02 (zcu (z01 2) z07) (z02 (zfr rfl T.z_tuple (z1c g.calm (z3f (N:=["a","b","left","thing"]) (cap:=[none,none,some 4,some 1]) (os:=(z04 s_qv)) (oN:=["order","thing","many","pairs","left"]) rfl rfl rfl (by decide +kernel) rfl (by decide +kernel) (by decide +kernel) (by decide +kernel)) (z4n (z01 3)) (fun s H ex=>(z2r (z0o g).calm (z0n (z0j (i:=0) nd16 rfl (by first | exact Or.inl rfl | exact Or.inr rfl)) (z0n (z0j (i:=1) nd16 rfl (by first | exact Or.inl rfl | exact Or.inr rfl)) z1v)))) (fun s H ex=>(z3z (zn7 (z0o g) (z01 3) (z1r (z02 (z01 0) (z02 (z01 1) z06)))))) (fun s H ex=>(z1r (z02 (z2w (z01 2) (z01 0)) (z02 (z2w (z01 2) (z01 1)) z06)))))) z06)))))))))
theorem zpz:FnScope ["_law_script","_law_k"] ["_law_script","_law_k"] (z04 s_qc):=⟨rfl,rfl,rfl,by decide +kernel,rfl,by decide +kernel,by decide +kernel⟩
theorem zq0 (T:Tx K mg G A):FnOk P w K mg base (CXm P w base) 1 A.f_qc A.fd_qc ["_law_script","_law_k"] (spOf G (F_qc G.scr)):=
  z1b (k:=0) (N:=["_law_script","_law_k"]) (mb:=(zgn G.scr)) T.F_qc zpz T.hK fun cdv Ar outer s H E₀ E g=>
    (z08 (z25 (znp g (z01 1) (zc7 rfl T.z_len (z02 (z01 0) z06))) (z0f (z0q (zml (z01 0) (z01 1)))) z1d) (z0f (z0q z07)))
theorem zq1:FnScope ["_law_script","_law_k","_law_cell"] ["_law_script","_law_k"] (z04 s_qk):=⟨rfl,rfl,rfl,by decide +kernel,rfl,by decide +kernel,by decide +kernel⟩
theorem zq2 (T:Tx K mg G A):FnOk P w K mg base (CXm P w base) 2 A.f_qk A.fd_qk ["_law_script","_law_k"] (spOf G (F_qk G.scr)):=
  z1b (k:=1) (N:=["_law_script","_law_k","_law_cell"]) (mb:=(zgo G.scr)) T.F_qk zq1 T.hK fun cdv Ar outer s H E₀ E g=>
    (z08 (z0u (i:=2) nd18 rfl (by first | exact Or.inl rfl | exact Or.inr rfl) (z0c g (zq0 T) (by decide) rfl T.m_qc T.F_qc.kp T.B_qc (z02 (z01 0) (z02 (z01 1) z06)))) (z08 (z25 (t_ge (z01 2) (zk2 z07 z07)) (z0f (z0q (z1e (z02 (zcu (z01 2) (zk2 z07 z07)) (z02 z1u z06))))) z1d) (z0f (z0q (z1e (z02 (zb5 (z01 2) z07) (z02 z1u z06)))))))
theorem zq3:FnScope ["_law_state_here","_law_many","_law_found","_law_stirred"] ["_law_state_here","_law_many"] (z04 s_qp):=⟨rfl,rfl,rfl,by decide +kernel,rfl,by decide +kernel,by decide +kernel⟩
theorem z6y (T:Tx K mg G A):FnOk P w K mg base (CXm P w base) 1 A.f_qp A.fd_qp ["_law_state_here","_law_many"] (spOf G F_qp):=
  z1b (k:=0) (N:=["_law_state_here","_law_many","_law_found","_law_stirred"]) (mb:=zgp) T.F_qp zq3 T.hK fun cdv Ar outer s H E₀ E g=>
    (z08 (z25 (z22 (z1j (z01 0) z07)) (z08 (z0u (i:=2) nd19 rfl (by first | exact Or.inl rfl | exact Or.inr rfl) (zb5 (z1j (z01 0) z07) (z01 1))) (z08 (z9o (z01 0) z07 (zd4 (z1j (z01 0) z07) (z01 1))) (z0f (z0q (z01 2))))) z1d) (z08 (z9o (z01 0) z07 (zb5 (z2t (zcv (z1j (z01 0) z07) z07) z07) z07)) (z08 (z0u (i:=3) nd19 rfl (by first | exact Or.inl rfl | exact Or.inr rfl) (zb5 (z2t (z2t (zcv (z1j (z01 0) z07) (z1j (z01 0) z07)) (zcv z07 (z1j (z01 0) z07))) z07) z07)) (z08 (z0u (i:=3) nd19 rfl (by first | exact Or.inl rfl | exact Or.inr rfl) (zb5 (z2t (zcv (z01 3) (z01 3)) (zcv z07 (z01 3))) z07)) (z0f (z0q (zb5 (zd4 (z01 3) z07) (z01 1))))))))
theorem zq4:FnScope ["_law_state_here","_law_things","_law_left","_law_found"] ["_law_state_here","_law_things"] (z04 s_qa):=⟨rfl,rfl,rfl,by decide +kernel,rfl,by decide +kernel,by decide +kernel⟩
theorem zq5 (T:Tx K mg G A):FnOk P w K mg base (CXm P w base) 2 A.f_qa A.fd_qa ["_law_state_here","_law_things"] (spOf G F_qa):=
  z1b (k:=1) (N:=["_law_state_here","_law_things","_law_left","_law_found"]) (mb:=zgq) T.F_qa zq4 T.hK fun cdv Ar outer s H E₀ E g=>
    (z08 (z0u (i:=2) nd20 rfl (by first | exact Or.inl rfl | exact Or.inr rfl) (zd1 rfl T.z_list (z02 (z01 1) z06))) (z08 (z0u (i:=3) nd20 rfl (by first | exact Or.inl rfl | exact Or.inr rfl) (z1e z06)) (z08 (z9u 40 g.own (t_ne g (z01 2) (z1e z06)) (z0f (z4m (zcn (z01 3) (zjx (z01 2) (z0c g (z6y T) (by decide) rfl T.m_qp T.F_qp.kp T.B_qp (z02 (z01 0) (z02 (z7p rfl T.z_len (z02 (z01 2) z06)) z06)))))))) (z0f (z0q (z01 3))))))
theorem zq6:FnScope ["_law_pairs","_law_found","_law_later","_law_a","_law_b"] ["_law_pairs"] (z04 s_qf):=⟨rfl,rfl,rfl,by decide +kernel,rfl,by decide +kernel,by decide +kernel⟩
theorem zq7 (T:Tx K mg G A):FnOk P w K mg base (CXm P w base) 1 A.f_qf A.fd_qf ["_law_pairs"] (spOf G F_qf):=
  z1b (k:=0) (N:=["_law_pairs","_law_found","_law_later","_law_a","_law_b"]) (mb:=zgr) T.F_qf zq6 T.hK fun cdv Ar outer s H E₀ E g=>
    (z08 (z0u (i:=1) nd21 rfl (by first | exact Or.inl rfl | exact Or.inr rfl) (z5y g rfl T.z_sorted rfl T.z_set (z02 (z01 0) z06))) (z0f (z9u 40 g.own (z22 z1u) (z08 (z0u (i:=2) nd21 rfl (by first | exact Or.inl rfl | exact Or.inr rfl) (zd1 rfl T.z_list (z02 (z01 1) z06))) (z08 (z5r g.own g.calm (z8j (z01 1)) (z2r g.calm (z0n (z0j (i:=3) nd21 rfl (by first | exact Or.inl rfl | exact Or.inr rfl)) (z0n (z0j (i:=4) nd21 rfl (by first | exact Or.inl rfl | exact Or.inr rfl)) z1v))) (z0f (z4m (zjt (z01 2) (z1c g.calm (z3f (N:=["_law_c","_law_d","_law_a","_law_b"]) (cap:=[none,none,some 3,some 4]) (os:=(z04 s_qf)) (oN:=["_law_pairs","_law_found","_law_later","_law_a","_law_b"]) rfl rfl rfl (by decide +kernel) rfl (by decide +kernel) (by decide +kernel) (by decide +kernel)) (z8j (z01 1)) (fun s H ex=>(z2r (z0o g).calm (z0n (z0j (i:=0) nd22 rfl (by first | exact Or.inl rfl | exact Or.inr rfl)) (z0n (z0j (i:=1) nd22 rfl (by first | exact Or.inl rfl | exact Or.inr rfl)) z1v)))) (fun s H ex=>(z3z (t_eq (z0o g) (z01 3) (z01 0)))) (fun s H ex=>(z1r (z02 (z01 2) (z02 (z01 1) z06))))))))) (z08 (z0u (i:=2) nd21 rfl (by first | exact Or.inl rfl | exact Or.inr rfl) (z5y g rfl T.z_sorted rfl T.z_set (z02 (z01 2) z06))) (z08 (z25 (t_eq g (z01 2) (z01 1)) (z0f (z0q (z01 1))) z1d) (z0f (z0u (i:=1) nd21 rfl (by first | exact Or.inl rfl | exact Or.inr rfl) (z01 2))))))))))
theorem zq8:FnScope ["_law_state_here","_law_most","_law_many","_law_row","_law_way","_law_pairs","_law_marks","_law_i","_law_j","_law_near"] ["_law_state_here","_law_most"] (z04 s_ql):=⟨rfl,rfl,rfl,by decide +kernel,rfl,by decide +kernel,by decide +kernel⟩
theorem zq9 (T:Tx K mg G A):FnOk P w K mg base (CXm P w base) 3 A.f_ql A.fd_ql ["_law_state_here","_law_most"] (spOf G F_ql):=
  z1b (k:=2) (N:=["_law_state_here","_law_most","_law_many","_law_row","_law_way","_law_pairs","_law_marks","_law_i","_law_j","_law_near"]) (mb:=zgs) T.F_ql zq8 T.hK fun cdv Ar outer s H E₀ E g=>
    (z08 (z0u (i:=2) nd23 rfl (by first | exact Or.inl rfl | exact Or.inr rfl) (zcu (z01 1) (z1j (z90 2) (z0c g (z6y T) (by decide) rfl T.m_qp T.F_qp.kp T.B_qp (z02 (z01 0) (z02 z07 z06)))))) (z08 (z0u (i:=2) nd23 rfl (by first | exact Or.inl rfl | exact Or.inr rfl) (z9i g.calm rfl T.z_max (z02 z07 (z02 (z01 2) z06)))) (z08 (z0u (i:=3) nd23 rfl (by first | exact Or.inl rfl | exact Or.inr rfl) (z0c g (zq5 T) (by decide) rfl T.m_qa T.F_qa.kp T.B_qa (z02 (z01 0) (z02 (zdz g rfl T.z_list rfl T.z_range (z02 (z01 2) z06)) z06)))) (z08 (z0u (i:=4) nd23 rfl (by first | exact Or.inl rfl | exact Or.inr rfl) (z0c g (z6y T) (by decide) rfl T.m_qp T.F_qp.kp T.B_qp (z02 (z01 0) (z02 z07 z06)))) (z08 (z0u (i:=5) nd23 rfl (by first | exact Or.inl rfl | exact Or.inr rfl) (z1e z06)) (z08 (z0u (i:=6) nd23 rfl (by first | exact Or.inl rfl | exact Or.inr rfl) (z4o (z1c g.calm (z3f (N:=["_law_thing","_law_state_here"]) (cap:=[none,some 0]) (os:=(z04 s_ql)) (oN:=["_law_state_here","_law_most","_law_many","_law_row","_law_way","_law_pairs","_law_marks","_law_i","_law_j","_law_near"]) rfl rfl rfl (by decide +kernel) rfl (by decide +kernel) (by decide +kernel) (by decide +kernel)) (z8j (z01 3)) (fun s H ex=>(z0j (i:=0) nd24 rfl (by first | exact Or.inl rfl | exact Or.inr rfl))) (fun s H ex=>z4p) (fun s H ex=>(z0c (z0o g) (z6y T) (by decide) rfl T.m_qp T.F_qp.kp T.B_qp (z02 (z01 1) (z02 z07 z06))))))) (z08 (z5r g.own g.calm (z1p rfl T.z_range (z02 (z01 2) z06)) (z0j (i:=7) nd23 rfl (by first | exact Or.inl rfl | exact Or.inr rfl)) (z0f (z5r g.own g.calm (zc9 rfl T.z_range (z02 (z2t (z01 7) z07) (z02 (z01 2) z06))) (z0j (i:=8) nd23 rfl (by first | exact Or.inl rfl | exact Or.inr rfl)) (z08 (z0u (i:=9) nd23 rfl (by first | exact Or.inl rfl | exact Or.inr rfl) (z1e (z02 (x_eq g (z0c g (z6y T) (by decide) rfl T.m_qp T.F_qp.kp T.B_qp (z02 (z01 0) (z02 z07 z06))) z07) (z02 (x_eq g (z0c g (z6y T) (by decide) rfl T.m_qp T.F_qp.kp T.B_qp (z02 (z01 0) (z02 z07 z06))) z07) (z02 (x_gt (z0c g (z6y T) (by decide) rfl T.m_qp T.F_qp.kp T.B_qp (z02 (z01 0) (z02 z07 z06))) z07) z06))))) (z08 (z0u (i:=9) nd23 rfl (by first | exact Or.inl rfl | exact Or.inr rfl) (z2t (z01 9) (z1e (z02 (zno g (z1j (z01 6) (z01 7)) (z1j (z01 6) (z01 8))) (z02 (x_eq g (z1j (z01 6) (z01 7)) (z1j (z01 6) (z01 8))) z06))))) (z0f (z25 (z22 (z1j (z01 9) (z01 4))) (z0f (z4m (zcn (z01 5) (z1r (z02 (z1j (z01 3) (z01 7)) (z02 (z1j (z01 3) (z01 8)) z06)))))) z1d))))))) (z08 (z25 (t_eq g (z01 4) z07) (z08 (z0u (i:=5) nd23 rfl (by first | exact Or.inl rfl | exact Or.inr rfl) (z1e z06)) (z0f (z5r g.own g.calm (z1p rfl T.z_range (z02 (z01 2) z06)) (z0j (i:=7) nd23 rfl (by first | exact Or.inl rfl | exact Or.inr rfl)) (z0f (z0u (i:=5) nd23 rfl (by first | exact Or.inl rfl | exact Or.inr rfl) (z2t (z01 5) (z4o (z1c g.calm (z3f (N:=["_law_j","_law_i","_law_marks"]) (cap:=[none,some 7,some 6]) (os:=(z04 s_ql)) (oN:=["_law_state_here","_law_most","_law_many","_law_row","_law_way","_law_pairs","_law_marks","_law_i","_law_j","_law_near"]) rfl rfl rfl (by decide +kernel) rfl (by decide +kernel) (by decide +kernel) (by decide +kernel)) (z1p rfl T.z_range (z02 (z01 2) z06)) (fun s H ex=>(z0j (i:=0) nd25 rfl (by first | exact Or.inl rfl | exact Or.inr rfl))) (fun s H ex=>(z3z (znp (z0o g) (z1j (z01 2) (z01 1)) (z1j (z01 2) (z01 0))))) (fun s H ex=>(z1r (z02 (z01 1) (z02 (z01 0) z06)))))))))))) z1d) (z0f (z0q (z1r (z02 (z01 2) (z02 (z7j rfl T.z_tuple (z02 (z0c g (zq7 T) (by decide) rfl T.m_qf T.F_qf.kp T.B_qf (z02 (z01 5) z06)) z06)) z06)))))))))))))
theorem zqa:FnScope ["_law_state_here","_law_some"] ["_law_state_here"] (z04 s_qb):=⟨rfl,rfl,rfl,by decide +kernel,rfl,by decide +kernel,by decide +kernel⟩
theorem zqb (T:Tx K mg G A):FnOk P w K mg base (CXm P w base) 2 A.f_qb A.fd_qb ["_law_state_here"] (spOf G F_qb):=
  zks (k:=1) (N:=["_law_state_here","_law_some"]) (mb:=zgt) T.F_qb zqa T.hK fun cdv Ar outer s H E₀ E g=>
    (z6x (zkr 5 (i:=1) nd26 rfl (by first | exact Or.inl rfl | exact Or.inr rfl)) (z6x (ze4 5 (i:=1) nd26 rfl (by first | exact Or.inl rfl | exact Or.inr rfl) (z01 1)) (z6x (ze4 5 (i:=1) nd26 rfl (by first | exact Or.inl rfl | exact Or.inr rfl) (z01 1)) (zkq (SW.mk (z0q (z1j (z01 1) (z0c g (z6y T) (by decide) rfl T.m_qp T.F_qp.kp T.B_qp (z02 (z01 0) (z02 z07 z06))))))))))
theorem zqc:FnScope ["_law_found","_law_due"] ["_law_found","_law_due"] (z04 s_qq):=⟨rfl,rfl,rfl,by decide +kernel,rfl,by decide +kernel,by decide +kernel⟩
theorem znt (T:Tx K mg G A):∀ n,FnOk P w K mg base (CXm P w base) n A.f_qq A.fd_qq ["_law_found","_law_due"] (spOf G (F_qq n))
  | 0=>zn5
  | n+1=>by
    have okS:=znt T n
    exact z1b (N:=["_law_found","_law_due"]) (mb:=zgu (F_qq n)) T.F_qq zqc T.hK fun cdv Ar outer s H E₀ E g=>
      (z08 (z25 (z22 (zn3 rfl T.z_isinstance rfl T.z_tuple rfl T.z_list (z01 1))) (z08 (z25 (SndW.t (zf9 (t_ne g (z4x rfl T.z_isinstance rfl T.z_tuple (z01 0)) (z4x rfl T.z_isinstance rfl T.z_tuple (z01 1))) (z9g (t_ne g (zd0 rfl T.z_isinstance rfl T.z_list (z01 0)) (zd0 rfl T.z_isinstance rfl T.z_list (z01 1)))))) (z0f (z0q z1u)) z1d) (z08 (z25 (t_ne g (z7p rfl T.z_len (z02 (z01 0) z06)) (z7p rfl T.z_len (z02 (z01 1) z06))) (z0f (z0q z1u)) z1d) (z0f (z0q (z4t g.calm rfl T.z_all (z1c g.calm (z3f (N:=["_law_one","_law_other"]) (cap:=[none,none]) (os:=(z04 s_qq)) (oN:=["_law_found","_law_due"]) rfl rfl rfl (by decide +kernel) rfl (by decide +kernel) (by decide +kernel) (by decide +kernel)) (zi4 rfl T.z_zip (z02 (z01 0) (z02 (z01 1) z06))) (fun s H ex=>(z2r (z0o g).calm (z0n (z0j (i:=0) nd28 rfl (by first | exact Or.inl rfl | exact Or.inr rfl)) (z0n (z0j (i:=1) nd28 rfl (by first | exact Or.inl rfl | exact Or.inr rfl)) z1v)))) (fun s H ex=>z4p) (fun s H ex=>(z0c (z0o g) okS (Nat.le_refl _) rfl T.m_qq T.F_qq.kp T.B_qq (z02 (z01 0) (z02 (z01 1) z06)))))))))) z1d) (z0f (z0q (z3o (x_eq g (z01 0) (z01 1)) (z3n (x_eq g (z6m rfl T.z_isinstance rfl T.z_bool (z01 0)) (z6m rfl T.z_isinstance rfl T.z_bool (z01 1))))))))
theorem zqd:FnScope ["_law_call","_law_error","e","_law_marks"] ["_law_call"] (z04 s_qd):=⟨rfl,rfl,rfl,by decide +kernel,rfl,by decide +kernel,by decide +kernel⟩
theorem z3w {k:Nat} (T:Tx K mg G A) (cdv:Value) (Ar:Around) (outer:List Env) (s:Shared) (H:Hp) (E₀ E:XK) (g:Good (cxOf (CXm P w base) P w K mg base ["_law_call","_law_error","e","_law_marks"] "_law_refused" (z04 s_qd) A.f_qd cdv Ar outer s H E₀) G E k):z3p (cxOf (CXm P w base) P w K mg base ["_law_call","_law_error","e","_law_marks"] "_law_refused" (z04 s_qd) A.f_qd cdv Ar outer s H E₀) G E ((z1q s_qd).drop 2) z33:=
  (z08 (z0u (i:=3) nd29 rfl (by first | exact Or.inl rfl | exact Or.inr rfl) (z1e (z02 (z1x rfl T.z_isinstance rfl T.n_NoOrder (z01 1) (fun _ h=>by cases h) T.kt0) (z02 (z1x rfl T.z_isinstance rfl T.n_NoNumber (z01 1) (fun _ h=>by cases h) T.kt1) (z02 (z1x rfl T.z_isinstance rfl T.n_NoPairs (z01 1) (fun _ h=>by cases h) T.kt2) z06))))) (z08 (z0u (i:=3) nd29 rfl (by first | exact Or.inl rfl | exact Or.inr rfl) (z2t (z01 3) (z1e (z02 (z1x rfl T.z_isinstance rfl T.n_Round (z01 1) (fun _ h=>by cases h) T.kt3) (z02 (z1x rfl T.z_isinstance rfl T.n_NoThing (z01 1) (fun _ h=>by cases h) T.kt4) (z02 (z1x rfl T.z_isinstance rfl T.n_NoRow (z01 1) (fun _ h=>by cases h) T.kt5) z06)))))) (z08 (z0u (i:=3) nd29 rfl (by first | exact Or.inl rfl | exact Or.inr rfl) (z2t (z01 3) (z1e (z02 (z1x rfl T.z_isinstance rfl T.n_TooMany (z01 1) (fun _ h=>by cases h) T.kt6) (z02 (z1x rfl T.z_isinstance rfl T.n_TooFew (z01 1) (fun _ h=>by cases h) T.kt7) (z02 (z1x rfl T.z_isinstance rfl T.n_NoText (z01 1) (fun _ h=>by cases h) T.kt8) z06)))))) (z08 (z0u (i:=3) nd29 rfl (by first | exact Or.inl rfl | exact Or.inr rfl) (z2t (z01 3) (z1e (z02 (z1x rfl T.z_isinstance rfl T.n_NoLine (z01 1) (fun _ h=>by cases h) T.kt9) (z02 (z1x rfl T.z_isinstance rfl T.n_NoDeed (z01 1) (fun _ h=>by cases h) T.kt10) z06))))) (z08 (z25 (z3c (z22 (zn4 rfl T.z_isinstance rfl T.z_ValueError (z01 1) (fun _ h=>by cases h) T.ktV))) (z0f (z0q z8g)) z1d) (z0f (z0q (z4o (z1c g.calm (z3f (N:=["_law_k","_law_marks"]) (cap:=[none,some 3]) (os:=(z04 s_qd)) (oN:=["_law_call","_law_error","e","_law_marks"]) rfl rfl rfl (by decide +kernel) rfl (by decide +kernel) (by decide +kernel) (by decide +kernel)) (z1p rfl T.z_range (z02 z07 z06)) (fun s H ex=>(z0j (i:=0) nd30 rfl (by first | exact Or.inl rfl | exact Or.inr rfl))) (fun s H ex=>(z3z (z22 (z1j (z01 1) (z01 0))))) (fun s H ex=>(z01 0)))))))))))
theorem zkt {k:Nat} {Nl:List Str} {params:Arguments} {body:Expr} {scope:Scope} {me:M Dv} (T:Tx K mg G A) (LS:LamScope Nl scope) (hb:∀ (cl:List (Str×Addr)) (pm cdv ct:Value),bindArgs (PySem.W.kla_fn "<lambda>" G.lq params body scope cl pm cdv ct) ⟨[],[]⟩=pure [])
    (hbody:∀ (f:Addr) (cdv:Value) (cl:List (Str×Addr)) (A:Around) (outer:List Env) (s:Shared) (H:Hp) (E₀ E:XK),Good (z3r P w K mg base Nl G.lq scope f cdv cl A outer s H E₀) G E k→Snd (z3r P w K mg base Nl G.lq scope f cdv cl A outer s H E₀) G E body me):
    FnOk P w K mg base (CXm P w base) (k+2) A.f_qd A.fd_qd ["_law_call"] (zfz G base Nl params body scope me 4 11 z33):=
  zmu T.F_qd zqd T.hK rfl rfl rfl rfl rfl rfl rfl (by decide) (by decide) (by decide) (by decide) (by decide) (fun _ _=>rfl) (fun _ _=>rfl) (fun _ _=>rfl) rfl T.n_NearError T.e1 T.e2 T.e3 T.e4 LS hb hbody (z3w T)
theorem zqe:FnScope ["_law_script","_law_k","_law_state_here","_law_order_here","_law_thing","_law_left","_law_pairs","_law_none","_law_bad"] ["_law_script"] (z04 s_qw):=⟨rfl,rfl,rfl,by decide +kernel,rfl,by decide +kernel,by decide +kernel⟩
theorem zqf (T:Tx K mg G A) (hC:PySem.W.CodeHd base A.cc A.P) (hB:z6l mg base):FnOk P w K mg base (CXm P w base) 14 A.f_qw A.fd_qw ["_law_script"] (spOf G (F_qw G.scr)):=
  zk5 (k:=13) (N:=["_law_script","_law_k","_law_state_here","_law_order_here","_law_thing","_law_left","_law_pairs","_law_none","_law_bad"]) (mb:=zgx G.scr) T.F_qw zqe T.hK fun cdv Ar outer s H E₀ E hcd g=>
    (z08 (z5r g.own g.calm (z1p rfl T.z_range (z02 (z9i g.calm rfl T.z_max (z02 z07 (z02 (zfe g.calm rfl T.z_min (z02 (zc7 rfl T.z_len (z02 (z01 0) z06)) (z02 z07 z06))) z06))) z06)) (z0j (i:=1) nd31 rfl (by first | exact Or.inl rfl | exact Or.inr rfl)) (z08 (z0u (i:=2) nd31 rfl (by first | exact Or.inl rfl | exact Or.inr rfl) (z0c g (zq2 T) (by decide) rfl T.m_qk T.F_qk.kp T.B_qk (z02 (z01 0) (z02 (z01 1) z06)))) (z08 (z0u (i:=3) nd31 rfl (by first | exact Or.inl rfl | exact Or.inr rfl) (z0c g (zq9 T) (by decide) rfl T.m_ql T.F_ql.kp T.B_ql (z02 (z01 2) (z02 z07 z06)))) (z08 (z5r g.own g.calm (z1p rfl T.z_range (z02 (z1j (z01 3) z07) z06)) (z0j (i:=4) nd31 rfl (by first | exact Or.inl rfl | exact Or.inr rfl)) (z08 (z0u (i:=5) nd31 rfl (by first | exact Or.inl rfl | exact Or.inr rfl) (z4o (z1c g.calm (z3f (N:=["_law_other","_law_thing"]) (cap:=[none,some 4]) (os:=(z04 s_qw)) (oN:=["_law_script","_law_k","_law_state_here","_law_order_here","_law_thing","_law_left","_law_pairs","_law_none","_law_bad"]) rfl rfl rfl (by decide +kernel) rfl (by decide +kernel) (by decide +kernel) (by decide +kernel)) (z1p rfl T.z_range (z02 (z1j (z01 3) z07) z06)) (fun s H ex=>(z0j (i:=0) nd32 rfl (by first | exact Or.inl rfl | exact Or.inr rfl))) (fun s H ex=>(z3z (t_ne (z0o g) (z01 0) (z01 1)))) (fun s H ex=>(z01 0))))) (z08 (z8s (i:=6) nd31 rfl g.calm (z3f (N:=["_law_a","_law_b","_law_left","_law_thing"]) (cap:=[none,none,some 5,some 4]) (os:=(z04 s_qw)) (oN:=["_law_script","_law_k","_law_state_here","_law_order_here","_law_thing","_law_left","_law_pairs","_law_none","_law_bad"]) rfl rfl rfl (by decide +kernel) rfl (by decide +kernel) (by decide +kernel) (by decide +kernel)) (z4n (z1j (z01 3) z07)) (fun s H ex=>(z2r (z0o g).calm (z0n (z0j (i:=0) nd33 rfl (by first | exact Or.inl rfl | exact Or.inr rfl)) (z0n (z0j (i:=1) nd33 rfl (by first | exact Or.inl rfl | exact Or.inr rfl)) z1v)))) (fun s H ex=>(z3z (zn7 (z0o g) (z01 3) (z1r (z02 (z01 0) (z02 (z01 1) z06)))))) (fun s H ex=>(z1r (z02 (z2w (z01 2) (z01 0)) (z02 (z2w (z01 2) (z01 1)) z06))))) (z0f (z25 (t_eq g (z1j (z01 3) z07) z07) (z0f (z25 (t_ne g (zk6 (Nl:=["_law_order_here","_law_thing"]) (caps:=[3,4]) (me:=z55) (os:=z04 s_qw) (oN:=["_law_script","_law_k","_law_state_here","_law_order_here","_law_thing","_law_left","_law_pairs","_law_none","_law_bad"]) g (j:=10+2) (by decide) (fun _=>rfl) (fun base _ _=>zkt (k:=10) T ⟨rfl,rfl,rfl,by decide +kernel,by decide +kernel,by decide +kernel⟩ (fun _ _ _ _=>rfl) (fun f cdv cl Ar outer s H E₀ E g=>(z0c g (zgy T) (by decide) rfl T.m_qv T.F_qv.kp T.B_qv (z02 (z01 0) (z02 (z01 1) z06))))) rfl T.m_qd T.F_qd.kp T.B_qd rfl T.lq T.tab (hcd.symm.trans T.code) hC hB ⟨rfl,rfl,rfl,by decide +kernel,by decide +kernel,by decide +kernel⟩ rfl rfl (by decide +kernel) rfl (by decide +kernel)) (z90 2)) (z0f (z0q z1u)) z1d)) (z0f (z25 (z3c (z22 (z0c g (znt T 6) (by decide) rfl T.m_qq T.F_qq.kp T.B_qq (z02 (z0c g (zgy T) (by decide) rfl T.m_qv T.F_qv.kp T.B_qv (z02 (z01 3) (z02 (z01 4) z06))) (z02 (z1r (z02 (zcu (z1j (z01 3) z07) z07) (z02 (z7j rfl T.z_tuple (z02 (z01 6) z06)) z06))) z06))))) (z0f (z0q z1u)) z1d))))))) (z08 (z0u (i:=7) nd31 rfl (by first | exact Or.inl rfl | exact Or.inr rfl) (z1j (z1e (z02 (z1j (z01 3) z07) (z02 (zn0 z07) (z02 z1u (z02 z8g (z02 z4j (z02 (z90 2) (z02 (zk2 z07 z07) z06)))))))) (z0c g (z6y T) (by decide) rfl T.m_qp T.F_qp.kp T.B_qp (z02 (z01 2) (z02 z07 z06))))) (z08 (z0u (i:=8) nd31 rfl (by first | exact Or.inl rfl | exact Or.inr rfl) (z0c g (zqb T) (by decide) rfl T.m_qb T.F_qb.kp T.B_qb (z02 (z01 2) z06))) (z08 (z25 (t_ne g (zk6 (Nl:=["_law_order_here","_law_none"]) (caps:=[3,7]) (me:=z56) (os:=z04 s_qw) (oN:=["_law_script","_law_k","_law_state_here","_law_order_here","_law_thing","_law_left","_law_pairs","_law_none","_law_bad"]) g (j:=10+2) (by decide) (fun _=>rfl) (fun base _ _=>zkt (k:=10) T ⟨rfl,rfl,rfl,by decide +kernel,by decide +kernel,by decide +kernel⟩ (fun _ _ _ _=>rfl) (fun f cdv cl Ar outer s H E₀ E g=>(z0c g (zgy T) (by decide) rfl T.m_qv T.F_qv.kp T.B_qv (z02 (z01 0) (z02 (z01 1) z06))))) rfl T.m_qd T.F_qd.kp T.B_qd rfl T.lq T.tab (hcd.symm.trans T.code) hC hB ⟨rfl,rfl,rfl,by decide +kernel,by decide +kernel,by decide +kernel⟩ rfl rfl (by decide +kernel) rfl (by decide +kernel)) (z90 2)) (z0f (z0q z1u)) z1d) (z0f (z25 (t_ne g (zk6 (Nl:=["_law_bad","_law_none"]) (caps:=[8,7]) (me:=z57) (os:=z04 s_qw) (oN:=["_law_script","_law_k","_law_state_here","_law_order_here","_law_thing","_law_left","_law_pairs","_law_none","_law_bad"]) g (j:=10+2) (by decide) (fun _=>rfl) (fun base _ _=>zkt (k:=10) T ⟨rfl,rfl,rfl,by decide +kernel,by decide +kernel,by decide +kernel⟩ (fun _ _ _ _=>rfl) (fun f cdv cl Ar outer s H E₀ E g=>(z0c g (zgy T) (by decide) rfl T.m_qv T.F_qv.kp T.B_qv (z02 (z01 0) (z02 (z01 1) z06))))) rfl T.m_qd T.F_qd.kp T.B_qd rfl T.lq T.tab (hcd.symm.trans T.code) hC hB ⟨rfl,rfl,rfl,by decide +kernel,by decide +kernel,by decide +kernel⟩ rfl rfl (by decide +kernel) rfl (by decide +kernel)) (z90 2)) (z0f (z0q z1u)) z1d))))))))) (z0f (z0q z1u)))
end
end L2.Mr.K81
namespace L2.Mr
open PySem PySem.Spec PyProof.Rows L2
theorem z2y {α:Type} {src:Src} {sg:Tgt} {t:M Bool} {m:MC} (xs:List α) (out:α→List Dv) (S:Ev→Hs→Prop)
    (fin:∀ ρ h,S ρ h→src.fin h=true)
    (step:∀ k (hk:k<xs.length) ρ h,S ρ h→∃ d ρ1,src.get k h=some d∧sg d ρ=some ρ1 ∧
      ((∃ h2,t ρ1 h=.ok false h2∧out xs[k]=[]∧S ρ1 h2)∨∃ h2,t ρ1 h=.ok true h2∧∀ acc:List Dv,acc.length+(out xs[k]).length≤900000→∃ ρ3 h3,m ρ1 h2 acc=.ok (ρ3,acc++out xs[k]) h3∧S ρ3 h3)):
    ∀ (f k:Nat) (ρ:Ev) (h:Hs) (acc:List Dv),f+k=xs.length→S ρ h→acc.length+((xs.drop k).flatMap out).length≤900000→∃ ρ' h',z2l src sg t m f k ρ h acc=.ok (ρ',acc++(xs.drop k).flatMap out) h'∧S ρ' h'
  | 0,k,ρ,h,acc,e,s,hl=>by
    have:xs.drop k=[]:=List.drop_eq_nil_of_le (by omega)
    exact ⟨ρ,h,by simp [z2l,fin ρ h s,this],s⟩
  | f+1,k,ρ,h,acc,e,s,hl=>by
    have hk:k<xs.length:=by omega
    obtain ⟨d,ρ1,e1,e2,e3⟩:=step k hk ρ h s
    rw [List.drop_eq_getElem_cons hk,List.flatMap_cons] at hl ⊢
    rw [List.length_append] at hl
    rcases e3 with ⟨h2,e3,e4,s2⟩ | ⟨h2,e3,e4⟩
    · obtain ⟨ρ',h',e5,s5⟩:=z2y xs out S fin step f (k+1) ρ1 h2 acc (by omega) s2 (by omega)
      exact ⟨ρ',h',by simp [z2l,e1,e2,e3,e4,e5],s5⟩
    · obtain ⟨ρ3,h3,e6,s3⟩:=e4 acc (by omega)
      obtain ⟨ρ',h',e5,s5⟩:=z2y xs out S fin step f (k+1) ρ3 h3 (acc++out xs[k]) (by omega) s3 (by rw [List.length_append];omega)
      exact ⟨ρ',h',by simp [z2l,e1,e2,e3,e6,e5],s5⟩
theorem zab {α:Type} {mi:M Src} {cap:List (Option Nat)} {src:Src} {sg:Tgt} {t:M Bool} {m:MC} {ρ:Ev} {H H1:Hs} (xs:List α) (out:α→List Dv) (S:Ev→Hs→Prop)
    (hi:mi ρ H=.ok src H1) (hn:src.n=xs.length) (s0:S (z42 cap ρ) H1) (fin:∀ ρ h,S ρ h→src.fin h=true)
    (step:∀ k (hk:k<xs.length) ρ h,S ρ h→∃ d ρ1,src.get k h=some d∧sg d ρ=some ρ1 ∧
      ((∃ h2,t ρ1 h=.ok false h2∧out xs[k]=[]∧S ρ1 h2)∨∃ h2,t ρ1 h=.ok true h2∧∀ acc:List Dv,acc.length+(out xs[k]).length≤900000→∃ ρ3 h3,m ρ1 h2 acc=.ok (ρ3,acc++out xs[k]) h3∧S ρ3 h3))
    (hl:(xs.flatMap out).length≤900000):∃ ρ' H',z0v mi cap sg t m ρ H=.ok (xs.flatMap out) H'∧S ρ' H':=by
  obtain ⟨ρ',h',e,s⟩:=z2y xs out S fin step xs.length 0 (z42 cap ρ) H1 [] (by omega) s0 (by simpa using hl)
  refine ⟨ρ',h', ?_,s⟩
  unfold z0v
  rw [hi,Rs.bind_ok,hn,e]
  simp
theorem znu {e:M Dv} {ρ:Ev} {h h1:Hs} {d:Dv} {acc:List Dv} (he:e ρ h=.ok d h1) (hl:acc.length+[d].length≤900000):z0t e ρ h acc=.ok (ρ,acc++[d]) h1:=by
  have:acc.length<1000000:=by simp at hl;omega
  simp [z0t,he,this]
theorem z11 {α:Type} {mi:M Src} {cap:List (Option Nat)} {src:Src} {sg:Tgt} {t:M Bool} {e:M Dv} {ρ:Ev} {H H1:Hs} (xs:List α) (g:α→Option Dv) (S:Ev→Prop)
    (hi:mi ρ H=.ok src H1) (hn:src.n=xs.length) (s0:S (z42 cap ρ)) (fin:src.fin H1=true)
    (step:∀ k (hk:k<xs.length) ρ,S ρ→∃ d ρ1,src.get k H1=some d∧sg d ρ=some ρ1∧S ρ1∧match g xs[k] with
      | none=>t ρ1 H1=.ok false H1
      | some v=>t ρ1 H1=.ok true H1∧e ρ1 H1=.ok v H1)
    (hl:xs.length≤900000):z0v mi cap sg t (z0t e) ρ H=.ok (xs.filterMap g) H1:=by
  have fm:∀ l:List α,l.flatMap (fun x=>(g x).toList)=l.filterMap g:=fun l=>by
    induction l with
    | nil=>rfl
    | cons x l ih=>rw [List.flatMap_cons,ih,List.filterMap_cons];cases g x <;> rfl
  have len:(xs.filterMap g).length≤xs.length:=List.length_filterMap_le g xs
  obtain ⟨ρ',H',h,_,rfl⟩:=zab (mi:=mi) (cap:=cap) (src:=src) (sg:=sg) (t:=t) (m:=z0t e) (ρ:=ρ) (H:=H) (H1:=H1) xs (fun x=>(g x).toList) (fun ρ h=>S ρ∧h=H1) hi hn ⟨s0,rfl⟩ (fun ρ h s=>by rw [s.2];exact fin)
    (fun k hk ρ h ⟨s,e1⟩=>by
      subst e1
      obtain ⟨d,ρ1,e1,e2,s1,e3⟩:=step k hk ρ s
      refine ⟨d,ρ1,e1,e2, ?_⟩
      cases q:g xs[k] with
      | none=>rw [q] at e3;exact .inl ⟨h,e3,rfl,s1,rfl⟩
      | some v=>
        rw [q] at e3
        exact .inr ⟨h,e3.1,fun acc hl=>⟨ρ1,h,znu e3.2 hl,s1,rfl⟩⟩) (by rw [fm];omega)
  rw [h,fm]
theorem zbc {α β:Type} {mi mj:M Src} {cap:List (Option Nat)} {src:Src} {sg sg2:Tgt} {t2:M Bool} {e:M Dv} {ρ:Ev} {H H1:Hs} (xs:List α) (ys:α→List β) (g:α→β→Option Dv) (S:Ev→Prop)
    (hi:mi ρ H=.ok src H1) (hn:src.n=xs.length) (s0:S (z42 cap ρ)) (fin:src.fin H1=true)
    (step:∀ k (hk:k<xs.length) ρ,S ρ→∃ (d:Dv) (ρ1:Ev) (src2:Src) (S2:Ev→Prop),src.get k H1=some d∧sg d ρ=some ρ1∧S2 ρ1∧(∀ ρ,S2 ρ→S ρ)∧mj ρ1 H1=.ok src2 H1∧src2.n=(ys xs[k]).length∧src2.fin H1=true ∧
      ∀ j (hj:j<(ys xs[k]).length) ρ,S2 ρ→∃ d ρ2,src2.get j H1=some d∧sg2 d ρ=some ρ2∧S2 ρ2∧match g xs[k] (ys xs[k])[j] with
        | none=>t2 ρ2 H1=.ok false H1
        | some v=>t2 ρ2 H1=.ok true H1∧e ρ2 H1=.ok v H1)
    (hl:(xs.flatMap fun x=>(ys x).filterMap (g x)).length≤900000):z0v mi cap sg z26 (z2f mj sg2 t2 (z0t e)) ρ H=.ok (xs.flatMap fun x=>(ys x).filterMap (g x)) H1:=by
  have fm:∀ (x:α) (l:List β),l.flatMap (fun y=>(g x y).toList)=l.filterMap (g x):=fun x l=>by
    induction l with
    | nil=>rfl
    | cons y l ih=>rw [List.flatMap_cons,ih,List.filterMap_cons];cases g x y <;> rfl
  obtain ⟨ρ',H',h,_,rfl⟩:=zab (mi:=mi) (cap:=cap) (src:=src) (sg:=sg) (t:=z26) (m:=z2f mj sg2 t2 (z0t e)) (ρ:=ρ) (H:=H) (H1:=H1) xs (fun x=>(ys x).filterMap (g x)) (fun ρ h=>S ρ∧h=H1) hi hn ⟨s0,rfl⟩ (fun ρ h s=>by rw [s.2];exact fin)
    (fun k hk ρ h ⟨s,e1⟩=>by
      subst e1
      obtain ⟨d,ρ1,src2,S2,e1,e2,s1,sS,e3,e4,e5,e6⟩:=step k hk ρ s
      refine ⟨d,ρ1,e1,e2,.inr ⟨h,rfl,fun acc hl=>?_⟩⟩
      obtain ⟨ρ3,h3,r,s3,rfl⟩:=z2y (src:=src2) (sg:=sg2) (t:=t2) (m:=z0t e) (ys xs[k]) (fun y=>(g xs[k] y).toList) (fun ρ hh=>S2 ρ∧hh=h) (fun ρ hh s=>by rw [s.2];exact e5)
        (fun j hj ρ hh ⟨s,e1⟩=>by
          subst e1
          obtain ⟨d,ρ2,z1,z2,z3,z4⟩:=e6 j hj ρ s
          refine ⟨d,ρ2,z1,z2, ?_⟩
          cases q:g xs[k] (ys xs[k])[j] with
          | none=>rw [q] at z4;exact .inl ⟨hh,z4,rfl,z3,rfl⟩
          | some v=>
            rw [q] at z4
            exact .inr ⟨hh,z4.1,fun acc hl=>⟨ρ2,hh,znu z4.2 hl,z3,rfl⟩⟩) (ys xs[k]).length 0 ρ1 h acc (by omega) ⟨s1,rfl⟩ (by rw [List.drop_zero,fm];exact hl)
      refine ⟨ρ3,h3, ?_,sS ρ3 s3,rfl⟩
      unfold z2f
      rw [e3]
      dsimp only
      rw [e4,r,List.drop_zero,fm]) hl
  exact h
theorem zku {c:M Bool} {b:MS} {f:Nat} {ρ:Ev} {h h1:Hs} (e:c ρ h=.ok false h1):z1w c b (f+1) ρ h=.nx ρ h1:=by
  show (c ρ h).thenS _=_
  rw [e];rfl
theorem ze6 {c:M Bool} {b:MS} {f:Nat} {ρ ρ2:Ev} {h h1 h2:Hs} (e:c ρ h=.ok true h1) (q:b ρ h1=.nx ρ2 h2):z1w c b (f+1) ρ h=z1w c b f ρ2 h2:=by
  show (c ρ h).thenS _=_
  rw [e]
  simp [Rs.thenS,q]
theorem zkv {c:M Bool} {b:MS} {f:Nat} {ρ:Ev} {d:Dv} {h h1 h2:Hs} (e:c ρ h=.ok true h1) (q:b ρ h1=.rt d h2):z1w c b (f+1) ρ h=.rt d h2:=by
  show (c ρ h).thenS _=_
  rw [e]
  simp [Rs.thenS,q]
theorem z6z:∀ bs:List Bool,optL blD (bs.map Dv.bl)=some bs
  | []=>rfl
  | b::bs=>by rw [List.map_cons,optL,z6z bs];rfl
end L2.Mr
namespace L2.Mr.Com
open PySem PySem.Spec PyProof.Rows L2 L2.Mr
def ordD (n:Nat) (ps:List (Int×Int)):Dv:=.tup [.int n,.tup (ps.map prD)]
theorem ord0 {n:Nat} {ps:List (Int×Int)} (H:Hs):ix0 (ordD n ps) (.int 0) H=.ok (.int n) H:=rfl
theorem ord1 {n:Nat} {ps:List (Int×Int)} (H:Hs):ix0 (ordD n ps) (.int 1) H=.ok (.tup (ps.map prD)) H:=rfl
theorem z5z {α:Type} {ml:M (List Dv)} {ρ:Ev} {H H1:Hs} {xs:List α} {f:α→Bool} (h:ml ρ H=.ok (xs.filterMap fun x=>some (.bl (f x))) H1):mL allF ml ρ H=.ok (.bl (xs.all f)) H1:=by
  have e:(xs.filterMap fun x=>some (Dv.bl (f x)))=(xs.map f).map Dv.bl:=by simp
  unfold mL
  rw [h,Rs.bind_ok,e]
  unfold allF
  rw [z6z]
  simp [List.all_map]
theorem znv {α:Type} {ml:M (List Dv)} {ρ:Ev} {H H1:Hs} {xs:List α} {f:α→Bool} (h:ml ρ H=.ok (xs.filterMap fun x=>some (.bl (f x))) H1):mL anyF ml ρ H=.ok (.bl (xs.any f)) H1:=by
  have e:(xs.filterMap fun x=>some (Dv.bl (f x)))=(xs.map f).map Dv.bl:=by simp
  unfold mL
  rw [h,Rs.bind_ok,e]
  unfold anyF
  rw [z6z]
  simp [List.any_map]
section
variable {H:Hs} {n x:Int} {ps:List (Int×Int)}
theorem z86:F_qr [.int x] H=.ok (.bl true) H:=by
  simp [F_qr,zgk,z0i,z09,mRet,z20,m1,mVar,isiD,tyD,z5v,z2g,notD,z0r]
theorem z34 {lo hi:Int}:F_qg [.int x,.int lo,.int hi] H=.ok (.bl (decide (lo≤x)&&decide (x≤hi))) H:=by
  by_cases h:lo≤x
  · simp [F_qg,ze2,z0i,z09,mRet,z20,z05,z00,mVar,mNil,z86,z5n,leD,iOp,h,z0r]
  · simp [F_qg,ze2,z0i,z09,mRet,z20,z05,z00,mVar,mNil,z86,z5n,leD,iOp,h,z0r]
def isT (n x:Int):Bool:=decide (0≤x)&&decide (x≤n - 1)
theorem z87:F_qs [.int n,.int x] H=.ok (.bl (isT n x)) H:=by
  simp [F_qs,zgl,z0i,z09,mRet,z05,z00,mVar,mNil,mC,m2,subD,iOp,z34,z0r,isT]
theorem z92 {xs:List Int} (hl:xs.length≤1000):F_qh [.int n,.tup (xs.map Dv.int)] H=.ok (.bl (xs.all (isT n))) H:=by
  have h:z0v (m1s tupS (mVar 1)) [none,some 0] (z03 0) z26 (z0t (z05 F_qs (z00 (mVar 1) (z00 (mVar 0) mNil)))) [some (.int n),some (.tup (xs.map Dv.int))] H=.ok (xs.filterMap fun x=>some (.bl (isT n x))) H:=
    z11 xs (fun x=>some (.bl (isT n x))) (fun ρ=>∃ a,ρ=[a,some (.int n)]) rfl (by simp [srcL]) ⟨_,rfl⟩ rfl (fun k hk ρ ⟨a,e⟩=>by
      subst e
      exact ⟨.int xs[k],_,by simp [srcL,hk],rfl,⟨_,rfl⟩,rfl,by simp [z05,z00,mVar,mNil,z87]⟩) (by omega)
  simp [F_qh,ze3,z0i,z09,mRet,z20,m1,isiD,mVar,tyD,z23,z5z h,z0r]
def isP (n:Int) (p:Int×Int):Bool:=isT n p.1&&isT n p.2
theorem zkw (p:Int×Int):F_qu [.int n,prD p] H=.ok (.bl (isP n p)) H:=by
  have h:F_qh [.int n,prD p] H=.ok (.bl (isP n p)) H:=by
    have:=z92 (H:=H) (n:=n) (xs:=[p.1,p.2]) (by simp)
    simpa [prD,isP] using this
  have hlen:f1 len0 [prD p] H=.ok (.int 2) H:=rfl
  cases q:isP n p with
  | false=>simp [F_qu,z8y,z0i,z09,mRet,z20,z05,z00,mVar,mNil,h,q,z0r]
  | true=>simp [F_qu,z8y,z0i,z09,mRet,z20,z05,z00,mVar,mNil,h,q,z0r,m2,hlen,mC,eqD,z0w,pur,deq]
theorem zgz (hl:ps.length≤1000):F_qn [.int n,.tup (ps.map prD)] H=.ok (.bl (ps.all (isP n))) H:=by
  have h:z0v (m1s tupS (mVar 1)) [none,some 0] (z03 0) z26 (z0t (z05 F_qu (z00 (mVar 1) (z00 (mVar 0) mNil)))) [some (.int n),some (.tup (ps.map prD))] H=.ok (ps.filterMap fun p=>some (.bl (isP n p))) H:=
    z11 ps (fun p=>some (.bl (isP n p))) (fun ρ=>∃ a,ρ=[a,some (.int n)]) rfl (by simp [srcL]) ⟨_,rfl⟩ rfl (fun k hk ρ ⟨a,e⟩=>by
      subst e
      exact ⟨prD ps[k],_,by simp [srcL,hk],rfl,⟨_,rfl⟩,rfl,by simp [z05,z00,mVar,mNil,zkw]⟩) (by omega)
  simp [F_qn,zgm,z0i,z09,mRet,z5z h,z0r]
theorem zh0 (hl:ps.length≤1000):F_qo [.tup (ps.map prD)] H=.ok (.bl (ps.any fun p=>decide (p.1=p.2))) H:=by
  have h:z0v (m1s tupS (mVar 0)) [none,none] (sTup 2 (z0l (z03 0) (z0l (z03 1) sNil))) z26 (z0t (m2 eqD (mVar 0) (mVar 1))) [some (.tup (ps.map prD))] H=.ok (ps.filterMap fun p=>some (.bl (decide (p.1=p.2)))) H:=
    z11 ps (fun p=>some (.bl (decide (p.1=p.2)))) (fun ρ=>∃ a b,ρ=[a,b]) rfl (by simp [srcL]) ⟨_,_,rfl⟩ rfl (fun k hk ρ ⟨a,b,e⟩=>by
      subst e
      refine ⟨prD ps[k],[some (.int ps[k].1),some (.int ps[k].2)],by simp [srcL,hk],rfl,⟨_,_,rfl⟩,rfl, ?_⟩
      simp [m2,mVar,eqD,z0w,pur,deq]
      rw [Bool.eq_iff_iff];simp) (by omega)
  simp [F_qo,zkn,z0i,z09,mRet,znv h,z0r]
theorem zqg (p q:Int×Int):ltE (prD p) (prD q) H=.ok (.bl (ltP p q)) H:=by
  simp only [ltE,prD,optL,intD,za8]
  rw [← z3h]
  rfl
def z30 (ps:List (Int×Int)):Bool:=(ps.zip (ps.drop 1)).all fun q=>ltP q.1 q.2
theorem rising_of:∀ {ps:List (Int×Int)},z30 ps=true↔z21 ltP ps
  | []=>by simp [z30,z21]
  | [p]=>by simp [z30,z21]
  | p::q::r=>by
    have ih:=rising_of (ps:=q::r)
    have e:z30 (p::q::r)=(ltP p q&&z30 (q::r)):=by simp [z30]
    rw [e,Bool.and_eq_true,ih]
    constructor
    · rintro ⟨h1,h2⟩
      refine List.pairwise_cons.mpr ⟨fun z hz=>?_,h2⟩
      rcases List.mem_cons.mp hz with rfl | hz
      · exact h1
      · exact stoP.tr _ _ _ h1 ((List.pairwise_cons.mp h2).1 z hz)
    · intro h
      have:=List.pairwise_cons.mp h
      exact ⟨this.1 q (by simp),this.2⟩
theorem cut1 (ds:List Dv):cutD ds (some 1) none=ds.drop 1:=by
  unfold cutD
  rw [show HT.sIx ds.length 0 (some 1)=min 1 ds.length from HT.sIx_nat ds.length 0 1,HT.sIx_none]
  cases ds with
  | nil=>rfl
  | cons a r=>simp
theorem ze7 (hl:ps.length≤1000):F_qm [.tup (ps.map prD)] H=.ok (.bl (z30 ps)) H:=by
  have hi:mas zipS (z00 (mVar 0) (z00 (mSlE (mVar 0) (mBd (mC (.int 1))) mNoB) mNil)) [some (.tup (ps.map prD))] H=.ok (srcZ (ps.map prD) ((ps.drop 1).map prD)) H:=by
    simp [mas,z00,mVar,mSlE,mBd,mC,asI,mNoB,slE,mNil,zipS,cut1,List.map_drop]
  have hz:((ps.map prD).zip ((ps.drop 1).map prD)).map (fun q=>Dv.tup [q.1,q.2])=(ps.zip (ps.drop 1)).map fun q=>Dv.tup [prD q.1,prD q.2]:=by
    rw [List.zip_map,List.map_map];rfl
  have h:z0v (mas zipS (z00 (mVar 0) (z00 (mSlE (mVar 0) (mBd (mC (.int 1))) mNoB) mNil))) [none,none] (sTup 2 (z0l (z03 0) (z0l (z03 1) sNil))) z26 (z0t (m2 ltE (mVar 0) (mVar 1))) [some (.tup (ps.map prD))] H=.ok ((ps.zip (ps.drop 1)).filterMap fun q=>some (.bl (ltP q.1 q.2))) H:=
    z11 (ps.zip (ps.drop 1)) (fun q=>some (.bl (ltP q.1 q.2))) (fun ρ=>∃ a b,ρ=[a,b]) hi (by simp [srcZ,srcL]) ⟨_,_,rfl⟩ rfl (fun k hk ρ ⟨a,b,e⟩=>by
      subst e
      refine ⟨.tup [prD (ps.zip (ps.drop 1))[k].1,prD (ps.zip (ps.drop 1))[k].2],[some (prD (ps.zip (ps.drop 1))[k].1),some (prD (ps.zip (ps.drop 1))[k].2)], ?_,rfl,⟨_,_,rfl⟩,rfl, ?_⟩
      · show (((ps.map prD).zip ((ps.drop 1).map prD)).map (fun q=>Dv.tup [q.1,q.2]))[k]?=_
        rw [hz,List.getElem?_map,List.getElem?_eq_getElem hk];rfl
      · simp only [m2,mVar]
        exact zqg _ _) (by rw [List.length_zip];omega)
  simp [F_qm,zkm,z0i,z09,mRet,z5z h,z0r,z30]
def z3k (ps:List (Int×Int)):Bool:=ps.all fun p=>ps.all fun q=>!decide (p.2=q.1)||decide ((p.1,q.2)∈ps)
theorem z93 (hl:ps.length≤900):F_qe [.tup (ps.map prD)] H=.ok (.bl (z3k ps)) H:=by
  let g:Int×Int→Int×Int→Option Dv:=fun p q=>if p.2=q.1 then some (.bl (decide ((p.1,q.2)∈ps))) else none
  have h:z0v (m1s tupS (mVar 0)) [none,none,none,none,some 0] (sTup 2 (z0l (z03 0) (z0l (z03 1) sNil))) z26 (z2f (m1s tupS (mVar 4)) (sTup 2 (z0l (z03 2) (z0l (z03 3) sNil))) (mB (m2 eqD (mVar 1) (mVar 2))) (z0t (m2 (in0 false) (mTup (z00 (mVar 0) (z00 (mVar 3) mNil))) (mVar 4)))) [some (.tup (ps.map prD))] H=.ok (ps.flatMap fun p=>ps.filterMap (g p)) H:=
    zbc ps (fun _=>ps) g (fun ρ=>∃ a b c d,ρ=[a,b,c,d,some (.tup (ps.map prD))]) rfl (by simp [srcL]) ⟨_,_,_,_,rfl⟩ rfl (fun k hk ρ ⟨a,b,c,d,e⟩=>by
      subst e
      refine ⟨prD ps[k],[some (.int ps[k].1),some (.int ps[k].2),c,d,some (.tup (ps.map prD))],srcL (ps.map prD),fun ρ=>∃ c d,ρ=[some (.int ps[k].1),some (.int ps[k].2),c,d,some (.tup (ps.map prD))],by simp [srcL,hk],rfl,⟨_,_,rfl⟩,fun ρ ⟨c,d,e⟩=>⟨_,_,_,_,e⟩,rfl,by simp [srcL],rfl,fun j hj ρ ⟨c,d,e⟩=>?_⟩
      subst e
      refine ⟨prD ps[j],[some (.int ps[k].1),some (.int ps[k].2),some (.int ps[j].1),some (.int ps[j].2),some (.tup (ps.map prD))],by simp [srcL,hj],rfl,⟨_,_,rfl⟩, ?_⟩
      have te:mB (m2 eqD (mVar 1) (mVar 2)) [some (.int ps[k].1),some (.int ps[k].2),some (.int ps[j].1),some (.int ps[j].2),some (.tup (ps.map prD))] H=.ok (decide (ps[k].2=ps[j].1)) H:=by
        simp [mB,m2,mVar,eqD,z0w,pur,deq,asB]
        rw [Bool.eq_iff_iff];simp
      by_cases c1:ps[k].2=ps[j].1
      · rw [decide_eq_true c1] at te
        have hg:g ps[k] ps[j]=some (.bl (decide ((ps[k].1,ps[j].2)∈ps))):=if_pos c1
        rw [hg]
        refine ⟨te, ?_⟩
        have hx:mTup (z00 (mVar 0) (z00 (mVar 3) mNil)) [some (.int ps[k].1),some (.int ps[k].2),some (.int ps[j].1),some (.int ps[j].2),some (.tup (ps.map prD))] H=.ok (prD (ps[k].1,ps[j].2)) H:=rfl
        unfold m2
        rw [hx,Rs.bind_ok]
        show (Rs.ok (Dv.tup (ps.map prD)) H).bind _=_
        rw [Rs.bind_ok,zn8]
        rfl
      · rw [decide_eq_false c1] at te
        have hg:g ps[k] ps[j]=none:=if_neg c1
        rw [hg]
        exact te) (by
      have:∀ l:List (Int×Int),(l.flatMap fun p=>ps.filterMap (g p)).length≤l.length*ps.length:=fun l=>by
        induction l with
        | nil=>simp
        | cons p l ih=>
          rw [List.flatMap_cons,List.length_append,List.length_cons,Nat.succ_mul]
          have:=List.length_filterMap_le (g p) ps
          omega
      have h2:=this ps
      have h3:ps.length*ps.length≤900*900:=Nat.mul_le_mul hl hl
      omega)
  have hb:(ps.flatMap fun p=>ps.filterMap (g p))=(ps.flatMap fun p=>ps.filterMap fun q=>if p.2=q.1 then some (decide ((p.1,q.2)∈ps)) else none).map Dv.bl:=by
    rw [List.map_flatMap]
    congr 1
    funext p
    rw [List.map_filterMap]
    congr 1
    funext q
    show (if p.2=q.1 then some (Dv.bl (decide ((p.1,q.2)∈ps))) else none)=_
    split <;> rfl
  have hall:mL allF (z0v (m1s tupS (mVar 0)) [none,none,none,none,some 0] (sTup 2 (z0l (z03 0) (z0l (z03 1) sNil))) z26 (z2f (m1s tupS (mVar 4)) (sTup 2 (z0l (z03 2) (z0l (z03 3) sNil))) (mB (m2 eqD (mVar 1) (mVar 2))) (z0t (m2 (in0 false) (mTup (z00 (mVar 0) (z00 (mVar 3) mNil))) (mVar 4))))) [some (.tup (ps.map prD))] H=.ok (.bl (z3k ps)) H:=by
    unfold mL
    rw [h,Rs.bind_ok,hb]
    unfold allF
    rw [z6z]
    dsimp only
    congr 2
    rw [Bool.eq_iff_iff]
    unfold z3k
    simp only [List.all_eq_true,List.mem_flatMap,List.mem_filterMap,id]
    constructor
    · intro h p hp q hq
      by_cases c:p.2=q.1
      · have:=h (decide ((p.1,q.2)∈ps)) ⟨p,hp,q,hq,if_pos c⟩
        simp [c,this]
      · simp [c]
    · rintro h b ⟨p,hp,q,hq,e⟩
      have:=h p hp q hq
      by_cases c:p.2=q.1
      · rw [if_pos c] at e;cases e
        simpa [c] using this
      · rw [if_neg c] at e;cases e
  simp [F_qe,zko,z0i,z09,mRet,hall,z0r]
def z60 (n:Int) (ps:List (Int×Int)):Bool:=decide (1≤n)&&decide (n≤6)&&ps.all (isP n)&&z30 ps&&!(ps.any fun p=>decide (p.1=p.2))&&z3k ps
theorem zac {n:Int} (hl:ps.length≤900):F_qt [.tup [.int n,.tup (ps.map prD)]] H=.ok (.bl (z60 n ps)) H:=by
  have b:=z34 (H:=H) (x:=n) (lo:=1) (hi:=6)
  have p1:=zgz (H:=H) (n:=n) (ps:=ps) (by omega)
  have p2:=ze7 (H:=H) (ps:=ps) (by omega)
  have p3:=zh0 (H:=H) (ps:=ps) (by omega)
  have p4:=z93 (H:=H) (ps:=ps) hl
  have hlen:f1 len0 [.tup [.int n,.tup (ps.map prD)]] H=.ok (.int 2) H:=rfl
  unfold z60
  generalize (decide (1≤n)&&decide (n≤6))=c0 at b ⊢
  generalize ps.all (isP n)=c1 at p1 ⊢
  generalize z30 ps=c2 at p2 ⊢
  generalize (ps.any fun p=>decide (p.1=p.2))=c3 at p3 ⊢
  generalize z3k ps=c4 at p4 ⊢
  cases c0 <;> cases c1 <;> cases c2 <;> cases c3 <;> cases c4 <;>
    simp [F_qt,z85,z0i,z09,mSeq,mIf,mOr,mNot,mTru,m1,isiD,mVar,tyD,z23,truD,mB,m2,z05,z00,mNil,hlen,mC,neD,z0w,pur,deq,asB,z0x,mAsg,sTup,z0l,z03,sNil,b,p1,p2,p3,p4,mRet,z20,notD,z0r]
end
structure OrdP (n:Nat) (ps:List (Int×Int)):Prop where
  n1:1≤n
  n6:n≤6
  rng:∀ p∈ps,0≤p.1∧p.1<n∧0≤p.2∧p.2<n
  rise:z21 ltP ps
  irr:∀ p∈ps,p.1≠p.2
  tr:∀ p∈ps,∀ q∈ps,p.2=q.1→(p.1,q.2)∈ps
section
variable {n:Nat} {ps:List (Int×Int)} {H:Hs}
def allP (n:Nat):List (Int×Int):=(List.range n).flatMap fun a:Nat=>(List.range n).map fun b:Nat=>((a:Int),(b:Int))
theorem zh1 (n:Nat):(allP n).length=n*n:=by
  unfold allP
  have:∀ l:List Nat,(l.flatMap fun a:Nat=>(List.range n).map fun b:Nat=>((a:Int),(b:Int))).length=l.length*n:=fun l=>by
    induction l with
    | nil=>simp
    | cons a l ih=>rw [List.flatMap_cons,List.length_append,ih,List.length_cons,Nat.succ_mul];simp;omega
  rw [this];simp
theorem zh2 {p:Int×Int} (h:0≤p.1∧p.1<n∧0≤p.2∧p.2<n):p∈allP n:=by
  obtain ⟨a,b⟩:=p
  simp only at h
  refine List.mem_flatMap.mpr ⟨a.toNat,List.mem_range.mpr (by omega),List.mem_map.mpr ⟨b.toNat,List.mem_range.mpr (by omega), ?_⟩⟩
  simp;omega
theorem z1z (hr:z21 ltP ps) (hp:∀ p∈ps,0≤p.1∧p.1<n∧0≤p.2∧p.2<n):ps.length≤n*n:=by
  rw [← zh1 n]
  exact (z1y stoP hr).length_le_of_subset fun p h=>zh2 (hp p h)
theorem OrdP.len (o:OrdP n ps):ps.length≤36:=by
  have h1:=z1z o.rise o.rng
  have h2:n*n≤6*6:=Nat.mul_le_mul o.n6 o.n6
  omega
theorem OrdP.b (o:OrdP n ps):z60 n ps=true:=by
  have h1:=o.n1
  have h6:=o.n6
  unfold z60
  simp only [Bool.and_eq_true,decide_eq_true_eq,Bool.not_eq_true']
  refine ⟨⟨⟨⟨⟨by omega,by omega⟩, ?_⟩,rising_of.mpr o.rise⟩, ?_⟩, ?_⟩
  · refine List.all_eq_true.mpr fun p hp=>?_
    have:=o.rng p hp
    simp [isP,isT];omega
  · refine List.any_eq_false.mpr fun p hp=>?_
    simpa using o.irr p hp
  · refine List.all_eq_true.mpr fun p hp=>List.all_eq_true.mpr fun q hq=>?_
    by_cases c:p.2=q.1
    · simp [c,o.tr p hp q hq c]
    · simp [c]
theorem zh3 (o:OrdP n ps):F_qt [ordD n ps] H=.ok (.bl true) H:=by
  have:=zac (H:=H) (n:=(n:Int)) (ps:=ps) (by have:=o.len;omega)
  rw [o.b] at this
  exact this
end
theorem zh4 (H:Hs) (n:Nat) (a:Int) (b:Bool) (m:Int) (h0:0<m) (h1:m<18446744073709551616) (e:getL H n=some [.int a,.bl b]):
    ∃ r a',0≤r∧r<m∧F_qp [.ref n,.int m] H=.ok (.int r) (H.set n (.lst [.int a',.bl b])):=by
  cases b with
  | true=>
    refine ⟨a % m,a / m,Int.emod_nonneg _ (by omega),Int.emod_lt_of_pos _ h0, ?_⟩
    simp [F_qp,zgp,z0i,z09,mSeq,mIf,mTru,m2,mVar,mC,ix0,z2m,ixD,e,atL,atI,ixN,truD,mAsg,modD,iOpC,modB,h0,z03,z7k,zd3,divW,h1,setD,mRet,z0r]
  | false=>
    have q1:∀ ys,getL (H.set n (.lst ys)) n=some ys:=fun ys=>z2h e
    generalize hs:(a*48271+29) % 2147483647=s
    have s0:0≤s:=by omega
    have s1:s<2147483647:=by omega
    generalize ht:(s*s+39373*s+7) % 2147483629=t
    have t0:0≤t:=by omega
    have t1:t<2147483629:=by omega
    generalize hu:(t*t+16807*t) % 2147483587=u
    refine ⟨u / 8 % m,s,Int.emod_nonneg _ (by omega),Int.emod_lt_of_pos _ h0, ?_⟩
    have w1:inW s=true:=by simp [inW];omega
    have w2:inW t=true:=by simp [inW];omega
    have w3:inW 48271=true:=by decide
    have w4:inW 39373=true:=by decide
    have w5:inW 16807=true:=by decide
    simp [F_qp,zgp,z0i,z09,mSeq,mIf,mTru,m2,mVar,mC,ix0,z2m,ixD,e,atL,atI,ixN,truD,mAsg,modD,iOpC,modB,h0,z03,z7k,zd3,divW,h1,setD,mRet,z0r,z0x,addE,addD,mulD,mulB,w1,w2,w3,w4,w5,q1,hs,ht,hu]
def St (n:Nat) (H:Hs):Prop:=∃ a b,getL H n=some [.int a,.bl b]
theorem St.fr {n:Nat} {S:List Nat} {H H':Hs} (s:St n H) (f:Fr S H H') (h:n∉S):St n H':=let ⟨a,b,e⟩:=s;⟨a,b,f.getL e h⟩
theorem z2i {H:Hs} {n:Nat} (m:Int) (s:St n H) (h0:0<m:=by decide) (h1:m<18446744073709551616:=by decide):
    ∃ r H',0≤r∧r<m∧F_qp [.ref n,.int m] H=.ok (.int r) H'∧Fr [n] H H'∧St n H':=by
  obtain ⟨a,b,e⟩:=s
  obtain ⟨r,a',r0,r1,ht⟩:=zh4 H n a b m h0 h1 e
  exact ⟨r,_,r0,r1,ht,Fr.set,a',b,z2h e⟩
theorem zh5 (scr:List Int) (k:Nat) (h:Hs):∃ H',F_qk scr [.scr,.int k] h=.ok (.ref h.length) H'∧Fr [] h H'∧St h.length H':=by
  have cell:∃ c,F_qc scr [.scr,.int k] h=.ok (.int c) h:=by
    by_cases hk:k<scr.length
    · refine ⟨scr[k], ?_⟩
      have hk':(k:Int)<scr.length:=by omega
      simp [F_qc,zgn,z0i,z09,mSeq,mIf,mB,m2,mVar,mC,ltE,z05,f1,lenD,seqD,z00,mNil,asB,hk',hk,ixD,atL,atI,ixN,mRet,z0r]
    · refine ⟨0, ?_⟩
      have hk':¬ (k:Int)<scr.length:=by omega
      simp [F_qc,zgn,z0i,z09,mSeq,mIf,mB,m2,mVar,mC,ltE,z05,f1,lenD,seqD,z00,mNil,asB,hk',hk,ixD,atL,atI,ixN,mRet,z0r,z0x]
  obtain ⟨c,hc⟩:=cell
  have fin:∀ a b,Fr [] h (h++[Ob.lst [.int a,.bl b]])∧St h.length (h++[Ob.lst [.int a,.bl b]]):=fun a b=>⟨Fr.app,a,b,by rw [zd2];rfl⟩
  by_cases hg:c≥1000000000000000000
  · refine ⟨_, ?_,fin (c - 1000000000000000000) true⟩
    simp [F_qk,zgo,z0i,z09,mSeq,mAsg,z05,z00,mVar,mNil,hc,z03,mIf,mB,m2,geD,iOp,powD,iOpC,powB,mC,asB,hg,mRet,mLst,subD,lim,z0r]
  · refine ⟨_, ?_,fin (c % 2147483647) false⟩
    simp [F_qk,zgo,z0i,z09,mSeq,mAsg,z05,z00,mVar,mNil,hc,z03,mIf,mB,m2,geD,iOp,powD,iOpC,powB,mC,asB,hg,mRet,mLst,subD,lim,z0r,z0x,modD,modB]
theorem St.lt {st:Nat} {H:Hs} (s:St st H):st<H.length:=let ⟨_,_,e⟩:=s;z31 e
theorem znw {H:Hs} {q:Nat} {ks:List Int} (e:getL H q=some (ks.map Dv.int)):neD (.ref q) (.ref H.length) (H++[.lst []])=.ok (.bl (!ks.isEmpty)) (H++[.lst []]):=by
  have p1:pur z0w (H++[.lst []]) (.ref q)=some (.lst (ks.map Dt.int)):=by
    show pur (28+1+1) (H++[.lst []]) (.ref q)=_
    rw [pur]
    simp only [z1m (l:=[.lst []]) e,z6o]
  have p2:pur z0w (H++[.lst []]) (.ref H.length)=some (.lst []):=by
    show pur (28+1+1) (H++[.lst []]) (.ref H.length)=_
    rw [pur]
    have:getL (H++[.lst []]) H.length=some []:=by simp [getL]
    simp only [this];rfl
  unfold neD
  rw [p1,p2]
  cases ks <;> simp [deq,deqL]
def mixC:M Bool:=mB (m2 neD (mVar 2) (mLst mNil))
def mixB:MS:=z1s (mApp (mVar 3) (mPop (mVar 2) (z05 F_qp (z00 (mVar 0) (z00 (z05 (f1 len0) (z00 (mVar 2) mNil)) mNil)))))
theorem zh6:zgq=mSeq (mAsg (z05 (f1 z4y) (z00 (mVar 1) mNil)) (z03 2)) (mSeq (mAsg (mLst mNil) (z03 3)) (mSeq (z1w mixC mixB 40) (mRet (mVar 3)))):=rfl
section
variable {st a b:Nat} {d:Dv}
theorem zad (hab:a≠b) (has:a≠st) (hbs:b≠st):∀ (f:Nat) (ls fs:List Int) (H:Hs),ls.length<f→ls.length+fs.length≤100→getL H a=some (ls.map Dv.int)→getL H b=some (fs.map Dv.int)→St st H→
    ∃ (H':Hs) (ys:List Int),z1w mixC mixB f [some (.ref st),some d,some (.ref a),some (.ref b)] H=.nx [some (.ref st),some d,some (.ref a),some (.ref b)] H'∧getL H' b=some (ys.map Dv.int)∧ys.Perm (fs++ls)∧St st H'∧Fr [st,a,b] H H'
  | 0,ls,fs,H,h,_,_,_,_=>by omega
  | f+1,ls,fs,H,h,hl,ea,eb,s=>by
    have tc:mixC [some (.ref st),some d,some (.ref a),some (.ref b)] H=.ok (!ls.isEmpty) (H++[.lst []]):=by
      simp [mixC,mB,m2,mVar,mLst,mNil,lim,znw ea,asB]
    have ea1:=z1m (l:=[Ob.lst []]) ea
    have eb1:=z1m (l:=[Ob.lst []]) eb
    have g1:Fr [st,a,b] H (H++[Ob.lst []]):=Fr.app
    have s1:=s.fr (Fr.app (S:=[]) (l:=[Ob.lst []])) (by simp)
    generalize H++[Ob.lst []]=H1 at tc ea1 eb1 g1 s1
    cases hls:ls with
    | nil=>
      subst hls
      refine ⟨H1,fs, ?_,eb1,by simp,s1,g1⟩
      exact zku tc
    | cons x r=>
      have hne:ls.isEmpty=false:=by rw [hls];rfl
      have hpos:(0:Int)<ls.length:=by rw [hls];simp
      obtain ⟨k,H2,k0,k1,ht,f2,s2⟩:=z2i (ls.length:Int) s1 hpos (by omega)
      have ea2:=f2.getL ea1 (by simpa using has)
      have eb2:=f2.getL eb1 (by simpa using hbs)
      have hk:k.toNat<ls.length:=by omega
      have ixk:ixN (ls.map Dv.int).length k=some k.toNat:=by
        unfold ixN
        rw [if_pos k0,List.length_map,if_pos k1]
      have getk:(ls.map Dv.int)[k.toNat]?=some (.int ls[k.toNat]):=by simp [hk]
      have hlen:f1 len0 [.ref a] H1=.ok (.int ls.length) H1:=by
        show (if z2m (.ref a)=true then lenD [] (.ref a) H1 else .bad)=_
        simp [z2m,lenD,seqD,ea1]
      have hz:(ls.map Dv.int).length≤1000000:=by rw [List.length_map];omega
      have pop:popD (.ref a) (.int k) H2=.ok (.int ls[k.toNat]) (H2.set a (.lst ((ls.eraseIdx k.toNat).map Dv.int))):=by
        simp only [popD,ea2,ixk,getk,hz,if_true]
        have em:(ls.map Dv.int).eraseIdx k.toNat=(ls.eraseIdx k.toNat).map Dv.int:=by
          rw [List.eraseIdx_eq_take_drop_succ,List.eraseIdx_eq_take_drop_succ,List.map_append,List.map_take,List.map_drop]
        rw [em]
      have eb3:getL (H2.set a (.lst ((ls.eraseIdx k.toNat).map Dv.int))) b=some (fs.map Dv.int):=by rw [z50 hab];exact eb2
      have ea3:getL (H2.set a (.lst ((ls.eraseIdx k.toNat).map Dv.int))) a=some ((ls.eraseIdx k.toNat).map Dv.int):=z2h ea2
      have f3:Fr [st,a,b] H2 (H2.set a (.lst ((ls.eraseIdx k.toNat).map Dv.int))):=Fr.set.mono (by simp)
      have s3:St st (H2.set a (.lst ((ls.eraseIdx k.toNat).map Dv.int))):=s2.fr Fr.set (by simpa using Ne.symm has)
      generalize hH3:H2.set a (.lst ((ls.eraseIdx k.toNat).map Dv.int))=H3 at pop eb3 ea3 f3 s3
      have hfl:(fs.map Dv.int).length<1000000:=by rw [List.length_map];omega
      have body:mixB [some (.ref st),some d,some (.ref a),some (.ref b)] H1=.nx [some (.ref st),some d,some (.ref a),some (.ref b)] (H3.set b (.lst ((fs++[ls[k.toNat]]).map Dv.int))):=by
        have isA:isL (.ref a) H1=true:=by simp [isL,ea1]
        have isB:isL (.ref b) H1=true:=by simp [isL,eb1]
        have hpop:mPop (mVar 2) (z05 F_qp (z00 (mVar 0) (z00 (z05 (f1 len0) (z00 (mVar 2) mNil)) mNil))) [some (.ref st),some d,some (.ref a),some (.ref b)] H1=.ok (.int ls[k.toNat]) H3:=by
          simp [mPop,mVar,isA,z05,z00,mNil,hlen,ht,pop]
        have happ:appD (.ref b) (.int ls[k.toNat]) H3=.ok .non (H3.set b (.lst ((fs++[ls[k.toNat]]).map Dv.int))):=by
          simp only [appD,eb3,hfl,if_true,List.map_append]
          rfl
        simp [mixB,z1s,mApp,mVar,isB,hpop,happ]
      have hlen2:(ls.eraseIdx k.toNat).length=ls.length - 1:=List.length_eraseIdx_of_lt hk
      obtain ⟨H',ys,w,e',pm,s',f'⟩:=zad hab has hbs f (ls.eraseIdx k.toNat) (fs++[ls[k.toNat]]) (H3.set b (.lst ((fs++[ls[k.toNat]]).map Dv.int))) (by omega) (by rw [List.length_append];simp;omega) (by rw [z50 (Ne.symm hab)];exact ea3) (z2h eb3) (s3.fr Fr.set (by simpa using Ne.symm hbs))
      refine ⟨H',ys, ?_,e', ?_,s', ?_⟩
      · rw [hne] at tc
        rw [ze6 tc body]
        exact w
      · rw [← hls]
        refine pm.trans ?_
        rw [List.append_assoc]
        refine List.Perm.append_left fs ?_
        have:=SR.erase_perm ls k.toNat hk
        simpa using this
      · exact (((g1.trans f2 (by simp)).trans f3 (by simp)).trans (T:=[b]) Fr.set (by simp)).trans f' (by simp)
theorem zh7 {H:Hs} {j:Nat} {xs:List Int} (s:St st H) (e:getL H j=some (xs.map Dv.int)) (hl:xs.length≤20):∃ (i:Nat) (ys:List Int) (H':Hs),F_qa [.ref st,.ref j] H=.ok (.ref i) H'∧getL H' i=some (ys.map Dv.int)∧ys.Perm xs∧H.length≤i∧St st H'∧Fr [st] H H':=by
  have lt:=s.lt
  have w0:mAsg (z05 (f1 z4y) (z00 (mVar 1) mNil)) (z03 2) [some (.ref st),some (.ref j),none,none] H=.nx [some (.ref st),some (.ref j),some (.ref H.length),none] (H++[.lst (xs.map Dv.int)]):=by
    simp [mAsg,z05,f1,z4y,z2m,zaz,seqD,z00,mVar,mNil,e,z03]
  have w1:mAsg (mLst mNil) (z03 3) [some (.ref st),some (.ref j),some (.ref H.length),none] (H++[.lst (xs.map Dv.int)])=.nx [some (.ref st),some (.ref j),some (.ref H.length),some (.ref (H.length+1))] (H++[.lst (xs.map Dv.int)]++[.lst []]):=by
    simp [mAsg,mLst,mNil,lim,z03]
  have ea:getL (H++[.lst (xs.map Dv.int)]++[.lst []]) H.length=some (xs.map Dv.int):=z1m (by simp [getL])
  have eb:getL (H++[.lst (xs.map Dv.int)]++[.lst []]) (H.length+1)=some (([]:List Int).map Dv.int):=by simp [getL]
  have f0:Fr [st] H (H++[.lst (xs.map Dv.int)]++[.lst []]):=Fr.trans (T:=[]) Fr.app Fr.app (by simp)
  have s0:St st (H++[.lst (xs.map Dv.int)]++[.lst []]):=(s.fr (Fr.app (S:=[]) (l:=[.lst (xs.map Dv.int)])) (by simp)).fr (Fr.app (S:=[])) (by simp)
  obtain ⟨H',ys,w2,e2,pm,s2,f2⟩:=zad (st:=st) (a:=H.length) (b:=H.length+1) (d:=.ref j) (by omega) (by omega) (by omega) 40 xs [] _ (by omega) (by simp;omega) ea eb s0
  refine ⟨H.length+1,ys,H', ?_,e2,by simpa using pm,by omega,s2,f0.trans f2 (by simp)⟩
  show z0r (zgq [some (.ref st),some (.ref j),none,none] H)=_
  rw [zh6,z0k w0,z0k w1,z0k w2]
  rfl
end
def z0s (ps:List (Int×Int)) (p:Int×Int):List (Int×Int):=(ps.filter fun q=>decide (p.2=q.1)).map fun q=>(p.1,q.2)
def z1l (ps:List (Int×Int)):List (Int×Int):=z1k ltP (ps++ps.flatMap (z0s ps))
def z88:Nat→List (Int×Int)→Option (List (Int×Int))
  | 0,_=>none
  | f+1,ps=>if z1l ps=ps then some ps else z88 f (z1l ps)
def InP (n:Nat) (ps:List (Int×Int)):Prop:=∀ p∈ps,0≤p.1∧p.1<n∧0≤p.2∧p.2<n
def Tr (ps:List (Int×Int)):Prop:=∀ p∈ps,∀ q∈ps,p.2=q.1→(p.1,q.2)∈ps
theorem z94 {ps:List (Int×Int)} {p r:Int×Int}:r∈z0s ps p↔∃ q∈ps,p.2=q.1∧r=(p.1,q.2):=by
  simp only [z0s,List.mem_map,List.mem_filter,decide_eq_true_eq]
  constructor
  · rintro ⟨q,⟨h1,h2⟩,h3⟩;exact ⟨q,h1,h2,h3.symm⟩
  · rintro ⟨q,h1,h2,h3⟩;exact ⟨q,⟨h1,h2⟩,h3.symm⟩
theorem step_mem {ps:List (Int×Int)} {r:Int×Int}:r∈z1l ps↔r∈ps∨∃ p∈ps,∃ q∈ps,p.2=q.1∧r=(p.1,q.2):=by
  unfold z1l
  rw [z1f stoP,List.mem_append,List.mem_flatMap]
  simp only [z94]
theorem z95 {n:Nat} {ps:List (Int×Int)} (h:InP n ps):InP n (z1l ps):=fun r hr=>by
  rcases step_mem.mp hr with hr | ⟨p,hp,q,hq,_,rfl⟩
  · exact h r hr
  · exact ⟨(h p hp).1,(h p hp).2.1,(h q hq).2.2.1,(h q hq).2.2.2⟩
theorem z2u (ps:List (Int×Int)):z21 ltP (z1l ps):=z2b stoP _
theorem ze8 {ps:List (Int×Int)} (hr:z21 ltP ps):z1l ps=ps↔Tr ps:=by
  constructor
  · intro h p hp q hq e
    rw [← h]
    exact step_mem.mpr (.inr ⟨p,hp,q,hq,e,rfl⟩)
  · intro h
    refine z3u stoP (z2u ps) hr fun r=>?_
    rw [step_mem]
    constructor
    · rintro (hr | ⟨p,hp,q,hq,e,rfl⟩)
      · exact hr
      · exact h p hp q hq e
    · exact fun h=>.inl h
theorem zh8 {ps:List (Int×Int)} (hr:z21 ltP ps) (hne:z1l ps≠ps):ps.length<(z1l ps).length:=by
  have nd:=z1y stoP hr
  have sub:∀ r∈ps,r∈z1l ps:=fun r h=>step_mem.mpr (.inl h)
  have h1:=nd.length_le_of_subset sub
  rcases Nat.lt_or_ge ps.length (z1l ps).length with h | h
  · exact h
  · exfalso
    apply hne
    have sub2:∀ r∈z1l ps,r∈ps:=fun r hr'=>by
      by_cases hm:r∈ps
      · exact hm
      · exfalso
        have nd2:(r::ps).Nodup:=List.nodup_cons.mpr ⟨hm,nd⟩
        have:=nd2.length_le_of_subset (l₂:=z1l ps) fun x hx=>by
          rcases List.mem_cons.mp hx with rfl | hx
          · exact hr'
          · exact sub x hx
        simp at this;omega
    exact z3u stoP (z2u ps) hr fun r=>⟨sub2 r,sub r⟩
theorem zae {n:Nat} (hn:n≤6):∀ (f:Nat) (ps:List (Int×Int)),z21 ltP ps→InP n ps→36<f+ps.length→∃ cs,z88 f ps=some cs∧z21 ltP cs∧InP n cs∧Tr cs∧(∀ p∈ps,p∈cs)∧∀ R:Int→Int→Prop,(∀ a b c,R a b→R b c→R a c)→(∀ p∈ps,R p.1 p.2)→∀ p∈cs,R p.1 p.2
  | 0,ps,hr,hi,h=>by
    have h1:=z1z hr hi
    have h2:n*n≤6*6:=Nat.mul_le_mul hn hn
    omega
  | f+1,ps,hr,hi,h=>by
    unfold z88
    split
    · rename_i e
      exact ⟨ps,rfl,hr,hi,(ze8 hr).mp e,fun p hp=>hp,fun R _ h=>h⟩
    · rename_i e
      have:=zh8 hr e
      obtain ⟨cs,h1,h2,h3,h4,h5,h6⟩:=zae hn f (z1l ps) (z2u ps) (z95 hi) (by omega)
      refine ⟨cs,h1,h2,h3,h4,fun p hp=>h5 p (step_mem.mpr (.inl hp)),fun R ht hR=>h6 R ht fun r hr'=>?_⟩
      rcases step_mem.mp hr' with hr' | ⟨p,hp,q,hq,e,rfl⟩
      · exact hR r hr'
      · refine ht _ p.2 _ (hR p hp) ?_
        rw [e];exact hR q hq
theorem zaf {α:Type} {f:α→Dv} {H:Hs} {i k:Nat} {xs:List α} (e:getL H i=some (xs.map f)) (hk:k<xs.length):(srcR i xs.length).get k H=some (f xs[k]):=by
  simp [srcR,e,hk]
theorem zag {α:Type} {f:α→Dv} {H:Hs} {i:Nat} {xs:List α} (e:getL H i=some (xs.map f)):(srcR i xs.length).fin H=true:=by
  simp [srcR,e]
theorem zah:∀ ps:List (Int×Int),optL keyD (ps.map prD)=some (ps.map keyP)
  | []=>rfl
  | p::ps=>by rw [List.map_cons,optL,zah ps];rfl
theorem zkx (ps:List (Int×Int)):neK (ps.map keyP)=true:=by
  simp [neK,keyP]
theorem zky (ps:List (Int×Int)):(ps.map keyP).map tupK=ps.map prD:=by
  rw [List.map_map];rfl
section
variable {H:Hs} {ps:List (Int×Int)} {d:Dv}
theorem z61 (h:seqK d H=some (ps.map keyP)) (hl:(z1k ltP ps).length<64):z1n d H=.ok (.ref H.length) (H++[.lst ((z1k ltP ps).map prD)]):=by
  unfold z1n
  rw [h]
  dsimp only
  rw [z7t z3h,List.length_map,if_pos (by rw [zkx];simpa using hl),zky]
theorem znx {i j:Nat} {ps qs:List (Int×Int)} (ei:getL H i=some (ps.map prD)) (ej:getL H j=some (qs.map prD)):eqD (.ref i) (.ref j) H=.ok (.bl (decide (ps=qs))) H:=by
  have p:∀ (i:Nat) (ps:List (Int×Int)),getL H i=some (ps.map prD)→pur z0w H (.ref i)=some (.lst (ps.map prT)):=fun i ps e=>by
    show pur (27+2+1) H (.ref i)=_
    rw [pur]
    simp only [e,z8r]
  have dq:∀ ps qs:List (Int×Int),deqL (ps.map prT) (qs.map prT)=decide (ps=qs):=fun ps=>by
    induction ps with
    | nil=>intro qs;cases qs <;> simp [deqL]
    | cons p ps ih=>
      intro qs
      cases qs with
      | nil=>simp [deqL]
      | cons q qs=>
        simp only [List.map_cons,deqL,zib,ih]
        rw [Bool.eq_iff_iff];simp
  unfold eqD
  rw [p i ps ei,p j qs ej]
  simp only [deq,dq]
def z62:M (List Dv):=z0v (m1s lstD (mVar 1)) [none,none,some 3,some 4] (sTup 2 (z0l (z03 0) (z0l (z03 1) sNil))) (mB (m2 eqD (mVar 3) (mVar 0))) (z0t (mTup (z00 (mVar 2) (z00 (mVar 1) mNil))))
def clB:MS:=mSeq (mAsg (z05 (f1 z4y) (z00 (mVar 1) mNil)) (z03 2)) (mSeq (mFor (m1s lstD (mVar 1)) (sTup 2 (z0l (z03 3) (z0l (z03 4) sNil))) (z1s (mExt (mVar 2) z62))) (mSeq (mAsg (z05 (f1 z1n) (z00 (mVar 2) mNil)) (z03 2)) (mSeq (mIf (mB (m2 eqD (mVar 2) (mVar 1))) (mRet (mVar 1)) z0x) (mAsg (mVar 2) (z03 1)))))
theorem ze9:zgr=mSeq (mAsg (z05 (f1 z1n) (z00 (mVar 0) mNil)) (z03 1)) (z1w (mTru (mC (.bl true))) clB 40):=rfl
theorem zkz {x0 x2:Option Dv} {i:Nat} {p:Int×Int} (hl:ps.length≤1000) (e:getL H i=some (ps.map prD)):z62 [x0,some (.ref i),x2,some (.int p.1),some (.int p.2)] H=.ok ((z0s ps p).map prD) H:=by
  have hi:m1s lstD (mVar 1) [x0,some (.ref i),x2,some (.int p.1),some (.int p.2)] H=.ok (srcR i ps.length) H:=by simp [m1s,mVar,lstD,e]
  have h:z62 [x0,some (.ref i),x2,some (.int p.1),some (.int p.2)] H=.ok (ps.filterMap fun q=>if p.2=q.1 then some (prD (p.1,q.2)) else none) H:=
    z11 ps (fun q=>if p.2=q.1 then some (prD (p.1,q.2)) else none) (fun ρ=>∃ a b,ρ=[a,b,some (.int p.1),some (.int p.2)]) hi rfl ⟨_,_,rfl⟩ (by simp [srcR,e]) (fun k hk ρ ⟨a,b,er⟩=>by
      subst er
      refine ⟨prD ps[k],[some (.int ps[k].1),some (.int ps[k].2),some (.int p.1),some (.int p.2)],by simp [srcR,e,hk],rfl,⟨_,_,rfl⟩, ?_⟩
      have te:mB (m2 eqD (mVar 3) (mVar 0)) [some (.int ps[k].1),some (.int ps[k].2),some (.int p.1),some (.int p.2)] H=.ok (decide (p.2=ps[k].1)) H:=by
        simp [mB,m2,mVar,eqD,z0w,pur,deq,asB]
        rw [Bool.eq_iff_iff];simp
      by_cases c:p.2=ps[k].1
      · rw [if_pos c]
        rw [decide_eq_true c] at te
        exact ⟨te,rfl⟩
      · rw [if_neg c]
        rw [decide_eq_false c] at te
        exact te) (by omega)
  rw [h]
  congr 1
  unfold z0s
  rw [List.map_map]
  have:∀ l:List (Int×Int),l.filterMap (fun q=>if p.2=q.1 then some (prD (p.1,q.2)) else none)=(l.filter fun q=>decide (p.2=q.1)).map (prD∘fun q=>(p.1,q.2)):=fun l=>by
    induction l with
    | nil=>rfl
    | cons q l ih=>
      rw [List.filterMap_cons,List.filter_cons,ih]
      by_cases c:p.2=q.1 <;> simp [c]
  exact this ps
theorem z58 (ps:List (Int×Int)) (p:Int×Int):(z0s ps p).length≤ps.length:=by
  unfold z0s
  rw [List.length_map]
  exact List.length_filter_le _ _
theorem zai (ps:List (Int×Int)):∀ l:List (Int×Int),(l.flatMap (z0s ps)).length≤l.length*ps.length
  | []=>by simp
  | p::l=>by
    have h1:=z58 ps p
    have h2:=zai ps l
    rw [List.flatMap_cons,List.length_append,List.length_cons,Nat.succ_mul]
    omega
theorem zl0 {x0 x3 x4:Option Dv} {i j:Nat} (hij:i≠j) (hl:ps.length≤40) (ei:getL H i=some (ps.map prD)) (ej:getL H j=some (ps.map prD)):
    ∃ y3 y4,mFor (m1s lstD (mVar 1)) (sTup 2 (z0l (z03 3) (z0l (z03 4) sNil))) (z1s (mExt (mVar 2) z62)) [x0,some (.ref i),some (.ref j),x3,x4] H=.nx [x0,some (.ref i),some (.ref j),y3,y4] (H.set j (.lst ((ps++ps.flatMap (z0s ps)).map prD))):=by
  have hi:m1s lstD (mVar 1) [x0,some (.ref i),some (.ref j),x3,x4] H=.ok (srcR i ps.length) H:=by simp [m1s,mVar,lstD,ei]
  have self:H.set j (.lst (ps.map prD))=H:=by
    apply List.ext_getElem?
    intro k
    by_cases hk:j=k
    · subst hk;rw [List.getElem?_set_self (z31 ej),z0e ej]
    · rw [List.getElem?_set_ne hk]
  obtain ⟨ρ',H',h1,y3,y4,h2,h3⟩:=z51 (b:=z1s (mExt (mVar 2) z62)) (sg:=sTup 2 (z0l (z03 3) (z0l (z03 4) sNil))) hi (fun k ρ H'=>∃ (y3 y4:Option Dv),ρ=[x0,some (.ref i),some (.ref j),y3,y4]∧H'=H.set j (.lst ((ps++(ps.take k).flatMap (z0s ps)).map prD)))
    (fun k ρ H' hk ⟨y3,y4,e1,e2⟩=>by
      subst e1;subst e2
      have hk':k<ps.length:=hk
      have ei':getL (H.set j (.lst ((ps++(ps.take k).flatMap (z0s ps)).map prD))) i=some (ps.map prD):=by rw [z50 (Ne.symm hij)];exact ei
      have ej':getL (H.set j (.lst ((ps++(ps.take k).flatMap (z0s ps)).map prD))) j=some ((ps++(ps.take k).flatMap (z0s ps)).map prD):=z2h ej
      have hlen:(ps++(ps.take k).flatMap (z0s ps)).length≤40+40*40:=by
        have h1:=zai ps (ps.take k)
        have h2:(ps.take k).length*ps.length≤40*40:=Nat.mul_le_mul (by rw [List.length_take];omega) hl
        rw [List.length_append];omega
      have hf:=z58 ps ps[k]
      refine ⟨prD ps[k],[x0,some (.ref i),some (.ref j),some (.int ps[k].1),some (.int ps[k].2)],[x0,some (.ref i),some (.ref j),some (.int ps[k].1),some (.int ps[k].2)],_,zaf ei' hk',rfl, ?_,_,_,rfl,rfl⟩
      have hc:=zkz (x0:=x0) (x2:=some (.ref j)) (p:=ps[k]) (by omega) ei'
      generalize hG:H.set j (.lst ((ps++(ps.take k).flatMap (z0s ps)).map prD))=G at ei' ej' hc
      have isJ:isL (.ref j) G=true:=by simp [isL,ej']
      have hz:((ps++(ps.take k).flatMap (z0s ps)).map prD).length+((z0s ps ps[k]).map prD).length≤1000000:=by rw [List.length_map,List.length_map];omega
      have hx:extD (.ref j) ((z0s ps ps[k]).map prD) G=.ok .non (G.set j (.lst ((ps++(ps.take (k+1)).flatMap (z0s ps)).map prD))):=by
        unfold extD
        simp only [ej',lim,hz,if_true]
        rw [List.take_succ_eq_append_getElem hk',List.flatMap_append,← List.map_append]
        simp [List.append_assoc]
      have:mExt (mVar 2) z62 [x0,some (.ref i),some (.ref j),some (.int ps[k].1),some (.int ps[k].2)] G=.ok .non (G.set j (.lst ((ps++(ps.take (k+1)).flatMap (z0s ps)).map prD))):=by
        unfold mExt
        show (Rs.ok (Dv.ref j) G).bind _=_
        rw [Rs.bind_ok,if_pos isJ,hc,Rs.bind_ok,hx]
      unfold z1s
      rw [this,← hG,List.set_set];rfl)
    (fun ρ H' ⟨_,_,_,e2⟩=>by
      subst e2
      have ei':getL (H.set j (.lst ((ps++(ps.take (srcR i ps.length).n).flatMap (z0s ps)).map prD))) i=some (ps.map prD):=by rw [z50 (Ne.symm hij)];exact ei
      exact zag ei') ⟨x3,x4,rfl,by simp [self]⟩
  refine ⟨y3,y4, ?_⟩
  rw [h1,h2,h3]
  simp [srcR]
end
section
variable {H:Hs} {ps:List (Int×Int)}
theorem z89 {i:Nat} (e:getL H i=some (ps.map prD)):seqK (.ref i) H=some (ps.map keyP):=by
  simp only [seqK,e,zah]
theorem z96 {x0 x2 x3 x4:Option Dv} {i:Nat} (hl:ps.length≤40) (hs:(z1l ps).length<64) (e:getL H i=some (ps.map prD)):
    ∃ H',Fr [] H H'∧getL H' i=some (ps.map prD)∧if z1l ps=ps then clB [x0,some (.ref i),x2,x3,x4] H=.rt (.ref i) H' else ∃ (j:Nat) (y2 y3 y4:Option Dv),clB [x0,some (.ref i),x2,x3,x4] H=.nx [x0,some (.ref j),y2,y3,y4] H'∧getL H' j=some ((z1l ps).map prD):=by
  have li:=z31 e
  have w0:mAsg (z05 (f1 z4y) (z00 (mVar 1) mNil)) (z03 2) [x0,some (.ref i),x2,x3,x4] H=.nx [x0,some (.ref i),some (.ref H.length),x3,x4] (H++[.lst (ps.map prD)]):=by
    simp [mAsg,z05,f1,z4y,z2m,zaz,seqD,z00,mVar,mNil,e,z03]
  have ei:=z1m (l:=[Ob.lst (ps.map prD)]) e
  have ej:getL (H++[Ob.lst (ps.map prD)]) H.length=some (ps.map prD):=by simp [getL]
  have f0:Fr [] H (H++[Ob.lst (ps.map prD)]):=Fr.app
  generalize H++[Ob.lst (ps.map prD)]=H0 at w0 ei ej f0
  obtain ⟨y3,y4,w1⟩:=zl0 (x0:=x0) (x3:=x3) (x4:=x4) (i:=i) (j:=H.length) (by omega) hl ei ej
  have ei1:getL (H0.set H.length (.lst ((ps++ps.flatMap (z0s ps)).map prD))) i=some (ps.map prD):=by rw [z50 (by omega)];exact ei
  have ej1:getL (H0.set H.length (.lst ((ps++ps.flatMap (z0s ps)).map prD))) H.length=some ((ps++ps.flatMap (z0s ps)).map prD):=z2h ej
  have f1':Fr [] H (H0.set H.length (.lst ((ps++ps.flatMap (z0s ps)).map prD))):=f0.trans (T:=[H.length]) Fr.set (by simp)
  generalize H0.set H.length (.lst ((ps++ps.flatMap (z0s ps)).map prD))=H1 at w1 ei1 ej1 f1'
  have w2:mAsg (z05 (f1 z1n) (z00 (mVar 2) mNil)) (z03 2) [x0,some (.ref i),some (.ref H.length),y3,y4] H1=.nx [x0,some (.ref i),some (.ref H1.length),y3,y4] (H1++[.lst ((z1l ps).map prD)]):=by
    have hq:=z61 (z89 ej1) hs
    simp [mAsg,z05,f1,z00,mVar,mNil,hq,z03,z1l]
  have ei2:=z1m (l:=[Ob.lst ((z1l ps).map prD)]) ei1
  have ej2:getL (H1++[Ob.lst ((z1l ps).map prD)]) H1.length=some ((z1l ps).map prD):=by simp [getL]
  have f2:Fr [] H (H1++[Ob.lst ((z1l ps).map prD)]):=f1'.trans (T:=[]) Fr.app (by simp)
  generalize hH2:H1++[Ob.lst ((z1l ps).map prD)]=H2 at w2 ei2 ej2 f2
  have t:mB (m2 eqD (mVar 2) (mVar 1)) [x0,some (.ref i),some (.ref H1.length),y3,y4] H2=.ok (decide (z1l ps=ps)) H2:=by
    simp [mB,m2,mVar,znx ej2 ei2,asB]
  refine ⟨H2,f2,ei2, ?_⟩
  by_cases c:z1l ps=ps
  · rw [if_pos c]
    unfold clB
    rw [z0k w0,z0k w1,z0k w2]
    unfold mSeq
    rw [if_T (t.trans (by rw [decide_eq_true c]))]
    rfl
  · rw [if_neg c]
    refine ⟨H1.length,some (.ref H1.length),y3,y4, ?_,ej2⟩
    unfold clB
    rw [z0k w0,z0k w1,z0k w2,z0k (ρ1:=[x0,some (.ref i),some (.ref H1.length),y3,y4]) (h1:=H2) (by rw [if_F (t.trans (by rw [decide_eq_false c]))];rfl)]
    rfl
theorem zea {n:Nat} (hn:n≤6) {cs:List (Int×Int)}:∀ (f:Nat) (ps:List (Int×Int)) (H:Hs) (i:Nat) (x0 x2 x3 x4:Option Dv),z21 ltP ps→InP n ps→z88 f ps=some cs→getL H i=some (ps.map prD)→
    ∃ (j:Nat) (H':Hs),z1w (mTru (mC (.bl true))) clB f [x0,some (.ref i),x2,x3,x4] H=.rt (.ref j) H'∧getL H' j=some (cs.map prD)∧Fr [] H H'
  | 0,ps,H,i,x0,x2,x3,x4,hr,hi,h,e=>by cases h
  | f+1,ps,H,i,x0,x2,x3,x4,hr,hi,h,e=>by
    have sq:n*n≤6*6:=Nat.mul_le_mul hn hn
    have l1:=z1z hr hi
    have l2:=z1z (z2u ps) (z95 hi)
    obtain ⟨H1,f1,e1,c1⟩:=z96 (x0:=x0) (x2:=x2) (x3:=x3) (x4:=x4) (by omega) (by omega) e
    have tt:mTru (mC (.bl true)) [x0,some (.ref i),x2,x3,x4] H=.ok true H:=rfl
    unfold z88 at h
    split at h
    · rename_i c
      cases h
      rw [if_pos c] at c1
      exact ⟨i,H1,zkv tt c1,e1,f1⟩
    · rename_i c
      rw [if_neg c] at c1
      obtain ⟨j,y2,y3,y4,c2,ej⟩:=c1
      obtain ⟨k,H2,w,ek,f2⟩:=zea hn f (z1l ps) H1 j x0 y2 y3 y4 (z2u ps) (z95 hi) h ej
      exact ⟨k,H2,by rw [ze6 tt c2];exact w,ek,f1.trans f2 (by simp)⟩
def zii (n:Nat) (ps cs:List (Int×Int)):Prop:=z21 ltP cs∧InP n cs∧Tr cs∧(∀ p∈ps,p∈cs)∧∀ R:Int→Int→Prop,(∀ a b c,R a b→R b c→R a c)→(∀ p∈ps,R p.1 p.2)→∀ p∈cs,R p.1 p.2
theorem zeb {n:Nat} {d:Dv} (hn:n≤6) (hi:InP n ps) (h:seqK d H=some (ps.map keyP)):∃ (cs:List (Int×Int)) (j:Nat) (H':Hs),zii n ps cs∧F_qf [d] H=.ok (.ref j) H'∧getL H' j=some (cs.map prD)∧Fr [] H H':=by
  have hs:InP n (z1k ltP ps):=fun p hp=>hi p ((z1f stoP p ps).mp hp)
  have hr:=z2b stoP ps
  have sq:n*n≤6*6:=Nat.mul_le_mul hn hn
  have l1:=z1z hr hs
  obtain ⟨cs,c1,c2,c3,c4,c5,c6⟩:=zae hn 40 _ hr hs (by omega)
  have w0:mAsg (z05 (f1 z1n) (z00 (mVar 0) mNil)) (z03 1) [some d,none,none,none,none] H=.nx [some d,some (.ref H.length),none,none,none] (H++[.lst ((z1k ltP ps).map prD)]):=by
    have hq:=z61 h (by omega)
    simp [mAsg,z05,f1,z00,mVar,mNil,hq,z03]
  obtain ⟨j,H',w1,ej,f1'⟩:=zea hn 40 (z1k ltP ps) (H++[.lst ((z1k ltP ps).map prD)]) H.length (some d) none none none hr hs c1 (by simp [getL])
  refine ⟨cs,j,H',⟨c2,c3,c4,fun p hp=>c5 p ((z1f stoP p ps).mpr hp),fun R ht hR=>c6 R ht fun p hp=>hR p ((z1f stoP p ps).mp hp)⟩, ?_,ej,(Fr.app (S:=[]) (l:=[.lst ((z1k ltP ps).map prD)])).trans f1' (by simp)⟩
  show z0r (zgr [some d,none,none,none,none] H)=_
  rw [ze9,z0k w0,w1]
  rfl
end
theorem ixR {H:Hs} {i k:Nat} {xs:List Int} (e:getL H i=some (xs.map Dv.int)) (hk:k<xs.length):ix0 (.ref i) (.int (k:Int)) H=.ok (.int xs[k]) H:=by
  have h1:ixN (xs.map Dv.int).length (k:Int)=some k:=by
    unfold ixN
    rw [List.length_map,if_pos (by omega),if_pos (by omega)];simp
  have h2:atI (xs.map Dv.int) (k:Int)=some (.int xs[k]):=by
    unfold atI
    rw [h1];simp [hk]
  simp only [ix0,z2m,ixD,e,atL,h2,if_true]
theorem zaj (x y:Int) (H:Hs):eqD (.int x) (.int y) H=.ok (.bl (x==y)) H:=by
  simp [eqD,z0w,pur,deq]
theorem z59:∀ {ys:List Int},ys.Nodup→∀ i (h:i<ys.length),posI ys[i] ys=some i
  | [],_,i,h=>by simp at h
  | y::ys,nd,0,h=>by simp [posI]
  | y::ys,nd,i+1,h=>by
    have h1:=List.nodup_cons.mp nd
    have hi:i<ys.length:=by simpa using h
    have ne:y≠ys[i]:=fun z=>h1.1 (by rw [z];exact List.getElem_mem hi)
    simp [posI,ne,z59 h1.2 i hi]
def zh9 (n:Nat) (ps:List (Int×Int)):Prop:=InP n ps∧∃ f:Int→Int,∀ p∈ps,f p.1<f p.2
theorem zha {n:Nat} {ps cs:List (Int×Int)} (n1:1≤n) (n6:n≤6) (g:zh9 n ps) (c:zii n ps cs):OrdP n cs:=by
  obtain ⟨h1,h2,h3,h4,h5⟩:=c
  obtain ⟨_,f,hf⟩:=g
  refine ⟨n1,n6,h2,h1,fun p hp e=>?_,h3⟩
  have:=h5 (fun a b=>f a<f b) (fun a b c x y=>by omega) hf p hp
  rw [e] at this;omega
section
variable {st ir ip im n:Nat} {ys ms:List Int} {w:Int} {d1:Dv}
def oN1:MS:=mAsg (mLst (z00 (m2 eqD (z05 F_qp (z00 (mVar 0) (z00 (mC (.int 6)) mNil))) (mC (.int 0))) (z00 (m2 eqD (z05 F_qp (z00 (mVar 0) (z00 (mC (.int 2)) mNil))) (mC (.int 0))) (z00 (m2 gtD (z05 F_qp (z00 (mVar 0) (z00 (mC (.int 4)) mNil))) (mC (.int 0))) mNil)))) (z03 9)
def oN2:MS:=mAsg (m2 addE (mVar 9) (mLst (z00 (m2 ltE (m2 ix0 (mVar 6) (mVar 7)) (m2 ix0 (mVar 6) (mVar 8))) (z00 (m2 eqD (m2 ix0 (mVar 6) (mVar 7)) (m2 ix0 (mVar 6) (mVar 8))) mNil)))) (z03 9)
def oB:MS:=mSeq oN1 (mSeq oN2 (mIf (mTru (m2 ix0 (mVar 9) (mVar 4))) (z1s (mApp (mVar 5) (mTup (z00 (m2 ix0 (mVar 3) (mVar 7)) (z00 (m2 ix0 (mVar 3) (mVar 8)) mNil))))) z0x))
structure Std (st ir im:Nat) (ys ms:List Int) (H:Hs):Prop where
  s:St st H
  r:getL H ir=some (ys.map Dv.int)
  m:getL H im=some (ms.map Dv.int)
theorem Std.fr {H H':Hs} {S:List Nat} (h:Std st ir im ys ms H) (f:Fr S H H') (s':St st H') (h1:ir∉S) (h2:im∉S):Std st ir im ys ms H':=⟨s',f.getL h.r h1,f.getL h.m h2⟩
theorem zqh {H:Hs} {x9:Option Dv} {ps:List (Int×Int)} {i j:Nat} (D:Std st ir im ys ms H) (ep:getL H ip=some (ps.map prD)) (hw:0≤w∧w<5) (hi:i<n) (hj:j<n) (hy:ys.length=n) (hm:ms.length=n) (hl:ps.length≤1000)
    (h1:ir≠st) (h2:im≠st) (h3:ip≠st) (h4:ir≠ip) (h5:im≠ip):
    ∃ (x9':Option Dv) (H':Hs) (ps':List (Int×Int)),oB [some (.ref st),some d1,some (.int n),some (.ref ir),some (.int w),some (.ref ip),some (.ref im),some (.int i),some (.int j),x9] H=.nx [some (.ref st),some d1,some (.int n),some (.ref ir),some (.int w),some (.ref ip),some (.ref im),some (.int i),some (.int j),x9'] H'∧getL H' ip=some (ps'.map prD)∧(ps'=ps∨ps'=ps++[(ys.getD i 0,ys.getD j 0)])∧Std st ir im ys ms H'∧Fr [st,ip] H H':=by
  obtain ⟨r0,H0,_,_,t0,f0,s0⟩:=z2i 6 D.s
  obtain ⟨r1,H1,_,_,t1,f1,s1⟩:=z2i 2 s0
  obtain ⟨r2,H2,_,_,t2,f2,s2⟩:=z2i 4 s1
  have f02:Fr [st] H H2:=(f0.trans f1 (by simp)).trans f2 (by simp)
  have D2:=D.fr f02 s2 (by simpa using h1) (by simpa using h2)
  have ep2:=f02.getL ep (by simpa using h3)
  have w1:oN1 [some (.ref st),some d1,some (.int n),some (.ref ir),some (.int w),some (.ref ip),some (.ref im),some (.int i),some (.int j),x9] H=.nx [some (.ref st),some d1,some (.int n),some (.ref ir),some (.int w),some (.ref ip),some (.ref im),some (.int i),some (.int j),some (.ref H2.length)] (H2++[.lst [.bl (r0==0),.bl (r1==0),.bl (decide (r2>0))]]):=by
    simp [oN1,mAsg,mLst,z00,m2,z05,mVar,mC,mNil,t0,t1,t2,zaj,gtD,iOp,lim,z03]
  have fA:Fr [] H2 (H2++[.lst [.bl (r0==0),.bl (r1==0),.bl (decide (r2>0))]]):=Fr.app
  have eA:getL (H2++[.lst [.bl (r0==0),.bl (r1==0),.bl (decide (r2>0))]]) H2.length=some [.bl (r0==0),.bl (r1==0),.bl (decide (r2>0))]:=by simp [getL]
  have DA:=D2.fr fA (s2.fr fA (by simp)) (by simp) (by simp)
  have epA:=fA.getL ep2 (by simp)
  have fHA:Fr [st] H (H2++[.lst [.bl (r0==0),.bl (r1==0),.bl (decide (r2>0))]]):=f02.trans fA (by simp)
  generalize H2++[Ob.lst [.bl (r0==0),.bl (r1==0),.bl (decide (r2>0))]]=HA at w1 fA eA DA epA fHA
  have hmi:=ixR DA.m (k:=i) (by omega)
  have hmj:=ixR DA.m (k:=j) (by omega)
  have eA':=z1m (l:=[Ob.lst [.bl (decide (ms[i]<ms[j])),.bl (ms[i]==ms[j])]]) eA
  have eB:getL (HA++[Ob.lst [.bl (decide (ms[i]<ms[j])),.bl (ms[i]==ms[j])]]) HA.length=some [.bl (decide (ms[i]<ms[j])),.bl (ms[i]==ms[j])]:=by simp [getL]
  have w2:oN2 [some (.ref st),some d1,some (.int n),some (.ref ir),some (.int w),some (.ref ip),some (.ref im),some (.int i),some (.int j),some (.ref H2.length)] HA=.nx [some (.ref st),some d1,some (.int n),some (.ref ir),some (.int w),some (.ref ip),some (.ref im),some (.int i),some (.int j),some (.ref (HA.length+1))] (HA++[.lst [.bl (decide (ms[i]<ms[j])),.bl (ms[i]==ms[j])]]++[.lst [.bl (r0==0),.bl (r1==0),.bl (decide (r2>0)),.bl (decide (ms[i]<ms[j])),.bl (ms[i]==ms[j])]]):=by
    simp [oN2,mAsg,m2,mLst,z00,mVar,hmi,hmj,ltE,zaj,mNil,lim,addE,addD,eA',eB,z03]
  have fB:Fr [] HA (HA++[.lst [.bl (decide (ms[i]<ms[j])),.bl (ms[i]==ms[j])]]++[.lst [.bl (r0==0),.bl (r1==0),.bl (decide (r2>0)),.bl (decide (ms[i]<ms[j])),.bl (ms[i]==ms[j])]]):=Fr.trans (T:=[]) Fr.app Fr.app (by simp)
  have eN:getL (HA++[.lst [.bl (decide (ms[i]<ms[j])),.bl (ms[i]==ms[j])]]++[.lst [.bl (r0==0),.bl (r1==0),.bl (decide (r2>0)),.bl (decide (ms[i]<ms[j])),.bl (ms[i]==ms[j])]]) (HA.length+1)=some [.bl (r0==0),.bl (r1==0),.bl (decide (r2>0)),.bl (decide (ms[i]<ms[j])),.bl (ms[i]==ms[j])]:=by simp [getL]
  have DB:=DA.fr fB (DA.s.fr fB (by simp)) (by simp) (by simp)
  have epB:=fB.getL epA (by simp)
  have fHB:=fHA.trans fB (by simp)
  generalize HA++[Ob.lst [.bl (decide (ms[i]<ms[j])),.bl (ms[i]==ms[j])]]++[Ob.lst [.bl (r0==0),.bl (r1==0),.bl (decide (r2>0)),.bl (decide (ms[i]<ms[j])),.bl (ms[i]==ms[j])]]=HB at w2 fB eN DB epB fHB
  have near:∃ b,ix0 (.ref (HA.length+1)) (.int w) HB=.ok (.bl b) HB:=by
    have hw':w=0∨w=1∨w=2∨w=3∨w=4:=by omega
    rcases hw' with rfl | rfl | rfl | rfl | rfl
    · exact ⟨_,by simp only [ix0,z2m,ixD,eN];rfl⟩
    · exact ⟨_,by simp only [ix0,z2m,ixD,eN];rfl⟩
    · exact ⟨_,by simp only [ix0,z2m,ixD,eN];rfl⟩
    · exact ⟨_,by simp only [ix0,z2m,ixD,eN];rfl⟩
    · exact ⟨_,by simp only [ix0,z2m,ixD,eN];rfl⟩
  obtain ⟨b,hb⟩:=near
  have t:mTru (m2 ix0 (mVar 9) (mVar 4)) [some (.ref st),some d1,some (.int n),some (.ref ir),some (.int w),some (.ref ip),some (.ref im),some (.int i),some (.int j),some (.ref (HA.length+1))] HB=.ok b HB:=by
    simp [mTru,m2,mVar,hb,truD]
  cases b with
  | false=>
    refine ⟨some (.ref (HA.length+1)),HB,ps, ?_,epB,.inl rfl,DB,fHB.mono (by simp)⟩
    unfold oB
    rw [z0k w1,z0k w2,if_F t]
    rfl
  | true=>
    have hyi:=ixR DB.r (k:=i) (by omega)
    have hyj:=ixR DB.r (k:=j) (by omega)
    have gi:ys[i]=ys.getD i 0:=by simp [show i<ys.length by omega]
    have gj:ys[j]=ys.getD j 0:=by simp [show j<ys.length by omega]
    rw [gi] at hyi
    rw [gj] at hyj
    generalize ys.getD i 0=va at hyi ⊢
    generalize ys.getD j 0=vb at hyj ⊢
    have hz:(ps.map prD).length<1000000:=by rw [List.length_map];omega
    have fC:Fr [ip] HB (HB.set ip (.lst ((ps++[(va,vb)]).map prD))):=Fr.set
    refine ⟨some (.ref (HA.length+1)),HB.set ip (.lst ((ps++[(va,vb)]).map prD)),ps++[(va,vb)], ?_,z2h epB,.inr rfl,DB.fr fC (DB.s.fr fC (by simpa using Ne.symm h3)) (by simpa using h4) (by simpa using h5),(fHB.mono (T:=[st,ip]) (by simp)).trans fC (by simp)⟩
    unfold oB
    rw [z0k w1,z0k w2,if_T t]
    have isP':isL (.ref ip) HB=true:=by simp [isL,epB]
    have happ:appD (.ref ip) (.tup [.int (va),.int (vb)]) HB=.ok .non (HB.set ip (.lst ((ps++[(va,vb)]).map prD))):=by
      simp only [appD,epB,hz,if_true,List.map_append]
      rfl
    simp [z1s,mApp,mVar,isP',mTup,z00,m2,hyi,hyj,mNil,lim,happ]
end
theorem z5a {m:Int} (h0:0≤m) (h:m≤100):inR m=true:=by
  have h1:(-4611686018427387904:Int)≤m:=by omega
  have h2:m<4611686018427387904:=by omega
  unfold inR
  rw [decide_eq_true h1,decide_eq_true h2];rfl
theorem z97 {H:Hs} {j:Int} (h0:0≤j) (h1:j≤100):z1a [.int j] H=.ok (z0y 0 j) H:=by simp only [z1a,z5a h0 h1,if_true]
theorem zl1 {H:Hs} {i j:Int} (h0:0≤i) (h1:i≤100) (h2:0≤j) (h3:j≤100):z8k [.int i,.int j] H=.ok (z0y i j) H:=by simp only [z8k,z5a h0 h1,z5a h2 h3,and_self,if_true]
def zbd (ys:List Int) (n:Nat) (ps:List (Int×Int)):Prop:=∀ p∈ps,∃ i j,i<j∧j<n∧p=(ys.getD i 0,ys.getD j 0)
section
variable {st ir ip im n:Nat} {ys ms:List Int} {w:Int} {d1:Dv}
abbrev ev9 (st ir ip im n:Nat) (w:Int) (d1:Dv) (x7 x8 x9:Option Dv):Ev:=[some (.ref st),some d1,some (.int n),some (.ref ir),some (.int w),some (.ref ip),some (.ref im),x7,x8,x9]
def inM:MS:=mFor (mas z8k (z00 (m2 addE (mVar 7) (mC (.int 1))) (z00 (mVar 2) mNil))) (z03 8) oB
theorem zqi {H:Hs} {x8 x9:Option Dv} {ps:List (Int×Int)} {i:Nat} (D:Std st ir im ys ms H) (ep:getL H ip=some (ps.map prD)) (hw:0≤w∧w<5) (hi:i<n) (hn:n≤6) (hy:ys.length=n) (hm:ms.length=n) (hl:ps.length≤500) (hb:zbd ys n ps)
    (h1:ir≠st) (h2:im≠st) (h3:ip≠st) (h4:ir≠ip) (h5:im≠ip):
    ∃ (x8' x9':Option Dv) (H':Hs) (ps':List (Int×Int)),inM (ev9 st ir ip im n w d1 (some (.int i)) x8 x9) H=.nx (ev9 st ir ip im n w d1 (some (.int i)) x8' x9') H'∧getL H' ip=some (ps'.map prD)∧zbd ys n ps'∧ps'.length≤ps.length+6∧Std st ir im ys ms H'∧Fr [st,ip] H H':=by
  have hi0:mas z8k (z00 (m2 addE (mVar 7) (mC (.int 1))) (z00 (mVar 2) mNil)) (ev9 st ir ip im n w d1 (some (.int i)) x8 x9) H=.ok (z0y ((i:Int)+1) n) H:=by
    have q:z00 (m2 addE (mVar 7) (mC (.int 1))) (z00 (mVar 2) mNil) (ev9 st ir ip im n w d1 (some (.int i)) x8 x9) H=.ok [.int ((i:Int)+1),.int n] H:=rfl
    unfold mas
    rw [q,Rs.bind_ok]
    exact zl1 (by omega) (by omega) (by omega) (by omega)
  have hN:(z0y ((i:Int)+1) (n:Int)).n=n - (i+1):=by
    show ((n:Int) - ((i:Int)+1)).toNat=_
    omega
  obtain ⟨ρ',H',r1,x8',x9',ps',e1,e2,e3,e4,e5,e6⟩:=z51 (b:=oB) (sg:=z03 8) hi0 (fun k ρ H'=>∃ (x8' x9':Option Dv) (ps':List (Int×Int)),ρ=ev9 st ir ip im n w d1 (some (.int i)) x8' x9'∧getL H' ip=some (ps'.map prD)∧zbd ys n ps'∧ps'.length≤ps.length+k∧Std st ir im ys ms H'∧Fr [st,ip] H H')
    (fun k ρ H' hk ⟨x8',x9',ps',e1,e2,e3,e4,e5,e6⟩=>by
      subst e1
      rw [hN] at hk
      have hj:i+1+k<n:=by omega
      obtain ⟨x9n,H2,ps2,b1,b2,b3,b4,b5⟩:=zqh (x9:=x9') (w:=w) (d1:=d1) (ip:=ip) (n:=n) (i:=i) (j:=i+1+k) e5 e2 hw hi hj hy hm (by omega) h1 h2 h3 h4 h5
      have ej:(((i+1+k:Nat)):Int)=(i:Int)+1+(k:Int):=by omega
      rw [ej] at b1
      refine ⟨.int ((i:Int)+1+(k:Int)),ev9 st ir ip im n w d1 (some (.int i)) (some (.int ((i:Int)+1+(k:Int)))) x9',_,H2,rfl,rfl,b1,_,_,ps2,rfl,b2, ?_, ?_,b4,e6.trans b5 fun j hj=>.inl hj⟩
      · rcases b3 with rfl | rfl
        · exact e3
        · intro p hp
          rcases List.mem_append.mp hp with hp | hp
          · exact e3 p hp
          · rw [List.mem_singleton.mp hp]
            exact ⟨i,i+1+k,by omega,hj,rfl⟩
      · rcases b3 with rfl | rfl
        · omega
        · rw [List.length_append];simp;omega) (fun _ _ _=>rfl) ⟨x8,x9,ps,rfl,ep,hb,by omega,D,Fr.refl⟩
  rw [hN] at e4
  exact ⟨x8',x9',H',ps',by unfold inM;rw [r1,e1],e2,e3,by omega,e5,e6⟩
def outM:MS:=mFor (mas z1a (z00 (mVar 2) mNil)) (z03 7) inM
theorem zny {H:Hs} {x7 x8 x9:Option Dv} (D:Std st ir im ys ms H) (ep:getL H ip=some (([]:List (Int×Int)).map prD)) (hw:0≤w∧w<5) (hn:n≤6) (hy:ys.length=n) (hm:ms.length=n)
    (h1:ir≠st) (h2:im≠st) (h3:ip≠st) (h4:ir≠ip) (h5:im≠ip):
    ∃ (x7' x8' x9':Option Dv) (H':Hs) (ps':List (Int×Int)),outM (ev9 st ir ip im n w d1 x7 x8 x9) H=.nx (ev9 st ir ip im n w d1 x7' x8' x9') H'∧getL H' ip=some (ps'.map prD)∧zbd ys n ps'∧Std st ir im ys ms H'∧Fr [st,ip] H H':=by
  have hi0:mas z1a (z00 (mVar 2) mNil) (ev9 st ir ip im n w d1 x7 x8 x9) H=.ok (z0y 0 n) H:=by
    have q:z00 (mVar 2) mNil (ev9 st ir ip im n w d1 x7 x8 x9) H=.ok [.int n] H:=rfl
    unfold mas
    rw [q,Rs.bind_ok]
    exact z97 (by omega) (by omega)
  have hN:(z0y 0 (n:Int)).n=n:=by simp [z0y]
  obtain ⟨ρ',H',r1,x7',x8',x9',ps',e1,e2,e3,e4,e5,e6⟩:=z51 (b:=inM) (sg:=z03 7) hi0 (fun k ρ H'=>∃ (x7' x8' x9':Option Dv) (ps':List (Int×Int)),ρ=ev9 st ir ip im n w d1 x7' x8' x9'∧getL H' ip=some (ps'.map prD)∧zbd ys n ps'∧ps'.length≤6*k∧Std st ir im ys ms H'∧Fr [st,ip] H H')
    (fun k ρ H' hk ⟨x7',x8',x9',ps',e1,e2,e3,e4,e5,e6⟩=>by
      subst e1
      rw [hN] at hk
      obtain ⟨x8n,x9n,H2,ps2,b1,b2,b3,b4,b5,b6⟩:=zqi (x8:=x8') (x9:=x9') (w:=w) (d1:=d1) (ip:=ip) (n:=n) (i:=k) e5 e2 hw hk hn hy hm (by omega) e3 h1 h2 h3 h4 h5
      have ek:(0:Int)+(k:Int)=(k:Int):=by omega
      refine ⟨.int (0+(k:Int)),ev9 st ir ip im n w d1 (some (.int k)) x8' x9',_,H2,rfl,by rw [ek];rfl,b1,_,_,_,ps2,rfl,b2,b3,by omega,b5,e6.trans b6 fun j hj=>.inl hj⟩) (fun _ _ _=>rfl) ⟨x7,x8,x9,[],rfl,ep,fun p hp=>by simp at hp,by simp,D,Fr.refl⟩
  exact ⟨x7',x8',x9',H',ps',by unfold outM;rw [r1,e1],e2,e3,e5,e6⟩
theorem zhb (pm:ys.Perm (rngV n)) {ps:List (Int×Int)} (h:zbd ys n ps):zh9 n ps:=by
  have hl:ys.length=n:=by rw [pm.length_eq];simp [rngV]
  have nd:ys.Nodup:=by
    refine pm.nodup_iff.mpr ?_
    unfold rngV
    simp only [Int.toNat_natCast]
    refine List.Pairwise.map _ ?_ (List.nodup_range (n:=n))
    intro a b h e;exact h (by omega)
  have mem:∀ i,i<n→0≤ys.getD i 0∧ys.getD i 0<n:=fun i hi=>by
    have hm:ys.getD i 0∈rngV n:=pm.mem_iff.mp (by simp [show i<ys.length by omega])
    simp only [rngV,List.mem_map,List.mem_range,Int.toNat_natCast] at hm
    obtain ⟨k,hk,e⟩:=hm
    omega
  refine ⟨fun p hp=>?_,fun a=>((posI a ys).getD 0:Nat),fun p hp=>?_⟩
  · obtain ⟨i,j,hij,hj,rfl⟩:=h p hp
    exact ⟨(mem i (by omega)).1,(mem i (by omega)).2,(mem j hj).1,(mem j hj).2⟩
  · obtain ⟨i,j,hij,hj,rfl⟩:=h p hp
    have hi':i<ys.length:=by omega
    have hj':j<ys.length:=by omega
    have e1:ys.getD i 0=ys[i]:=by simp [hi']
    have e2:ys.getD j 0=ys[j]:=by simp [hj']
    simp only [e1,e2,z59 nd i hi',z59 nd j hj',Option.getD_some]
    omega
def z98 (ms:List Int) (n:Nat) (ps:List (Int×Int)):Prop:=∀ p∈ps,∃ i j:Nat,i<n∧j<n∧ms.getD i 0<ms.getD j 0∧p=((i:Int),(j:Int))
theorem zbe {ps:List (Int×Int)} (h:z98 ms n ps):zh9 n ps:=by
  refine ⟨fun p hp=>?_,fun a=>ms.getD a.toNat 0,fun p hp=>?_⟩
  · obtain ⟨i,j,hi,hj,_,rfl⟩:=h p hp
    exact ⟨by simp,by simpa using hi,by simp,by simpa using hj⟩
  · obtain ⟨i,j,hi,hj,hlt,rfl⟩:=h p hp
    simpa using hlt
def mkC:M (List Dv):=z0v (mas z1a (z00 (mVar 2) mNil)) [none,some 7,some 6] (z03 0) (mB (m2 ltE (m2 ix0 (mVar 2) (mVar 1)) (m2 ix0 (mVar 2) (mVar 0)))) (z0t (mTup (z00 (mVar 1) (z00 (mVar 0) mNil))))
def mkB:MS:=mAsg (m2 addE (mVar 5) (mAl mkC)) (z03 5)
def z2n (ms:List Int) (n i:Nat):List (Int×Int):=(List.range n).filterMap fun j=>if ms.getD i 0<ms.getD j 0 then some ((i:Int),(j:Int)) else none
theorem znz {H:Hs} {x8 x9:Option Dv} {i:Nat} (em:getL H im=some (ms.map Dv.int)) (hi:i<n) (hn:n≤6) (hm:ms.length=n):
    mkC (ev9 st ir ip im n w d1 (some (.int i)) x8 x9) H=.ok ((z2n ms n i).map prD) H:=by
  have hi0:mas z1a (z00 (mVar 2) mNil) (ev9 st ir ip im n w d1 (some (.int i)) x8 x9) H=.ok (z0y 0 n) H:=by
    have q:z00 (mVar 2) mNil (ev9 st ir ip im n w d1 (some (.int i)) x8 x9) H=.ok [.int n] H:=rfl
    unfold mas
    rw [q,Rs.bind_ok]
    exact z97 (by omega) (by omega)
  have h:mkC (ev9 st ir ip im n w d1 (some (.int i)) x8 x9) H=.ok ((List.range n).filterMap fun j=>if ms.getD i 0<ms.getD j 0 then some (prD ((i:Int),(j:Int))) else none) H:=
    z11 (List.range n) (fun j=>if ms.getD i 0<ms.getD j 0 then some (prD ((i:Int),(j:Int))) else none) (fun ρ=>∃ a,ρ=[a,some (.int i),some (.ref im)]) hi0 (by simp [z0y]) ⟨_,rfl⟩ rfl (fun k hk ρ ⟨a,er⟩=>by
      subst er
      have hk':k<n:=by simpa using hk
      have gk:(List.range n)[k]=k:=by simp
      rw [gk]
      have ek:(0:Int)+(k:Int)=(k:Int):=by omega
      refine ⟨.int (0+(k:Int)),[some (.int k),some (.int i),some (.ref im)],rfl,by rw [ek];rfl,⟨_,rfl⟩, ?_⟩
      have x1:=ixR em (k:=i) (by omega)
      have x2:=ixR em (k:=k) (by omega)
      have g1:ms[i]=ms.getD i 0:=by simp [show i<ms.length by omega]
      have g2:ms[k]=ms.getD k 0:=by simp [show k<ms.length by omega]
      rw [g1] at x1
      rw [g2] at x2
      generalize ms.getD i 0=va at x1 ⊢
      generalize ms.getD k 0=vb at x2 ⊢
      have te:mB (m2 ltE (m2 ix0 (mVar 2) (mVar 1)) (m2 ix0 (mVar 2) (mVar 0))) [some (.int k),some (.int i),some (.ref im)] H=.ok (decide (va<vb)) H:=by
        simp [mB,m2,mVar,x1,x2,ltE,asB]
      by_cases c:va<vb
      · rw [if_pos c]
        rw [decide_eq_true c] at te
        exact ⟨te,rfl⟩
      · rw [if_neg c]
        rw [decide_eq_false c] at te
        exact te) (by simp;omega)
  have e:((List.range n).filterMap fun j=>if ms.getD i 0<ms.getD j 0 then some (prD ((i:Int),(j:Int))) else none)=(z2n ms n i).map prD:=by
    unfold z2n
    rw [List.map_filterMap]
    refine za9 _ fun j _=>?_
    split <;> rfl
  rw [h,e]
theorem zqj {H:Hs} {ip0:Nat} {x7 x8 x9:Option Dv} (D:Std st ir im ys ms H) (ep:getL H ip0=some (([]:List (Int×Int)).map prD)) (hn:n≤6) (hm:ms.length=n):
    ∃ (ip':Nat) (x7':Option Dv) (H':Hs) (ps':List (Int×Int)),mFor (mas z1a (z00 (mVar 2) mNil)) (z03 7) mkB (ev9 st ir ip0 im n w d1 x7 x8 x9) H=.nx (ev9 st ir ip' im n w d1 x7' x8 x9) H'∧getL H' ip'=some (ps'.map prD)∧z98 ms n ps'∧Fr [] H H':=by
  have hi0:mas z1a (z00 (mVar 2) mNil) (ev9 st ir ip0 im n w d1 x7 x8 x9) H=.ok (z0y 0 n) H:=by
    have q:z00 (mVar 2) mNil (ev9 st ir ip0 im n w d1 x7 x8 x9) H=.ok [.int n] H:=rfl
    unfold mas
    rw [q,Rs.bind_ok]
    exact z97 (by omega) (by omega)
  have hN:(z0y 0 (n:Int)).n=n:=by simp [z0y]
  obtain ⟨ρ',H',r1,ip',x7',ps',e1,e2,e3,e4,e5⟩:=z51 (b:=mkB) (sg:=z03 7) hi0 (fun k ρ H'=>∃ (ip':Nat) (x7':Option Dv) (ps':List (Int×Int)),ρ=ev9 st ir ip' im n w d1 x7' x8 x9∧getL H' ip'=some (ps'.map prD)∧z98 ms n ps'∧ps'.length≤6*k∧Fr [] H H')
    (fun k ρ H' hk ⟨ip',x7',ps',e1,e2,e3,e4,e5⟩=>by
      subst e1
      rw [hN] at hk
      have em:=e5.getL D.m (by simp)
      have hc:=znz (st:=st) (ir:=ir) (ip:=ip') (w:=w) (d1:=d1) (x8:=x8) (x9:=x9) em hk hn hm
      have hrl:(z2n ms n k).length≤6:=by
        have:=List.length_filterMap_le (fun j=>if ms.getD k 0<ms.getD j 0 then some ((k:Int),(j:Int)) else none) (List.range n)
        unfold z2n
        rw [List.length_range] at this
        omega
      have ek:(0:Int)+(k:Int)=(k:Int):=by omega
      have ep1:=z1m (l:=[Ob.lst ((z2n ms n k).map prD)]) e2
      have eq1:getL (H'++[Ob.lst ((z2n ms n k).map prD)]) H'.length=some ((z2n ms n k).map prD):=by simp [getL]
      have hz:(ps'.map prD).length+((z2n ms n k).map prD).length≤1000000:=by rw [List.length_map,List.length_map];omega
      have hb:mkB (ev9 st ir ip' im n w d1 (some (.int k)) x8 x9) H'=.nx (ev9 st ir (H'.length+1) im n w d1 (some (.int k)) x8 x9) (H'++[Ob.lst ((z2n ms n k).map prD)]++[Ob.lst ((ps'++z2n ms n k).map prD)]):=by
        have ha:addE (.ref ip') (.ref H'.length) (H'++[Ob.lst ((z2n ms n k).map prD)])=.ok (.ref (H'.length+1)) (H'++[Ob.lst ((z2n ms n k).map prD)]++[Ob.lst ((ps'++z2n ms n k).map prD)]):=by
          show addD (.ref ip') (.ref H'.length) (H'++[Ob.lst ((z2n ms n k).map prD)])=_
          simp only [addD,ep1,eq1,lim,hz,if_true]
          simp
        have hal:mAl mkC (ev9 st ir ip' im n w d1 (some (.int k)) x8 x9) H'=.ok (.ref H'.length) (H'++[Ob.lst ((z2n ms n k).map prD)]):=by
          unfold mAl
          rw [hc];rfl
        unfold mkB mAsg m2
        show ((Rs.ok (Dv.ref ip') H').bind _).thenS _=_
        rw [Rs.bind_ok,hal,Rs.bind_ok,ha]
        rfl
      refine ⟨.int (0+(k:Int)),ev9 st ir ip' im n w d1 (some (.int k)) x8 x9,_,_,rfl,by rw [ek];rfl,hb,H'.length+1,_,ps'++z2n ms n k,rfl,by simp [getL], ?_,by rw [List.length_append];omega,e5.trans (Fr.trans (T:=[]) (Fr.app (S:=[])) Fr.app (by simp)) (by simp)⟩
      intro p hp
      rcases List.mem_append.mp hp with hp | hp
      · exact e3 p hp
      · unfold z2n at hp
        obtain ⟨j,hj,e⟩:=List.mem_filterMap.mp hp
        split at e
        · rename_i c
          cases e
          exact ⟨k,j,hk,List.mem_range.mp hj,c,rfl⟩
        · cases e) (fun _ _ _=>rfl) ⟨ip0,x7,[],rfl,ep,fun p hp=>by simp at hp,by simp,Fr.refl⟩
  exact ⟨ip',x7',H',ps',by rw [r1,e1],e2,e3,e5⟩
end
def o1:MS:=mAsg (m2 subD (mVar 1) (m2 ix0 (mLst (z00 (mC (.int 0)) (z00 (mC (.int 0)) (z00 (mC (.int 1)) (z00 (mC (.int 2)) (z00 (mC (.int 0)) (z00 (mC (.int 3)) (z00 (mC (.int 1)) (z00 (mC (.int 4)) mNil))))))))) (z05 F_qp (z00 (mVar 0) (z00 (mC (.int 8)) mNil))))) (z03 2)
def o2:MS:=mAsg (z05 z6h (z00 (mC (.int 1)) (z00 (mVar 2) mNil))) (z03 2)
def o3:MS:=mAsg (z05 F_qa (z00 (mVar 0) (z00 (z05 (f1 z2x) (z00 (mVar 2) mNil)) mNil))) (z03 3)
def o4:MS:=mAsg (z05 F_qp (z00 (mVar 0) (z00 (mC (.int 5)) mNil))) (z03 4)
def o5:MS:=mAsg (mLst mNil) (z03 5)
def o6c:M (List Dv):=z0v (m1s lstD (mVar 3)) [none,some 0] (z03 0) z26 (z0t (z05 F_qp (z00 (mVar 1) (z00 (mC (.int 3)) mNil))))
def o6:MS:=mAsg (mAl o6c) (z03 6)
def o8:MS:=mIf (mB (m2 eqD (mVar 4) (mC (.int 3)))) (mSeq (mAsg (mLst mNil) (z03 5)) (mFor (mas z1a (z00 (mVar 2) mNil)) (z03 7) mkB)) z0x
def o9:MS:=mRet (mTup (z00 (mVar 2) (z00 (z05 (f1 z2k) (z00 (z05 F_qf (z00 (mVar 5) mNil)) mNil)) mNil)))
theorem zhc:zgs=mSeq o1 (mSeq o2 (mSeq o3 (mSeq o4 (mSeq o5 (mSeq o6 (mSeq outM (mSeq o8 o9))))))):=rfl
section
variable {st:Nat}
theorem zqk {H:Hs} {m:Int} {x2 x3 x4 x5 x6 x7 x8 x9:Option Dv} (s:St st H):∃ (v:Int) (H':Hs),0≤v∧v≤4∧o1 [some (.ref st),some (.int m),x2,x3,x4,x5,x6,x7,x8,x9] H=.nx [some (.ref st),some (.int m),some (.int (m - v)),x3,x4,x5,x6,x7,x8,x9] H'∧St st H'∧Fr [st] H H':=by
  have fA:Fr [] H (H++[Ob.lst [.int 0,.int 0,.int 1,.int 2,.int 0,.int 3,.int 1,.int 4]]):=Fr.app
  have eA:getL (H++[Ob.lst [.int 0,.int 0,.int 1,.int 2,.int 0,.int 3,.int 1,.int 4]]) H.length=some (([0,0,1,2,0,3,1,4]:List Int).map Dv.int):=by simp [getL]
  have sA:=s.fr fA (by simp)
  have lt:=s.lt
  have hd:mLst (z00 (mC (.int 0)) (z00 (mC (.int 0)) (z00 (mC (.int 1)) (z00 (mC (.int 2)) (z00 (mC (.int 0)) (z00 (mC (.int 3)) (z00 (mC (.int 1)) (z00 (mC (.int 4)) mNil)))))))) [some (.ref st),some (.int m),x2,x3,x4,x5,x6,x7,x8,x9] H=.ok (.ref H.length) (H++[Ob.lst [.int 0,.int 0,.int 1,.int 2,.int 0,.int 3,.int 1,.int 4]]):=rfl
  generalize H++[Ob.lst [.int 0,.int 0,.int 1,.int 2,.int 0,.int 3,.int 1,.int 4]]=HA at fA eA sA hd
  obtain ⟨r,H1,r0,r1,t1,f1,s1⟩:=z2i 8 sA
  have e1:=f1.getL eA (by simp;omega)
  obtain ⟨k,rfl⟩:∃ k:Nat,r=k:=⟨r.toNat,by omega⟩
  have hk:k<8:=by omega
  have hx:=ixR e1 (k:=k) (by simpa using hk)
  have hv:0≤([0,0,1,2,0,3,1,4]:List Int)[k]∧([0,0,1,2,0,3,1,4]:List Int)[k]≤4:=by
    match k,hk with
    | 0,_=>simp
    | 1,_=>simp
    | 2,_=>simp
    | 3,_=>simp
    | 4,_=>simp
    | 5,_=>simp
    | 6,_=>simp
    | 7,_=>simp
  generalize ([0,0,1,2,0,3,1,4]:List Int)[k]=v at hx hv
  refine ⟨v,H1,hv.1,hv.2, ?_,s1,fA.mono (T:=[st]) (by simp) |>.trans f1 (by simp)⟩
  have ht:z05 F_qp (z00 (mVar 0) (z00 (mC (.int 8)) mNil)) [some (.ref st),some (.int m),x2,x3,x4,x5,x6,x7,x8,x9] HA=.ok (.int k) H1:=by
    simp [z05,z00,mVar,mC,mNil,t1]
  unfold o1 mAsg m2
  show ((Rs.ok (Dv.int m) H).bind _).thenS _=_
  rw [Rs.bind_ok,hd,Rs.bind_ok,ht,Rs.bind_ok,hx,Rs.bind_ok]
  rfl
theorem zql {H:Hs} {ir:Nat} {ys:List Int} {x1 x2 x4 x5 x6 x7 x8 x9:Option Dv} (s:St st H) (er:getL H ir=some (ys.map Dv.int)) (hrs:ir≠st) (hl:ys.length≤100):∃ (ms:List Int) (H':Hs),ms.length=ys.length∧o6 [some (.ref st),x1,x2,some (.ref ir),x4,x5,x6,x7,x8,x9] H=.nx [some (.ref st),x1,x2,some (.ref ir),x4,x5,some (.ref H'.length),x7,x8,x9] (H'++[.lst (ms.map Dv.int)])∧St st H'∧Fr [st] H H':=by
  have hi:m1s lstD (mVar 3) [some (.ref st),x1,x2,some (.ref ir),x4,x5,x6,x7,x8,x9] H=.ok (srcR ir ys.length) H:=by simp [m1s,mVar,lstD,er]
  obtain ⟨ρ',H',acc',h1,a,ms,h2,h3,h4,h5,h6⟩:=z6n (src:=srcR ir ys.length) (sg:=z03 0) (t:=z26) (m:=z0t (z05 F_qp (z00 (mVar 1) (z00 (mC (.int 3)) mNil))))
    (fun k ρ H' acc=>∃ (a:Option Dv) (ms:List Int),ρ=[a,some (.ref st)]∧acc=ms.map Dv.int∧ms.length=k∧St st H'∧Fr [st] H H')
    (fun k ρ H' acc hk ⟨a,ms,e1,e2,e3,e4,e5⟩=>by
      subst e1;subst e2
      have hk':k<ys.length:=hk
      obtain ⟨r,H1,r0,r1,t1,f1,s1⟩:=z2i 3 e4
      have er':=e5.getL er (by simpa using hrs)
      refine ⟨.int ys[k],[some (.int ys[k]),some (.ref st)],zaf er' hk',rfl,.inr ⟨H',[some (.int ys[k]),some (.ref st)],(ms++[r]).map Dv.int,H1,rfl, ?_,_,ms++[r],rfl,rfl,by simp [e3],s1,e5.trans f1 (by simp)⟩⟩
      have hz:ms.length<1000000:=by omega
      simp [z0t,z05,z00,mVar,mC,mNil,t1,hz]) (fun ρ H' acc ⟨_,_,_,_,_,_,e5⟩=>zag (e5.getL er (by simpa using hrs))) ys.length 0 [none,some (.ref st)] H [] (by simp [srcR]) ⟨none,[],rfl,rfl,rfl,s,Fr.refl⟩
  refine ⟨ms,H',h4, ?_,h5,h6⟩
  have hc:o6c [some (.ref st),x1,x2,some (.ref ir),x4,x5,x6,x7,x8,x9] H=.ok (ms.map Dv.int) H':=by
    unfold o6c z0v
    rw [hi,Rs.bind_ok]
    have hcap:z42 [none,some 0] [some (.ref st),x1,x2,some (.ref ir),x4,x5,x6,x7,x8,x9]=[none,some (.ref st)]:=rfl
    rw [hcap,show (srcR ir ys.length).n=ys.length from rfl,h1]
    dsimp only
    rw [h3]
  unfold o6 mAsg mAl
  rw [hc]
  rfl
theorem zbf {H:Hs} (s:St st H):∃ (n:Nat) (cs:List (Int×Int)) (H':Hs),F_ql [.ref st,.int 6] H=.ok (ordD n cs) H'∧OrdP n cs∧St st H'∧Fr [st] H H':=by
  have lt:=s.lt
  obtain ⟨v,H1,v0,v1,w1,s1,f1'⟩:=zqk (m:=6) (x2:=none) (x3:=none) (x4:=none) (x5:=none) (x6:=none) (x7:=none) (x8:=none) (x9:=none) s
  obtain ⟨n,hn⟩:∃ n:Nat,(6:Int) - v=n:=⟨(6 - v).toNat,by omega⟩
  have n1:1≤n:=by omega
  have n6:n≤6:=by omega
  rw [hn] at w1
  have w2:o2 [some (.ref st),some (.int 6),some (.int n),none,none,none,none,none,none,none] H1=.nx [some (.ref st),some (.int 6),some (.int n),none,none,none,none,none,none,none] H1:=by
    have hm:z6h [.int 1,.int (n:Int)] H1=.ok (.int n) H1:=by
      show Rs.ok (Dv.int (if (n:Int)>1 then (n:Int) else 1)) H1=_
      split
      · rfl
      · rw [show (1:Int)=n by omega]
    simp [o2,mAsg,z05,z00,mC,mVar,mNil,hm,z03]
  have hL:z2x (.int n) H1=.ok (.ref H1.length) (H1++[.lst ((rngV n).map Dv.int)]):=by
    have c:(decide (0≤(n:Int))&&decide ((n:Int)≤1000))=true:=by simp;omega
    simp only [z2x,c,if_true]
  have fL:Fr [] H1 (H1++[Ob.lst ((rngV n).map Dv.int)]):=Fr.app
  obtain ⟨ir,ys,H2,t2,er,pm,hir,s2,f2⟩:=zh7 (s1.fr fL (by simp)) (j:=H1.length) (xs:=rngV n) (by simp [getL]) (by simp [rngV];omega)
  have l1:=s1.lt
  have hir':H1.length+1≤ir:=by simpa using hir
  have w3:o3 [some (.ref st),some (.int 6),some (.int n),none,none,none,none,none,none,none] H1=.nx [some (.ref st),some (.int 6),some (.int n),some (.ref ir),none,none,none,none,none,none] H2:=by
    simp [o3,mAsg,z05,z00,mVar,mNil,f1,hL,t2,z03]
  have hy:ys.length=n:=by rw [pm.length_eq];simp [rngV]
  obtain ⟨w,H3,w0,w5,t3,f3,s3⟩:=z2i 5 s2
  have er3:=f3.getL er (by simp;omega)
  have w4:o4 [some (.ref st),some (.int 6),some (.int n),some (.ref ir),none,none,none,none,none,none] H2=.nx [some (.ref st),some (.int 6),some (.int n),some (.ref ir),some (.int w),none,none,none,none,none] H3:=by
    simp [o4,mAsg,z05,z00,mVar,mC,mNil,t3,z03]
  have w5':o5 [some (.ref st),some (.int 6),some (.int n),some (.ref ir),some (.int w),none,none,none,none,none] H3=.nx [some (.ref st),some (.int 6),some (.int n),some (.ref ir),some (.int w),some (.ref H3.length),none,none,none,none] (H3++[.lst []]):=rfl
  have fM:Fr [] H3 (H3++[Ob.lst []]):=Fr.app
  have eP:getL (H3++[Ob.lst []]) H3.length=some (([]:List (Int×Int)).map prD):=by simp [getL]
  have l2:=z31 er
  have l3:=z31 er3
  have l4:=s3.lt
  obtain ⟨ms,H4,hm,w6,s4,f4⟩:=zql (x1:=some (.int 6)) (x2:=some (.int n)) (x4:=some (.int w)) (x5:=some (.ref H3.length)) (x6:=none) (x7:=none) (x8:=none) (x9:=none) (s3.fr fM (by simp)) (fM.getL er3 (by simp)) (by omega) (by omega)
  have eP4:=f4.getL eP (by simp;omega)
  have er4:=f4.getL (fM.getL er3 (by simp)) (by simp;omega)
  have hle:H3.length+1≤H4.length:=by have:=f4.le;simpa using this
  have fN:Fr [] H4 (H4++[Ob.lst (ms.map Dv.int)]):=Fr.app
  have D:Std st ir H4.length ys ms (H4++[Ob.lst (ms.map Dv.int)]):=⟨s4.fr fN (by simp),fN.getL er4 (by simp),by simp [getL]⟩
  obtain ⟨x7,x8,x9,H5,ps,w7,eP5,hb,D5,f5⟩:=zny (d1:=.int 6) (w:=w) (ip:=H3.length) (n:=n) (x7:=none) (x8:=none) (x9:=none) D (fN.getL eP4 (by simp)) ⟨w0,w5⟩ n6 hy (by omega) (by omega) (by omega) (by omega) (by omega) (by omega)
  have fall:Fr [st] H H5:=by
    have g1:Fr [st] H H2:=(f1'.trans fL (by simp)).trans f2 (by simp)
    have g2:Fr [st] H (H3++[Ob.lst []]):=(g1.trans f3 (by simp)).trans fM (by simp)
    have g3:Fr [st] H (H4++[Ob.lst (ms.map Dv.int)]):=(g2.trans f4 (by simp)).trans fN (by simp)
    refine g3.trans f5 fun j hj=>?_
    rcases List.mem_cons.mp hj with rfl | hj
    · exact .inl (by simp)
    · rw [List.mem_singleton.mp hj]
      have:=f1'.le
      have:=f2.le
      have:=f3.le
      right;omega
  have fin:∀ (q:Nat) (y7:Option Dv) (H6:Hs) (qs:List (Int×Int)),getL H6 q=some (qs.map prD)→zh9 n qs→Fr [] H5 H6→o8 (ev9 st ir H3.length H4.length n w (.int 6) x7 x8 x9) H5=.nx (ev9 st ir q H4.length n w (.int 6) y7 x8 x9) H6→
      ∃ (cs:List (Int×Int)) (H':Hs),F_ql [.ref st,.int 6] H=.ok (ordD n cs) H'∧OrdP n cs∧St st H'∧Fr [st] H H':=fun q y7 H6 qs eq6 g6 f6 w8=>by
    obtain ⟨cs,j,H7,hc,tc,ec,f7⟩:=zeb n6 g6.1 (z89 eq6)
    refine ⟨cs,H7, ?_,zha n1 n6 g6 hc,(D5.s.fr f6 (by simp)).fr f7 (by simp),(fall.trans f6 (by simp)).trans f7 (by simp)⟩
    have w9:o9 (ev9 st ir q H4.length n w (.int 6) y7 x8 x9) H6=.rt (ordD n cs) H7:=by
      have h1:z05 F_qf (z00 (mVar 5) mNil) (ev9 st ir q H4.length n w (.int 6) y7 x8 x9) H6=.ok (.ref j) H7:=by
        simp [z05,z00,mVar,mNil,tc]
      have h2:z05 (f1 z2k) (z00 (z05 F_qf (z00 (mVar 5) mNil)) mNil) (ev9 st ir q H4.length n w (.int 6) y7 x8 x9) H6=.ok (.tup (cs.map prD)) H7:=by
        have h0:z00 (z05 F_qf (z00 (mVar 5) mNil)) mNil (ev9 st ir q H4.length n w (.int 6) y7 x8 x9) H6=.ok [.ref j] H7:=by
          show (z05 F_qf (z00 (mVar 5) mNil) (ev9 st ir q H4.length n w (.int 6) y7 x8 x9) H6).bind _=_
          rw [h1];rfl
        show (z00 (z05 F_qf (z00 (mVar 5) mNil)) mNil (ev9 st ir q H4.length n w (.int 6) y7 x8 x9) H6).bind _=_
        rw [h0]
        simp [f1,z2k,ec]
      unfold o9 mRet mTup
      rw [show z00 (mVar 2) (z00 (z05 (f1 z2k) (z00 (z05 F_qf (z00 (mVar 5) mNil)) mNil)) mNil) (ev9 st ir q H4.length n w (.int 6) y7 x8 x9) H6=.ok [.int n,.tup (cs.map prD)] H7 by
        unfold z00
        show ((Rs.ok (Dv.int n) H6).bind _)=_
        rw [Rs.bind_ok]
        show ((z05 (f1 z2k) (z00 (z05 F_qf (z00 (mVar 5) mNil)) mNil) (ev9 st ir q H4.length n w (.int 6) y7 x8 x9) H6).bind _).bind _=_
        rw [h2];rfl]
      rfl
    show z0r (zgs [some (.ref st),some (.int 6),none,none,none,none,none,none,none,none] H)=_
    rw [zhc,z0k w1,z0k w2,z0k w3,z0k w4,z0k w5',z0k w6,z0k w7,z0k w8,w9]
    rfl
  have t8:mB (m2 eqD (mVar 4) (mC (.int 3))) (ev9 st ir H3.length H4.length n w (.int 6) x7 x8 x9) H5=.ok (w==3) H5:=by
    simp [mB,m2,mVar,mC,zaj,asB]
  by_cases h3:w=3
  · have fQ:Fr [] H5 (H5++[Ob.lst []]):=Fr.app
    obtain ⟨q,y7,H6,qs,k1,k2,k3,k4⟩:=zqj (st:=st) (ir:=ir) (im:=H4.length) (n:=n) (w:=w) (d1:=.int 6) (ip0:=H5.length) (x7:=x7) (x8:=x8) (x9:=x9) (D5.fr fQ (D5.s.fr fQ (by simp)) (by simp) (by simp)) (by simp [getL]) n6 (by omega)
    obtain ⟨cs,H',r⟩:=fin q y7 H6 qs k2 (zbe k3) (fQ.trans k4 (by simp)) (by
      unfold o8
      have wA:mAsg (mLst mNil) (z03 5) (ev9 st ir H3.length H4.length n w (.int 6) x7 x8 x9) H5=.nx (ev9 st ir H5.length H4.length n w (.int 6) x7 x8 x9) (H5++[Ob.lst []]):=rfl
      rw [if_T (t8.trans (by rw [h3];rfl)),z0k wA,k1])
    exact ⟨n,cs,H',r⟩
  · obtain ⟨cs,H',r⟩:=fin H3.length x7 H5 ps eP5 (zhb pm hb) Fr.refl (by
      unfold o8
      have:(w==3)=false:=by simpa using h3
      rw [if_F (t8.trans (by rw [this]))]
      rfl)
    exact ⟨n,cs,H',r⟩
end
end L2.Mr.Com
namespace L2.Mr.K01
open PySem PySem.Spec PyProof.Rows L2 L2.Mr L2.Mr.Com
end L2.Mr.K01
namespace L2.Mr.Com
open PySem PySem.Spec PyProof.Rows L2 L2.Mr
def T0 (H:Hs):Dv→Prop
  | .ref i=>∃ xs,getL H i=some xs
  | .exc _=>False
  | .scr=>False
  | _=>True
def TK:Nat→Hs→Dv→Prop
  | 0,H,d=>T0 H d
  | k+1,H,d=>T0 H d∧∀ ds,d=.tup ds→ds.length≤500∧∀ x∈ds,TK k H x
theorem TK.t0:∀ {k:Nat} {H:Hs} {d:Dv},TK k H d→T0 H d
  | 0,_,_,h=>h
  | _+1,_,_,h=>h.1
theorem TK.tup {k:Nat} {H:Hs} {ds:List Dv} (hl:ds.length≤500) (h:∀ x∈ds,TK k H x):TK (k+1) H (.tup ds):=⟨trivial,fun _ e=>by cases e;exact ⟨hl,h⟩⟩
theorem TK.of {k:Nat} {H:Hs} {d:Dv} (h0:T0 H d) (h:∀ ds,d≠.tup ds):TK k H d:=by
  cases k with
  | zero=>exact h0
  | succ k=>exact ⟨h0,fun ds e=>absurd e (h ds)⟩
theorem T0.fr {st:Nat} {H H':Hs} {d:Dv} (h:T0 H d) (f:Fr [st] H H') (s:St st H'):T0 H' d:=by
  cases d with
  | ref i=>
    obtain ⟨xs,e⟩:=h
    by_cases c:i=st
    · subst c
      obtain ⟨a,b,e⟩:=s
      exact ⟨_,e⟩
    · exact ⟨xs,f.getL e (by simpa using c)⟩
  | _=>exact h
theorem TK.fr {st:Nat} {H H':Hs} (f:Fr [st] H H') (s:St st H'):∀ {k:Nat} {d:Dv},TK k H d→TK k H' d
  | 0,_,h=>T0.fr h f s
  | k+1,_,h=>⟨h.1.fr f s,fun ds e=>⟨(h.2 ds e).1,fun x hx=>TK.fr f s ((h.2 ds e).2 x hx)⟩⟩
def z99:Dv→Bool
  | .tup _=>true
  | _=>false
def isInt:Dv→Bool
  | .int _=>true
  | _=>false
section
variable {H:Hs} {d:Dv} {n:Int}
theorem zec (h:T0 H d):isiD z23 d H=.ok (.bl (z99 d)) H:=by
  cases d with
  | ref i=>obtain ⟨xs,e⟩:=h;simp [isiD,tyD,e,z23,z99]
  | exc c=>exact h.elim
  | scr=>exact h.elim
  | _=>rfl
theorem zo0 (h:T0 H d):isiD z5v d H=.ok (.bl (match d with | .int _=>true | .bl _=>true | _=>false)) H:=by
  cases d with
  | ref i=>obtain ⟨xs,e⟩:=h;simp [isiD,tyD,e,z5v]
  | exc c=>exact h.elim
  | scr=>exact h.elim
  | _=>rfl
theorem zl2 (h:T0 H d):isiD z2g d H=.ok (.bl (match d with | .bl _=>true | _=>false)) H:=by
  cases d with
  | ref i=>obtain ⟨xs,e⟩:=h;simp [isiD,tyD,e,z2g]
  | exc c=>exact h.elim
  | scr=>exact h.elim
  | _=>rfl
theorem zed (h:T0 H d):F_qr [d] H=.ok (.bl (isInt d)) H:=by
  have e1:=zo0 h
  have e2:=zl2 h
  cases d <;> simp [F_qr,zgk,z0i,z09,mRet,z20,m1,mVar,e1,e2,notD,z0r,isInt]
def btB (lo hi:Int):Dv→Bool
  | .int x=>decide (lo≤x)&&decide (x≤hi)
  | _=>false
theorem z5b {lo hi:Int} (h:T0 H d):F_qg [d,.int lo,.int hi] H=.ok (.bl (btB lo hi d)) H:=by
  have w:=zed h
  cases d with
  | int x=>exact z34
  | _=>simp [F_qg,ze2,z0i,z09,mRet,z20,z05,z00,mVar,mNil,w,isInt,z0r,btB]
def tB (n:Int) (d:Dv):Bool:=btB 0 (n - 1) d
theorem z8a (h:T0 H d):F_qs [.int n,d] H=.ok (.bl (tB n d)) H:=by
  simp [F_qs,zgl,z0i,z09,mRet,z05,z00,mVar,mNil,mC,m2,subD,iOp,z5b h,z0r,tB]
def thsB (n:Int):Dv→Bool
  | .tup ys=>ys.all (tB n)
  | _=>false
theorem zbg (h:TK 1 H d):F_qh [.int n,d] H=.ok (.bl (thsB n d)) H:=by
  have e:=zec h.1
  cases d with
  | tup xs=>
    obtain ⟨hl,hx⟩:=h.2 xs rfl
    have h:z0v (m1s tupS (mVar 1)) [none,some 0] (z03 0) z26 (z0t (z05 F_qs (z00 (mVar 1) (z00 (mVar 0) mNil)))) [some (.int n),some (.tup xs)] H=.ok (xs.filterMap fun x=>some (.bl (tB n x))) H:=
      z11 xs (fun x=>some (.bl (tB n x))) (fun ρ=>∃ a,ρ=[a,some (.int n)]) rfl (by simp [srcL]) ⟨_,rfl⟩ rfl (fun k hk ρ ⟨a,e⟩=>by
        subst e
        exact ⟨xs[k],_,by simp [srcL,hk],rfl,⟨_,rfl⟩,rfl,by simp [z05,z00,mVar,mNil,z8a (hx xs[k] (List.getElem_mem hk))]⟩) (by omega)
    simp [F_qh,ze3,z0i,z09,mRet,z20,m1,isiD,mVar,tyD,z23,z5z h,z0r,thsB]
  | _=>simp [F_qh,ze3,z0i,z09,mRet,z20,m1,mVar,e,z99,z0r,thsB]
def pB (n:Int):Dv→Bool
  | .tup ys=>ys.all (tB n)&&decide (ys.length=2)
  | _=>false
theorem zl3 (ys:List Dv):f1 len0 [.tup ys] H=.ok (.int ys.length) H:=rfl
theorem zhd (h:TK 1 H d):F_qu [.int n,d] H=.ok (.bl (pB n d)) H:=by
  have h1:=zbg (n:=n) h
  cases d with
  | tup ys=>
    cases q:ys.all (tB n) with
    | false=>simp [F_qu,z8y,z0i,z09,mRet,z20,z05,z00,mVar,mNil,h1,thsB,pB,q,z0r]
    | true=>
      have e:((ys.length:Int)==2)=decide (ys.length=2):=by rw [Bool.eq_iff_iff];simp;omega
      simp [F_qu,z8y,z0i,z09,mRet,z20,z05,z00,mVar,mNil,h1,thsB,pB,q,z0r,m2,zl3,mC,zaj,e]
  | _=>simp [F_qu,z8y,z0i,z09,mRet,z20,z05,z00,mVar,mNil,h1,thsB,pB,z0r]
theorem zee {xs:List Dv} (h:TK 2 H (.tup xs)):F_qn [.int n,.tup xs] H=.ok (.bl (xs.all (pB n))) H:=by
  obtain ⟨hl,hx⟩:=h.2 xs rfl
  have h:z0v (m1s tupS (mVar 1)) [none,some 0] (z03 0) z26 (z0t (z05 F_qu (z00 (mVar 1) (z00 (mVar 0) mNil)))) [some (.int n),some (.tup xs)] H=.ok (xs.filterMap fun p=>some (.bl (pB n p))) H:=
    z11 xs (fun p=>some (.bl (pB n p))) (fun ρ=>∃ a,ρ=[a,some (.int n)]) rfl (by simp [srcL]) ⟨_,rfl⟩ rfl (fun k hk ρ ⟨a,e⟩=>by
      subst e
      exact ⟨xs[k],_,by simp [srcL,hk],rfl,⟨_,rfl⟩,rfl,by simp [z05,z00,mVar,mNil,zhd (hx xs[k] (List.getElem_mem hk))]⟩) (by omega)
  simp [F_qn,zgm,z0i,z09,mRet,z5z h,z0r]
def prOf:Dv→Option (Int×Int)
  | .tup [.int a,.int b]=>some (a,b)
  | _=>none
theorem zqm {x:Dv} (h:pB n x=true):∃ p,x=prD p∧prOf x=some p:=by
  match x,h with
  | .tup [.int a,.int b],_=>exact ⟨(a,b),rfl,rfl⟩
  | .tup [a,b],h=>
    simp [pB] at h
    obtain ⟨h1,h2⟩:=h
    cases a <;> first | (cases h1;done) | skip
    cases b <;> first | (cases h2;done) | skip
    exact ⟨_,rfl,rfl⟩
  | .tup [],h=>simp [pB] at h
  | .tup [_],h=>simp [pB] at h
  | .tup (_::_::_::_),h=>simp [pB] at h
theorem zij:∀ {xs:List Dv},(∀ x∈xs,∃ p,x=prD p∧prOf x=some p)→xs=(xs.filterMap prOf).map prD
  | [],_=>rfl
  | x::xs,h=>by
    obtain ⟨p,e,q⟩:=h x (by simp)
    rw [List.filterMap_cons_some q,List.map_cons,← zij fun y hy=>h y (by simp [hy]),← e]
def ordG:Dv→Bool
  | .tup [.int n,.tup xs]=>xs.all (pB n)&&z60 n (xs.filterMap prOf)
  | _=>false
theorem ne2 {ds:List Dv} (h:ds.length≠2):∃ L:Int,f1 len0 [.tup ds] H=.ok (.int L) H∧neD (.int L) (.int 2) H=.ok (.bl true) H:=by
  refine ⟨ds.length,rfl, ?_⟩
  have:((ds.length:Int)==2)=false:=by simp;omega
  simp [neD,z0w,pur,deq,this]
theorem z3x {ds:List Dv} (h:ds.length≠2):F_qt [.tup ds] H=.ok (.bl false) H:=by
  obtain ⟨L,hlen,hne⟩:=ne2 (H:=H) h
  have e:isiD z23 (.tup ds) H=.ok (.bl true) H:=rfl
  simp [F_qt,z85,z0i,z09,mSeq,mIf,mOr,mNot,mTru,m1,mVar,mB,m2,z05,z00,mNil,mC,mRet,e,truD,hlen,hne,asB,z0r]
theorem z5c {ds:List Dv} (h:ds.length≠2):ordG (.tup ds)=false:=by
  unfold ordG
  split
  · rename_i e;cases e;simp at h
  · rfl
theorem zef (h:TK 3 H d):F_qt [d] H=.ok (.bl (ordG d)) H:=by
  have e:=zec h.1
  cases d with
  | tup ds=>
    obtain ⟨hl,hx⟩:=h.2 ds rfl
    match ds,hl,hx,e,h with
    | [a,b],hl,hx,e,h=>
      have ha:=hx a (by simp)
      have hb:=hx b (by simp)
      have b1:=z5b (lo:=1) (hi:=6) ha.t0
      have b2:=zec hb.t0
      have hlen:f1 len0 [.tup [a,b]] H=.ok (.int 2) H:=rfl
      cases q1:btB 1 6 a with
      | false=>
        rw [q1] at b1
        have:ordG (.tup [a,b])=false:=by
          cases a with
          | int n=>
            cases b with
            | tup xs=>
              have:¬ (1≤n∧n≤6):=by simpa [btB] using q1
              simp only [ordG,Bool.and_eq_false_iff]
              right
              unfold z60
              by_cases c:1≤n
              · have:¬ n≤6:=fun c'=>this ⟨c,c'⟩
                simp [this]
              · simp [c]
            | _=>rfl
          | _=>rfl
        rw [this]
        simp [F_qt,z85,z0i,z09,mSeq,mIf,mOr,mNot,mTru,m1,mVar,e,z99,truD,mB,m2,z05,z00,mNil,hlen,mC,neD,z0w,pur,deq,asB,z0x,mAsg,sTup,z0l,z03,sNil,b1,mRet,z0r]
      | true=>
        rw [q1] at b1
        cases a with
        | int n=>
          cases b with
          | tup xs=>
            have p1:=zee (n:=n) hb
            cases q2:xs.all (pB n) with
            | false=>
              rw [q2] at p1
              simp [ordG,q2,F_qt,z85,z0i,z09,mSeq,mIf,mOr,mNot,mTru,m1,mVar,e,b2,z99,truD,mB,m2,z05,z00,mNil,hlen,mC,neD,z0w,pur,deq,asB,z0x,mAsg,sTup,z0l,z03,sNil,b1,p1,mRet,z0r]
            | true=>
              have ex:=zij fun x hx=>zqm (List.all_eq_true.mp q2 x hx)
              have hle:(xs.filterMap prOf).length≤900:=by have:=List.length_filterMap_le prOf xs;have:=(hb.2 xs rfl).1;omega
              have:=zac (H:=H) (n:=n) (ps:=xs.filterMap prOf) hle
              rw [← ex] at this
              rw [this]
              simp [ordG,q2]
          | _=>simp [ordG,F_qt,z85,z0i,z09,mSeq,mIf,mOr,mNot,mTru,m1,mVar,e,b2,z99,truD,mB,m2,z05,z00,mNil,hlen,mC,neD,z0w,pur,deq,asB,z0x,mAsg,sTup,z0l,z03,sNil,b1,mRet,z0r]
        | _=>cases q1
    | [],hl,hx,e,h=>exact (z3x (by simp)).trans (by rw [z5c (by simp)])
    | [a],hl,hx,e,h=>exact (z3x (by simp)).trans (by rw [z5c (by simp)])
    | a::b::c::r,hl,hx,e,h=>exact (z3x (by simp)).trans (by rw [z5c (by simp)])
  | _=>simp [F_qt,z85,z0i,z09,mSeq,mIf,mOr,mNot,mTru,m1,mVar,e,z99,truD,mC,mRet,z0r,ordG]
end
section
variable {H:Hs} {d:Dv} {n:Int}
end
section
variable {H:Hs} {d:Dv}
end
theorem T0.fr0 {H H':Hs} {d:Dv} (h:T0 H d) (f:Fr [] H H'):T0 H' d:=by
  cases d with
  | ref i=>obtain ⟨xs,e⟩:=h;exact ⟨xs,f.getL e (by simp)⟩
  | _=>exact h
theorem TK.fr0 {H H':Hs} (f:Fr [] H H'):∀ {k:Nat} {d:Dv},TK k H d→TK k H' d
  | 0,_,h=>T0.fr0 h f
  | k+1,_,h=>⟨h.1.fr0 f,fun ds e=>⟨(h.2 ds e).1,fun x hx=>TK.fr0 f ((h.2 ds e).2 x hx)⟩⟩
def Mono (P:Ev→Hs→Prop):Prop:=∀ ρ H H',P ρ H→Fr [] H H'→P ρ H'
def Wr (P:Ev→Hs→Prop) (k:Nat) (m:M Dv):Prop:=∀ ρ H,P ρ H→∃ d H',m ρ H=.ok d H'∧Fr [] H H'∧TK k H' d
def WrL (P:Ev→Hs→Prop) (k n:Nat) (ms:M (List Dv)):Prop:=∀ ρ H,P ρ H→∃ ds H',ms ρ H=.ok ds H'∧Fr [] H H'∧ds.length=n∧∀ x∈ds,TK k H' x
section
variable {P:Ev→Hs→Prop} {k n m':Nat} {m:M Dv} {ms:M (List Dv)}
theorem zeg:WrL P k 0 mNil:=fun ρ H _=>⟨[],H,rfl,Fr.refl,rfl,fun x hx=>by cases hx⟩
theorem z9a (hP:Mono P) (h:Wr P k m) (hs:WrL P k n ms):WrL P k (n+1) (z00 m ms):=fun ρ H p=>by
  obtain ⟨d,H1,e1,f1,t1⟩:=h ρ H p
  obtain ⟨ds,H2,e2,f2,l2,t2⟩:=hs ρ H1 (hP ρ H H1 p f1)
  refine ⟨d::ds,H2, ?_,f1.trans f2 (by simp),by simp [l2],fun x hx=>?_⟩
  · unfold z00;rw [e1,Rs.bind_ok,e2,Rs.bind_ok]
  · rcases List.mem_cons.mp hx with rfl | hx
    · exact t1.fr0 f2
    · exact t2 x hx
theorem z5d (h:∀ ρ H,P ρ H→∃ d,m ρ H=.ok d H∧TK k H d):Wr P k m:=fun ρ H p=>let ⟨d,e,t⟩:=h ρ H p;⟨d,H,e,Fr.refl,t⟩
theorem zeh {i:Int}:Wr P k (mC (.int i)):=z5d fun ρ H _=>⟨_,rfl,TK.of trivial fun _ e=>by cases e⟩
theorem zl4 {i:Bool}:Wr P k (mC (.bl i)):=z5d fun ρ H _=>⟨_,rfl,TK.of trivial fun _ e=>by cases e⟩
theorem zei:Wr P k (mC .non):=z5d fun ρ H _=>⟨_,rfl,TK.of trivial fun _ e=>by cases e⟩
theorem zej {s}:Wr P k (mC (.str s)):=z5d fun ρ H _=>⟨_,rfl,TK.of trivial fun _ e=>by cases e⟩
theorem zek:Wr P k (mC .edc):=z5d fun ρ H _=>⟨_,rfl,TK.of trivial fun _ e=>by cases e⟩
theorem zak (h:WrL P k n ms) (hn:n≤500):Wr P (k+1) (mTup ms):=fun ρ H p=>by
  obtain ⟨ds,H1,e1,f1,l1,t1⟩:=h ρ H p
  refine ⟨.tup ds,H1, ?_,f1,TK.tup (by omega) t1⟩
  unfold mTup lim;rw [e1,Rs.bind_ok,if_pos (by omega)]
theorem z9b (h:WrL P 0 n ms) (hn:n≤500):Wr P 0 (mTup ms):=fun ρ H p=>let ⟨d,H',e,f,t⟩:=zak h hn ρ H p;⟨d,H',e,f,t.1⟩
theorem zel (h:WrL P 0 n ms) (hn:n≤500):Wr P k (mLst ms):=fun ρ H p=>by
  obtain ⟨ds,H1,e1,f1,l1,t1⟩:=h ρ H p
  refine ⟨.ref H1.length,H1++[.lst ds], ?_,f1.trans (T:=[]) Fr.app (by simp),TK.of ⟨ds,by simp [getL]⟩ fun _ e=>by cases e⟩
  unfold mLst lim;rw [e1,Rs.bind_ok,if_pos (by omega)]
end
def bd1:M (List Dv):=(z00 (mC .non) (z00 (mC (.int 0)) (z00 (mTup mNil) (z00 (mTup (z00 (mC (.int 0)) (z00 (mTup mNil) mNil))) (z00 (mTup (z00 (mC (.int 7)) (z00 (mTup mNil) mNil))) (z00 (mTup (z00 (mC (.bl true)) (z00 (mTup mNil) mNil))) (z00 (mTup (z00 (mC (.int 2)) (z00 (mLst mNil) mNil))) (z00 (mLst (z00 (mC (.int 2)) (z00 (mTup mNil) mNil))) (z00 (mTup (z00 (mC (.int 2)) (z00 (mTup (z00 (mTup (z00 (mC (.int 0)) (z00 (mC (.int 1)) mNil))) (z00 (mTup (z00 (mC (.int 0)) (z00 (mC (.int 1)) mNil))) mNil))) mNil))) (z00 (mTup (z00 (mC (.int 2)) (z00 (mTup (z00 (mTup (z00 (mC (.int 1)) (z00 (mC (.int 0)) mNil))) (z00 (mTup (z00 (mC (.int 0)) (z00 (mC (.int 1)) mNil))) mNil))) mNil))) mNil))))))))))
def bd2:M (List Dv):=(z00 (mTup (z00 (mC (.int 3)) (z00 (mTup (z00 (mTup (z00 (mC (.int 0)) (z00 (mC (.int 1)) mNil))) (z00 (mTup (z00 (mC (.int 1)) (z00 (mC (.int 2)) mNil))) mNil))) mNil))) (z00 (mTup (z00 (mC (.int 2)) (z00 (mTup (z00 (mTup (z00 (mC (.int 0)) (z00 (mC (.int 0)) mNil))) mNil)) mNil))) (z00 (mTup (z00 (mC (.int 2)) (z00 (mTup (z00 (mTup (z00 (mC (.int 0)) (z00 (mC (.int 2)) mNil))) mNil)) mNil))) (z00 (mTup (z00 (mC (.int 2)) (z00 (mTup (z00 (mTup (z00 (mC (.int 0)) (z00 (mC (.bl true)) mNil))) mNil)) mNil))) (z00 (mTup (z00 (mC (.int 2)) (z00 (mTup (z00 (mTup (z00 (mC (.int 0)) (z00 (mC (.int 1)) (z00 (mC (.int 1)) mNil)))) mNil)) mNil))) (z00 (mC .edc) mNil))))))
def bd3:M (List Dv):=(z00 (mC (.str "2:")) (z00 (mTup (z00 (mC (.int 2)) (z00 (mTup (z00 (mC (.int 0)) (z00 (mC (.int 1)) mNil))) mNil))) (z00 (mTup (z00 (mC (.int 3)) (z00 (mTup (z00 (mTup (z00 (mC (.int 0)) (z00 (mC (.int 2)) mNil))) (z00 (mTup (z00 (mC (.int 0)) (z00 (mC (.int 1)) mNil))) mNil))) mNil))) (z00 (mTup (z00 (mC (.int 2)) (z00 (mC .non) mNil))) (z00 (mTup (z00 (mC (.int 2)) (z00 (mTup mNil) (z00 (mTup mNil) mNil)))) (z00 (mTup (z00 (mC (.int 2)) mNil)) (z00 (mTup (z00 (mC (.int 2)) (z00 (mTup (z00 (mLst (z00 (mC (.int 0)) (z00 (mC (.int 1)) mNil))) mNil)) mNil))) (z00 (mTup (z00 (mC (.int 2)) (z00 (mTup (z00 (mC .non) mNil)) mNil))) mNil))))))))
theorem zo1:zgt=mSeq (mAsg (mLst bd1) (z03 1)) (mSeq (mAsg (m2 addE (mVar 1) (mLst bd2)) (z03 1)) (mSeq (mAsg (m2 addE (mVar 1) (mLst bd3)) (z03 1)) (mRet (m2 ix0 (mVar 1) (z05 F_qp (z00 (mVar 0) (z00 (mC (.int 24)) mNil))))))):=rfl
theorem z70 {ρ:Ev} {H H1 H2:Hs} {st i j:Nat} {ml:M Dv} (hv:mVar st ρ H=.ok (.ref i) H) (e1:ml ρ H=.ok (.ref j) H1) (e2:addE (.ref i) (.ref j) H1=.ok (.ref H1.length) H2):m2 addE (mVar st) ml ρ H=.ok (.ref H1.length) H2:=by
  unfold m2
  rw [hv,Rs.bind_ok,e1,Rs.bind_ok,e2]
end L2.Mr.Com
namespace L2.Mr.K81
open PySem PySem.Spec PyProof.Rows L2 L2.Mr L2.Mr.Com
section
variable {H:Hs}
theorem zal {n:Nat} {x:Int}:F_qq (n+1) [.int x,.int x] H=.ok (.bl true) H:=by
  simp [F_qq,zgu,z0i,z09,mSeq,mIf,mTru,m1,isiD,mVar,tyD,zcw,truD,z0x,mRet,z20,m2,eqD,z0w,pur,deq,z2g,z0r]
theorem z71 {n:Nat} {xs:List Dv} (hl:xs.length≤1000) (h:∀ x∈xs,F_qq n [x,x] H=.ok (.bl true) H):F_qq (n+1) [.tup xs,.tup xs] H=.ok (.bl true) H:=by
  have hc:z0v (mas zipS (z00 (mVar 0) (z00 (mVar 1) mNil))) [none,none] (sTup 2 (z0l (z03 0) (z0l (z03 1) sNil))) z26 (z0t (z05 (F_qq n) (z00 (mVar 0) (z00 (mVar 1) mNil)))) [some (.tup xs),some (.tup xs)] H=.ok (xs.filterMap fun x=>some (.bl ((fun _=>true) x))) H:=
    z11 xs (fun x=>some (.bl ((fun _=>true) x))) (fun ρ=>∃ a b,ρ=[a,b]) rfl (by simp [srcZ,srcL]) ⟨_,_,rfl⟩ rfl (fun k hk ρ ⟨a,b,e⟩=>by
      subst e
      refine ⟨.tup [xs[k],xs[k]],[some xs[k],some xs[k]],by simp [srcZ,srcL,hk],rfl,⟨_,_,rfl⟩,rfl, ?_⟩
      simp [z05,z00,mVar,mNil,h xs[k] (List.getElem_mem hk)]) (by omega)
  have hz:=z5z hc
  have ht:xs.all (fun _=>true)=true:=by simp
  rw [ht] at hz
  have e1:isiD zcw (.tup xs) H=.ok (.bl true) H:=rfl
  have e2:isiD z23 (.tup xs) H=.ok (.bl true) H:=rfl
  have e3:isiD z7o (.tup xs) H=.ok (.bl false) H:=rfl
  have e4:f1 len0 [.tup xs] H=.ok (.int xs.length) H:=rfl
  have n1:neD (.bl true) (.bl true) H=.ok (.bl false) H:=rfl
  have n2:neD (.bl false) (.bl false) H=.ok (.bl false) H:=rfl
  have n3:∀ i:Int,neD (.int i) (.int i) H=.ok (.bl false) H:=fun i=>by simp [neD,z0w,pur,deq]
  simp [F_qq,zgu,z0i,z09,mSeq,mIf,mTru,m1,mVar,e1,e2,e3,truD,mOr,mB,m2,n1,n2,asB,z0x,z05,z00,mNil,e4,n3,mRet,hz,z0r]
theorem zl5 {n:Nat} (p:Int×Int):F_qq (n+2) [prD p,prD p] H=.ok (.bl true) H:=
  z71 (by simp) fun x hx=>by
    simp only [List.mem_cons,List.not_mem_nil,or_false] at hx
    rcases hx with rfl | rfl <;> exact zal
theorem zhe {m:Int} {ps:List (Int×Int)} (hl:ps.length≤1000):F_qq 6 [.tup [.int m,.tup (ps.map prD)],.tup [.int m,.tup (ps.map prD)]] H=.ok (.bl true) H:=
  z71 (by simp) fun x hx=>by
    simp only [List.mem_cons,List.not_mem_nil,or_false] at hx
    rcases hx with rfl | rfl
    · exact zal
    · exact z71 (by simpa using hl) fun y hy=>by
        obtain ⟨p,_,rfl⟩:=List.mem_map.mp hy
        exact zl5 p
theorem addL {i j:Nat} {xs ys:List Dv} (e1:getL H i=some xs) (e2:getL H j=some ys) (hl:xs.length+ys.length≤500):addE (.ref i) (.ref j) H=.ok (.ref H.length) (H++[.lst (xs++ys)]):=by
  simp [addE,addD,e1,e2,lim];omega
theorem ixL {i j:Nat} {ds:List Dv} (e:getL H i=some ds) (hj:j<ds.length):ix0 (.ref i) (.int j) H=.ok ds[j] H:=by
  have h1:ixN ds.length (j:Int)=some j:=by
    unfold ixN
    rw [if_pos (by omega),if_pos (by omega)];simp
  have h2:atI ds (j:Int)=some ds[j]:=by
    unfold atI
    rw [h1];simp [hj]
  simp only [ix0,z2m,ixD,e,atL,h2,if_true]
theorem z1h {x:List Dv}:getL (H++[.lst x]) H.length=some x:=by simp [getL]
end
def rq1 (c:Nat):List Dv:=[.bl (0==c),.bl (1==c),.bl (2==c)]
def rq2 (c:Nat):List Dv:=[.bl (3==c),.bl (4==c),.bl (5==c)]
def rq3 (c:Nat):List Dv:=[.bl (6==c),.bl (7==c),.bl (8==c)]
def rq4 (c:Nat):List Dv:=[.bl (9==c),.bl (10==c)]
def rs1:M (List Dv):=(z00 (m1 (isiD (z0z none tbl0)) (mVar 1)) (z00 (m1 (isiD (z0z none tbl1)) (mVar 1)) (z00 (m1 (isiD (z0z none tbl2)) (mVar 1)) mNil)))
def rs2:M (List Dv):=(z00 (m1 (isiD (z0z none tbl3)) (mVar 1)) (z00 (m1 (isiD (z0z none tbl4)) (mVar 1)) (z00 (m1 (isiD (z0z none tbl5)) (mVar 1)) mNil)))
def rs3:M (List Dv):=(z00 (m1 (isiD (z0z none tbl6)) (mVar 1)) (z00 (m1 (isiD (z0z none tbl7)) (mVar 1)) (z00 (m1 (isiD (z0z none tbl8)) (mVar 1)) mNil)))
def rs4:M (List Dv):=(z00 (m1 (isiD (z0z none tbl9)) (mVar 1)) (z00 (m1 (isiD (z0z none tbl10)) (mVar 1)) mNil))
def rsC:M (List Dv):=z0v (mas z1a (z00 (mC (.int 11)) mNil)) [none,some 3] (z03 0) (mTru (m2 ix0 (mVar 1) (mVar 0))) (z0t (mVar 0))
def rsI:MS:=mIf (mNot (mTru (m1 (isiD (z0z none tblV)) (mVar 1)))) (mRet (mC .non)) z0x
theorem zo2:z33=mSeq (mAsg (mLst rs1) (z03 3)) (mSeq (mAsg (m2 addE (mVar 3) (mLst rs2)) (z03 3)) (mSeq (mAsg (m2 addE (mVar 3) (mLst rs3)) (z03 3)) (mSeq (mAsg (m2 addE (mVar 3) (mLst rs4)) (z03 3)) (mSeq rsI (mRet (mAl rsC)))))):=rfl
section
variable {c:Nat} (hc:c=0∨c=4∨c=7) {H:Hs} {x0 x2 x3:Option Dv}
include hc
theorem zo3:mLst rs1 [x0,some (.exc c),x2,x3] H=.ok (.ref H.length) (H++[.lst (rq1 c)]):=by rcases hc with rfl | rfl | rfl <;> rfl
theorem zo4:mLst rs2 [x0,some (.exc c),x2,x3] H=.ok (.ref H.length) (H++[.lst (rq2 c)]):=by rcases hc with rfl | rfl | rfl <;> rfl
theorem zo5:mLst rs3 [x0,some (.exc c),x2,x3] H=.ok (.ref H.length) (H++[.lst (rq3 c)]):=by rcases hc with rfl | rfl | rfl <;> rfl
theorem zo6:mLst rs4 [x0,some (.exc c),x2,x3] H=.ok (.ref H.length) (H++[.lst (rq4 c)]):=by rcases hc with rfl | rfl | rfl <;> rfl
theorem zo7:rsI [x0,some (.exc c),x2,x3] H=.nx [x0,some (.exc c),x2,x3] H:=by rcases hc with rfl | rfl | rfl <;> rfl
def rqA (c:Nat):List Bool:=[0==c,1==c,2==c,3==c,4==c,5==c,6==c,7==c,8==c,9==c,10==c]
theorem zo8 {i:Nat} (e:getL H i=some ((rqA c).map Dv.bl)):rsC [x0,some (.exc c),x2,some (.ref i)] H=.ok [.int c] H:=by
  have h:rsC [x0,some (.exc c),x2,some (.ref i)] H=.ok ((List.range 11).filterMap fun k=>if k==c then some (.int k) else none) H:=
    z11 (List.range 11) (fun k=>if k==c then some (.int (k:Nat)) else none) (fun ρ=>∃ a,ρ=[a,some (.ref i)]) (src:=z0y 0 11) rfl rfl ⟨_,rfl⟩ rfl (fun k hk ρ ⟨a,e'⟩=>by
      subst e'
      have hk':k<11:=by simpa using hk
      refine ⟨.int (0+k),[some (.int (0+k)),some (.ref i)],rfl,rfl,⟨_,rfl⟩, ?_⟩
      have hz:((rqA c).map Dv.bl)[k]'(by simp [rqA];omega)=.bl (k==c):=by
        simp only [List.getElem_map]
        congr 1
        match k,hk' with
        | 0,_=>rfl
        | 1,_=>rfl
        | 2,_=>rfl
        | 3,_=>rfl
        | 4,_=>rfl
        | 5,_=>rfl
        | 6,_=>rfl
        | 7,_=>rfl
        | 8,_=>rfl
        | 9,_=>rfl
        | 10,_=>rfl
      have ht:=ixL (H:=H) (j:=k) e (by simp [rqA];omega)
      rw [hz] at ht
      have h0:(0+(k:Int))=(k:Int):=by omega
      rw [h0,List.getElem_range]
      cases q:k==c with
      | true=>simp [mTru,m2,mVar,ht,q,truD]
      | false=>simp [mTru,m2,mVar,ht,q,truD]) (by simp)
  rw [h]
  rcases hc with rfl | rfl | rfl <;> rfl
theorem zl6:∃ i H',refM 4 11 z33 (.ex c H)=.ok (.ref i) H'∧getL H' i=some [.int c]∧Fr [] H H':=by
  obtain ⟨H1,hH1⟩:∃ H1,H1=H++[Ob.lst (rq1 c)]:=⟨_,rfl⟩
  have g1:getL H1 H.length=some (rq1 c):=by rw [hH1];exact z1h
  have f1:Fr [] H H1:=by rw [hH1];exact Fr.app
  have w1:∀ x0 x2 x3,mAsg (mLst rs1) (z03 3) [x0,some (.exc c),x2,x3] H=.nx [x0,some (.exc c),x2,some (.ref H.length)] H1:=fun x0 x2 x3=>by
    unfold mAsg;rw [zo3 hc,hH1];rfl
  have step:∀ (G0:Hs) (i:Nat) (xs ys:List Dv) (m:M (List Dv)),getL G0 i=some xs→(∀ x0 x2 x3 (G:Hs),mLst m [x0,some (.exc c),x2,x3] G=.ok (.ref G.length) (G++[.lst ys]))→xs.length+ys.length≤500→
      ∃ G' j,(∀ x0 x2,mAsg (m2 addE (mVar 3) (mLst m)) (z03 3) [x0,some (.exc c),x2,some (.ref i)] G0=.nx [x0,some (.exc c),x2,some (.ref j)] G')∧getL G' j=some (xs++ys)∧Fr [] G0 G':=by
    intro G0 i xs ys m e hm hl
    refine ⟨_,_,fun x0 x2=>?_,z1h (H:=G0++[.lst ys]) (x:=xs++ys),Fr.trans (T:=[]) Fr.app Fr.app (by simp)⟩
    have a:=addL (H:=G0++[.lst ys]) (z1m e) (z1h (H:=G0) (x:=ys)) hl
    unfold mAsg
    rw [z70 rfl (hm _ _ _ _) a]
    rfl
  obtain ⟨H2,i2,w2,g2,f2⟩:=step H1 H.length (rq1 c) (rq2 c) rs2 g1 (fun _ _ _ _=>zo4 hc) (by simp [rq1,rq2])
  obtain ⟨H3,i3,w3,g3,f3⟩:=step H2 i2 _ (rq3 c) rs3 g2 (fun _ _ _ _=>zo5 hc) (by simp [rq1,rq2,rq3])
  obtain ⟨H4,i4,w4,g4,f4⟩:=step H3 i3 _ (rq4 c) rs4 g3 (fun _ _ _ _=>zo6 hc) (by simp [rq1,rq2,rq3,rq4])
  have g4':getL H4 i4=some ((rqA c).map Dv.bl):=by rw [g4];rfl
  refine ⟨H4.length,H4++[.lst [.int c]], ?_,z1h,((f1.trans f2 (by simp)).trans f3 (by simp)).trans (T:=[]) (f4.trans (T:=[]) Fr.app (by simp)) (by simp)⟩
  have hlt:c<11:=by omega
  show (if c<11 then z7m (z33 (z7n 4 (.exc c)) H) else .bad)=_
  rw [if_pos hlt,zo2]
  show z7m (mSeq _ _ [none,some (.exc c),none,none] H)=_
  rw [z0k (w1 _ _ _),z0k (w2 _ _),z0k (w3 _ _),z0k (w4 _ _),z0k (zo7 hc)]
  have hr:mAl rsC [none,some (.exc c),none,some (.ref i4)] H4=.ok (.ref H4.length) (H4++[.lst [.int c]]):=by unfold mAl;rw [zo8 hc g4'];rfl
  unfold mRet
  rw [hr]
  rfl
theorem zem {caps:List Nat} {vs:List Dv} {me:M Dv} {ρ:Ev} (hρ:capD caps ρ=some vs) (hm:me (vs.map some) H=.ex c H):
    ∃ H',mIf (mB (m2 neD (mRef caps 4 11 z33 me) (mLst (z00 (mC (.int c)) mNil)))) (mRet (mC (.bl false))) z0x ρ H=.nx ρ H'∧Fr [] H H':=by
  obtain ⟨i,H1,e1,g1,f1⟩:=zl6 hc (H:=H)
  refine ⟨H1++[.lst [.int c]], ?_,f1.trans (T:=[]) Fr.app (by simp)⟩
  have a:mRef caps 4 11 z33 me ρ H=.ok (.ref i) H1:=by
    unfold mRef
    rw [hρ]
    show refM 4 11 z33 (me (vs.map some) H)=_
    rw [hm,e1]
  have b:mLst (z00 (mC (.int c)) mNil) ρ H1=.ok (.ref H1.length) (H1++[.lst [.int c]]):=rfl
  have d:neD (.ref i) (.ref H1.length) (H1++[.lst [.int c]])=.ok (.bl false) (H1++[.lst [.int c]]):=by
    have q1:=z1m (l:=[.lst [.int c]]) g1
    have q2:=z1h (H:=H1) (x:=[.int c])
    simp [neD,z0w,pur,q1,q2,optL,deq,deqL]
  have t:mB (m2 neD (mRef caps 4 11 z33 me) (mLst (z00 (mC (.int c)) mNil))) ρ H=.ok false (H1++[.lst [.int c]]):=by
    unfold mB m2
    rw [a,Rs.bind_ok,b,Rs.bind_ok,d]
    rfl
  rw [if_F t]
  rfl
end
section
variable {n:Nat} {ps:List (Int×Int)} {H:Hs} {d y:Dv} {x:Int}
theorem zen (o:OrdP n ps):F_qi [ordD n ps] H=.ok .non H:=by
  simp [F_qi,zgv,z0i,z09,mIf,mNot,mTru,z05,z00,mVar,mNil,zh3 o,truD,z0x,z0r]
theorem zhf (h:TK 3 H d) (hb:ordG d=false):F_qi [d] H=.ex 0 H:=by
  have e:=zef h
  rw [hb] at e
  simp [F_qi,zgv,z0i,z09,mIf,mNot,mTru,z05,z00,mVar,mNil,e,truD,z40,mC,z0r]
theorem zhg (o:OrdP n ps) (h0:0≤x) (h1:x<n):F_qj [ordD n ps,.int x] H=.ok .non H:=by
  have ht:Com.isT (n:Int) x=true:=by simp [Com.isT];omega
  have h:=z87 (H:=H) (n:=(n:Int)) (x:=x)
  rw [ht] at h
  have hx:=ord0 (n:=n) (ps:=ps) H
  have hn:=zen (H:=H) o
  generalize ordD n ps=d at hx hn
  simp [F_qj,ze5,z0i,z09,mSeq,z1s,z05,z00,mVar,mNil,hn,mIf,mNot,mTru,m2,mC,hx,h,truD,z0x,z0r]
theorem zeo (o:OrdP n ps) (h:T0 H y) (hb:Com.tB n y=false):F_qj [ordD n ps,y] H=.ex 4 H:=by
  have h:=z8a (n:=(n:Int)) h
  rw [hb] at h
  have hx:=ord0 (n:=n) (ps:=ps) H
  have hn:=zen (H:=H) o
  generalize ordD n ps=d at hx hn
  simp [F_qj,ze5,z0i,z09,mSeq,z1s,z05,z00,mVar,mNil,hn,mIf,mNot,mTru,m2,mC,hx,h,truD,z40,z0r]
theorem zep (h:TK 3 H d) (hb:ordG d=false):F_qj [d,y] H=.ex 0 H:=by
  simp [F_qj,ze5,z0i,z09,mSeq,z1s,z05,z00,mVar,mNil,zhf h hb,z0r]
theorem zo9 (h:TK 3 H d) (hb:ordG d=false):F_qv [d,y] H=.ex 0 H:=by
  simp [F_qv,z91,z0i,z09,mSeq,z1s,z05,z00,mVar,mNil,zep h hb,z0r]
theorem zoa (o:OrdP n ps) (h:T0 H y) (hb:Com.tB n y=false):F_qv [ordD n ps,y] H=.ex 4 H:=by
  have e:=zeo o h hb
  generalize ordD n ps=d at e
  simp [F_qv,z91,z0i,z09,mSeq,z1s,z05,z00,mVar,mNil,e,z0r]
def z2d (n:Nat) (x:Int):List Int:=(List.range n).filterMap fun k:Nat=>if (k:Int)=x then none else some (k:Int)
theorem zeq {mi:M Src} {cap:List (Option Nat)} {ρ:Ev} (hi:mi ρ H=.ok (z0y 0 n) H) (hc:z42 cap ρ=[none,some (.int x)]) (hn:n≤6):
    z0v mi cap (z03 0) (mB (m2 neD (mVar 0) (mVar 1))) (z0t (mVar 0)) ρ H=.ok ((z2d n x).map Dv.int) H:=by
  have h:z0v mi cap (z03 0) (mB (m2 neD (mVar 0) (mVar 1))) (z0t (mVar 0)) ρ H=.ok ((List.range n).filterMap fun k:Nat=>if (k:Int)=x then none else some (.int (k:Int))) H:=
    z11 (List.range n) (fun k:Nat=>if (k:Int)=x then none else some (.int (k:Int))) (fun ρ=>∃ a,ρ=[a,some (.int x)]) hi (by simp [z0y]) ⟨none,hc⟩ rfl (fun k hk ρ ⟨a,e'⟩=>by
      subst e'
      refine ⟨.int (0+k),[some (.int (0+k)),some (.int x)],rfl,rfl,⟨_,rfl⟩, ?_⟩
      have h0:(0+(k:Int))=(k:Int):=by omega
      rw [h0,List.getElem_range]
      by_cases q:(k:Int)=x
      · rw [if_pos q]
        simp [mB,m2,mVar,neD,z0w,pur,deq,q,asB]
      · rw [if_neg q]
        have q':((k:Int)==x)=false:=by simpa using q
        simp [mB,m2,mVar,neD,z0w,pur,deq,q',asB]) (by simp;omega)
  rw [h,z2d,List.map_filterMap]
  congr 1
  congr 1
  funext k
  split <;> rfl
def dn (x a:Int):Int:=if a<x then a else a - 1
theorem zl7:∀ n:Nat,n<7→∀ x:Nat,x<n→∀ a:Nat,a<n→a≠x→posI (a:Int) (z2d n (x:Int))=some (if a<x then a else a - 1):=by decide
theorem zhh {a:Int} (hn:n≤6) (x0:0≤x) (x1:x<n) (a0:0≤a) (a1:a<n) (h:a≠x):∃ j:Nat,posI a (z2d n x)=some j∧(j:Int)=dn x a:=by
  obtain ⟨x',rfl⟩:∃ k:Nat,x=k:=⟨x.toNat,by omega⟩
  obtain ⟨a',rfl⟩:∃ k:Nat,a=k:=⟨a.toNat,by omega⟩
  refine ⟨_,zl7 n (by omega) x' (by omega) a' (by omega) (by omega), ?_⟩
  unfold dn
  by_cases q:a'<x'
  · rw [if_pos q,if_pos (by omega)]
  · rw [if_neg q,if_neg (by omega)];omega
theorem zam:∀ ns:List Int,optL intD (ns.map Dv.int)=some ns
  | []=>rfl
  | n::ns=>by simp [optL,intD,zam ns]
theorem zik {a:Int} {i:Nat} (e:getL H i=some ((z2d n x).map Dv.int)) (hn:n≤6) (x0:0≤x) (x1:x<n) (a0:0≤a) (a1:a<n) (h:a≠x):idxL (.ref i) (.int a) H=.ok (.int (dn x a)) H:=by
  obtain ⟨j,e1,e2⟩:=zhh hn x0 x1 a0 a1 h
  simp only [idxL,e,zam,e1,e2]
def wo (x:Int) (ps:List (Int×Int)):List (Int×Int):=ps.filterMap fun p=>if x=p.1∨x=p.2 then none else some (dn x p.1,dn x p.2)
theorem zob:(wo x ps).length≤ps.length:=List.length_filterMap_le _ _
theorem zan {mi:M Src} {cap:List (Option Nat)} {ρ:Ev} {i:Nat} (o:OrdP n ps) (x0:0≤x) (x1:x<n) (hi:mi ρ H=.ok (srcL (ps.map prD)) H) (hc:z42 cap ρ=[none,none,some (.ref i),some (.int x)]) (e:getL H i=some ((z2d n x).map Dv.int)):
    z0v mi cap (sTup 2 (z0l (z03 0) (z0l (z03 1) sNil))) (mB (m2 (in0 true) (mVar 3) (mTup (z00 (mVar 0) (z00 (mVar 1) mNil))))) (z0t (mTup (z00 (z2z (mVar 2) (mVar 0)) (z00 (z2z (mVar 2) (mVar 1)) mNil)))) ρ H=.ok ((wo x ps).map prD) H:=by
  have h:z0v mi cap (sTup 2 (z0l (z03 0) (z0l (z03 1) sNil))) (mB (m2 (in0 true) (mVar 3) (mTup (z00 (mVar 0) (z00 (mVar 1) mNil))))) (z0t (mTup (z00 (z2z (mVar 2) (mVar 0)) (z00 (z2z (mVar 2) (mVar 1)) mNil)))) ρ H=.ok (ps.filterMap fun p=>if x=p.1∨x=p.2 then none else some (prD (dn x p.1,dn x p.2))) H:=
    z11 ps (fun p=>if x=p.1∨x=p.2 then none else some (prD (dn x p.1,dn x p.2))) (fun ρ=>∃ a b,ρ=[a,b,some (.ref i),some (.int x)]) hi (by simp [srcL]) ⟨none,none,hc⟩ rfl (fun k hk ρ ⟨a,b,e'⟩=>by
      subst e'
      refine ⟨prD ps[k],[some (.int ps[k].1),some (.int ps[k].2),some (.ref i),some (.int x)],by simp [srcL,hk],rfl,⟨_,_,rfl⟩, ?_⟩
      have hp:=o.rng ps[k] (List.getElem_mem hk)
      have hin:=zkb true H x [ps[k].1,ps[k].2]
      have ht:∀ v:Bool,mB (m2 (in0 true) (mVar 3) (mTup (z00 (mVar 0) (z00 (mVar 1) mNil)))) [some (.int ps[k].1),some (.int ps[k].2),some (.ref i),some (.int x)] H=.ok (!decide (x∈[ps[k].1,ps[k].2])) H:=fun _=>by
        simp only [List.map_cons,List.map_nil,if_true] at hin
        simp [mB,m2,mTup,z00,mVar,mNil,lim,hin,asB]
      by_cases q:x=ps[k].1∨x=ps[k].2
      · rw [if_pos q]
        show _=_
        rw [ht true]
        have:decide (x∈[ps[k].1,ps[k].2])=true:=by simpa using q
        rw [this];rfl
      · rw [if_neg q]
        have q1:decide (x∈[ps[k].1,ps[k].2])=false:=by simpa using q
        refine ⟨by rw [ht true,q1];rfl, ?_⟩
        have i1:=zik e o.n6 x0 x1 hp.1 hp.2.1 (fun z=>q (.inl z.symm))
        have i2:=zik e o.n6 x0 x1 hp.2.2.1 hp.2.2.2 (fun z=>q (.inr z.symm))
        have hl:isL (.ref i) H=true:=by simp [isL,e]
        simp [mTup,z00,z2z,mVar,mNil,hl,i1,i2,lim,prD]) (by have:=o.len;omega)
  rw [h,wo,List.map_filterMap]
  congr 1
  congr 1
  funext p
  split <;> rfl
def woB:MS:=mSeq (mAsg (mAl (z0v (mas z1a (z00 (mVar 2) mNil)) [none,some 1] (z03 0) (mB (m2 neD (mVar 0) (mVar 1))) (z0t (mVar 0)))) (z03 4)) (mRet (mTup (z00 (m2 subD (mVar 2) (mC (.int 1))) (z00 (mL tupF (z0v (m1s tupS (mVar 3)) [none,none,some 4,some 1] (sTup 2 (z0l (z03 0) (z0l (z03 1) sNil))) (mB (m2 (in0 true) (mVar 3) (mTup (z00 (mVar 0) (z00 (mVar 1) mNil))))) (z0t (mTup (z00 (z2z (mVar 2) (mVar 0)) (z00 (z2z (mVar 2) (mVar 1)) mNil)))))) mNil))))
theorem zoc:z91=mSeq (z1s (z05 F_qj (z00 (mVar 0) (z00 (mVar 1) mNil)))) (mSeq (mAsg (mVar 0) (sTup 2 (z0l (z03 2) (z0l (z03 3) sNil)))) (mSeq (mIf (mB (m2 eqD (mVar 2) (mC (.int 1)))) (z40 7 (z00 (mC (.str "an order has at least one thing")) mNil)) z0x) woB)):=rfl
theorem zil (o:OrdP n ps) (x0:0≤x) (x1:x<n) (u:MS):mSeq (z1s (z05 F_qj (z00 (mVar 0) (z00 (mVar 1) mNil)))) (mSeq (mAsg (mVar 0) (sTup 2 (z0l (z03 2) (z0l (z03 3) sNil)))) u) [some (ordD n ps),some (.int x),none,none,none] H=u [some (ordD n ps),some (.int x),some (.int n),some (.tup (ps.map prD)),none] H:=by
  have e:=zhg (H:=H) o x0 x1
  have w1:z1s (z05 F_qj (z00 (mVar 0) (z00 (mVar 1) mNil))) [some (ordD n ps),some (.int x),none,none,none] H=.nx [some (ordD n ps),some (.int x),none,none,none] H:=by
    have hg:∀ d:Dv,F_qj [d,.int x] H=.ok .non H→z1s (z05 F_qj (z00 (mVar 0) (z00 (mVar 1) mNil))) [some d,some (.int x),none,none,none] H=.nx [some d,some (.int x),none,none,none] H:=fun d e=>by
      simp [z1s,z05,z00,mVar,mNil,e]
    exact hg _ e
  have w2:mAsg (mVar 0) (sTup 2 (z0l (z03 2) (z0l (z03 3) sNil))) [some (ordD n ps),some (.int x),none,none,none] H=.nx [some (ordD n ps),some (.int x),some (.int n),some (.tup (ps.map prD)),none] H:=rfl
  rw [z0k w1,z0k w2]
theorem zod (o:OrdP 1 ps):F_qv [ordD 1 ps,.int 0] H=.ex 7 H:=by
  show z0r (z91 [some (ordD 1 ps),some (.int 0),none,none,none] H)=_
  rw [zoc,zil o (by decide) (by decide)]
  rfl
theorem zqn {z:Int} (h:inR z=true) (ρ:Ev) {m:M (List Dv)} (e:m ρ H=.ok [.int z] H):mas z1a m ρ H=.ok (z0y 0 z) H:=by
  simp [mas,e,z1a,h]
theorem zqo (hn:n≤6):inR (n:Int)=true:=by
  match n,hn with
  | 0,_=>rfl
  | 1,_=>rfl
  | 2,_=>rfl
  | 3,_=>rfl
  | 4,_=>rfl
  | 5,_=>rfl
  | 6,_=>rfl
theorem zer (hn:n≤6) (ρ:Ev) {m:M (List Dv)} (e:m ρ H=.ok [.int n] H):mas z1a m ρ H=.ok (z0y 0 n) H:=zqn (zqo hn) ρ e
theorem zqp (o:OrdP n ps) (hn:n≠1) (x0:0≤x) (x1:x<n):F_qv [ordD n ps,.int x] H=.ok (.tup [.int (n - 1),.tup ((wo x ps).map prD)]) (H++[.lst ((z2d n x).map Dv.int)]):=by
  show z0r (z91 [some (ordD n ps),some (.int x),none,none,none] H)=_
  rw [zoc,zil o x0 x1]
  generalize ordD n ps=d
  have hne:((n:Int)==1)=false:=by
    have:(n:Int)≠1:=by omega
    simpa using this
  have w3:mIf (mB (m2 eqD (mVar 2) (mC (.int 1)))) (z40 7 (z00 (mC (.str "an order has at least one thing")) mNil)) z0x [some d,some (.int x),some (.int n),some (.tup (ps.map prD)),none] H=.nx [some d,some (.int x),some (.int n),some (.tup (ps.map prD)),none] H:=by
    generalize (n:Int)=m at hne
    simp [mIf,mB,m2,mVar,mC,eqD,z0w,pur,deq,hne,asB,z0x]
  rw [z0k w3]
  have c1:=zeq (H:=H) (n:=n) (x:=x) (mi:=mas z1a (z00 (mVar 2) mNil)) (cap:=[none,some 1]) (ρ:=[some d,some (.int x),some (.int n),some (.tup (ps.map prD)),none]) (zer o.n6 _ rfl) rfl o.n6
  have w4:mAsg (mAl (z0v (mas z1a (z00 (mVar 2) mNil)) [none,some 1] (z03 0) (mB (m2 neD (mVar 0) (mVar 1))) (z0t (mVar 0)))) (z03 4) [some d,some (.int x),some (.int n),some (.tup (ps.map prD)),none] H=.nx [some d,some (.int x),some (.int n),some (.tup (ps.map prD)),some (.ref H.length)] (H++[.lst ((z2d n x).map Dv.int)]):=by
    unfold mAsg mAl;rw [c1];rfl
  unfold woB
  rw [z0k w4]
  have g:getL (H++[.lst ((z2d n x).map Dv.int)]) H.length=some ((z2d n x).map Dv.int):=z1h
  have c2:=zan (H:=H++[.lst ((z2d n x).map Dv.int)]) (mi:=m1s tupS (mVar 3)) (cap:=[none,none,some 4,some 1]) (ρ:=[some d,some (.int x),some (.int n),some (.tup (ps.map prD)),some (.ref H.length)]) o x0 x1 rfl rfl g
  generalize H++[.lst ((z2d n x).map Dv.int)]=H1 at c2
  have c3:mL tupF (z0v (m1s tupS (mVar 3)) [none,none,some 4,some 1] (sTup 2 (z0l (z03 0) (z0l (z03 1) sNil))) (mB (m2 (in0 true) (mVar 3) (mTup (z00 (mVar 0) (z00 (mVar 1) mNil))))) (z0t (mTup (z00 (z2z (mVar 2) (mVar 0)) (z00 (z2z (mVar 2) (mVar 1)) mNil))))) [some d,some (.int x),some (.int n),some (.tup (ps.map prD)),some (.ref H.length)] H1=.ok (.tup ((wo x ps).map prD)) H1:=by
    unfold mL;rw [c2];rfl
  generalize mL tupF _=ml at c3
  generalize (n:Int)=m at c3
  simp [mRet,mTup,z00,m2,mVar,mC,mNil,subD,iOp,c3,lim,z0r]
end
theorem zl8 {ρ:Ev} {H H':Hs} {ds:List Dv} (e:bd1 ρ H=.ok ds H'):∀ x∈ds,ordG x=false:=by
  have e2:Rs.ok _ _=Rs.ok ds H':=e
  injection e2 with e3 e4
  subst e3
  repeat' (first | exact List.forall_mem_nil _ | refine List.forall_mem_cons.mpr ⟨rfl, ?_⟩)
theorem zl9 {ρ:Ev} {H H':Hs} {ds:List Dv} (e:bd2 ρ H=.ok ds H'):∀ x∈ds,ordG x=false:=by
  have e2:Rs.ok _ _=Rs.ok ds H':=e
  injection e2 with e3 e4
  subst e3
  repeat' (first | exact List.forall_mem_nil _ | refine List.forall_mem_cons.mpr ⟨rfl, ?_⟩)
theorem zla {ρ:Ev} {H H':Hs} {ds:List Dv} (e:bd3 ρ H=.ok ds H'):∀ x∈ds,ordG x=false:=by
  have e2:Rs.ok _ _=Rs.ok ds H':=e
  injection e2 with e3 e4
  subst e3
  repeat' (first | exact List.forall_mem_nil _ | refine List.forall_mem_cons.mpr ⟨rfl, ?_⟩)
def MnB (n:Nat) (H:Hs) (i:Nat):Prop:=∃ ds,getL H i=some ds∧ds.length=n∧(∀ x∈ds,TK 3 H x)∧∀ x∈ds,ordG x=false
section
variable {n m:Nat} {H H':Hs} {i j:Nat}
theorem MnB.fr0 (h:MnB n H i) (f:Fr [] H H'):MnB n H' i:=by
  obtain ⟨ds,e,l,t,b⟩:=h
  exact ⟨ds,f.getL e (by simp),l,fun x hx=>(t x hx).fr0 f,b⟩
theorem MnB.fr {st:Nat} (h:MnB n H i) (f:Fr [st] H H') (s:Com.St st H') (hi:i≠st):MnB n H' i:=by
  obtain ⟨ds,e,l,t,b⟩:=h
  exact ⟨ds,f.getL e (by simpa using hi),l,fun x hx=>(t x hx).fr f s,b⟩
theorem z9c {ms:M (List Dv)} {ρ:Ev} (h:WrL (fun _ _=>True) 3 n ms) (hb:∀ {ρ:Ev} {H H':Hs} {ds:List Dv},ms ρ H=.ok ds H'→∀ x∈ds,ordG x=false) (hn:n≤500):∃ i H',mLst ms ρ H=.ok (.ref i) H'∧MnB n H' i∧Fr [] H H'∧H.length≤i:=by
  obtain ⟨ds,H1,e1,f1,l1,t1⟩:=h ρ H trivial
  refine ⟨H1.length,H1++[.lst ds], ?_,⟨ds,z1h,l1,fun x hx=>(t1 x hx).fr0 Fr.app,hb e1⟩,f1.trans (T:=[]) Fr.app (by simp),f1.le⟩
  unfold mLst lim;rw [e1,Rs.bind_ok,if_pos (by omega)]
theorem zes (a:MnB n H i) (b:MnB m H j) (hn:n+m≤500):∃ H',addE (.ref i) (.ref j) H=.ok (.ref H.length) H'∧MnB (n+m) H' H.length∧Fr [] H H':=by
  obtain ⟨ds,e1,l1,t1,b1⟩:=a
  obtain ⟨es,e2,l2,t2,b2⟩:=b
  refine ⟨_,addL e1 e2 (by omega),⟨ds++es,z1h,by simp [l1,l2],fun x hx=>?_,fun x hx=>?_⟩,Fr.app⟩
  · rcases List.mem_append.mp hx with hx | hx
    · exact (t1 x hx).fr0 Fr.app
    · exact (t2 x hx).fr0 Fr.app
  · rcases List.mem_append.mp hx with hx | hx
    · exact b1 x hx
    · exact b2 x hx
end
theorem zoe {st:Nat} {H:Hs} (s:Com.St st H):∃ d H',F_qb [.ref st] H=.ok d H'∧TK 3 H' d∧ordG d=false∧Com.St st H'∧Fr [st] H H':=by
  have hP:Mono fun _ _=>True:=fun _ _ _ _ _=>trivial
  have lt:=s.lt
  have k1:WrL (fun _ _=>True) 3 10 bd1:=(by
      unfold bd1
      repeat' (first | exact zeg | apply z9a hP | exact zeh | exact zl4 | exact zei | exact zej | exact zek | apply zak | apply z9b | apply zel)
      all_goals decide)
  have k2:WrL (fun _ _=>True) 3 6 bd2:=(by
      unfold bd2
      repeat' (first | exact zeg | apply z9a hP | exact zeh | exact zl4 | exact zei | exact zej | exact zek | apply zak | apply z9b | apply zel)
      all_goals decide)
  have k3:WrL (fun _ _=>True) 3 8 bd3:=(by
      unfold bd3
      repeat' (first | exact zeg | apply z9a hP | exact zeh | exact zl4 | exact zei | exact zej | exact zek | apply zak | apply z9b | apply zel)
      all_goals decide)
  obtain ⟨i1,H1,e1,m1,f1,l1⟩:=z9c (ρ:=[some (.ref st),none]) (H:=H) k1 zl8 (by decide)
  obtain ⟨j2,H2,e2,m2',f2,l2⟩:=z9c (ρ:=[some (.ref st),some (.ref i1)]) (H:=H1) k2 zl9 (by decide)
  obtain ⟨H3,e3,m3,f3⟩:=zes (m1.fr0 f2) m2' (by decide)
  obtain ⟨j4,H4,e4,m4,f4,l4⟩:=z9c (ρ:=[some (.ref st),some (.ref H2.length)]) (H:=H3) k3 zla (by decide)
  obtain ⟨H5,e5,m5,f5⟩:=zes (m3.fr0 f4) m4 (by decide)
  have g:Fr [] H H5:=(((f1.trans f2 (by simp)).trans f3 (by simp)).trans f4 (by simp)).trans f5 (by simp)
  obtain ⟨r,H6,r0,r1,t6,f6,s6⟩:=z2i 24 (s.fr g (by simp))
  have hle:H.length≤H4.length:=((f1.trans (f2.trans (f3.trans f4 (by simp)) (by simp)) (by simp)):Fr [] H H4).le
  obtain ⟨ds,e7,l7,t7,b7⟩:=m5.fr f6 s6 (by omega)
  obtain ⟨j,rfl⟩:∃ j:Nat,r=j:=⟨r.toNat,by omega⟩
  have hj:j<ds.length:=by omega
  have e8:=ixL e7 hj
  refine ⟨ds[j],H6, ?_,t7 _ (List.getElem_mem hj),b7 _ (List.getElem_mem hj),s6,(g.mono (T:=[st]) (by simp)).trans f6 (by simp)⟩
  show z0r (zgt [some (.ref st),none] H)=_
  have w1:mAsg (mLst bd1) (z03 1) [some (.ref st),none] H=.nx [some (.ref st),some (.ref i1)] H1:=by unfold mAsg;rw [e1];rfl
  have w2:mAsg (L2.Mr.m2 addE (mVar 1) (mLst bd2)) (z03 1) [some (.ref st),some (.ref i1)] H1=.nx [some (.ref st),some (.ref H2.length)] H3:=by unfold mAsg;rw [z70 rfl e2 e3];rfl
  have w3:mAsg (L2.Mr.m2 addE (mVar 1) (mLst bd3)) (z03 1) [some (.ref st),some (.ref H2.length)] H3=.nx [some (.ref st),some (.ref H4.length)] H5:=by unfold mAsg;rw [z70 rfl e4 e5];rfl
  rw [zo1,z0k w1,z0k w2,z0k w3]
  simp [mRet,L2.Mr.m2,mVar,z05,z00,mC,mNil,t6,e8,z0r]
def nnL (n:Nat):List Dv:=[.int n,.int (-1),.bl true,.non,.str "0",.tup [.int 0],.int (10 ^ 29)]
theorem zqq {n:Nat} {H:Hs} (hn:n≤6):∀ y∈nnL n,T0 H y∧Com.tB n y=false:=by
  refine List.forall_mem_cons.mpr ⟨⟨trivial, ?_⟩,List.forall_mem_cons.mpr ⟨⟨trivial, ?_⟩,List.forall_mem_cons.mpr ⟨⟨trivial,rfl⟩,List.forall_mem_cons.mpr ⟨⟨trivial,rfl⟩,List.forall_mem_cons.mpr ⟨⟨trivial,rfl⟩,List.forall_mem_cons.mpr ⟨⟨trivial,rfl⟩,List.forall_mem_cons.mpr ⟨⟨trivial, ?_⟩,List.forall_mem_nil _⟩⟩⟩⟩⟩⟩⟩
  · simp [Com.tB,btB];omega
  · simp [Com.tB,btB]
  · simp [Com.tB,btB]
    omega
def nnM:M (List Dv):=(z00 (m2 ix0 (mVar 3) (mC (.int 0))) (z00 (m1 negD (mC (.int 1))) (z00 (mC (.bl true)) (z00 (mC .non) (z00 (mC (.str "0")) (z00 (mTup (z00 (mC (.int 0)) mNil)) (z00 (m2 powD (mC (.int 10)) (mC (.int 29))) mNil)))))))
theorem zqr {st n:Nat} {ps:List (Int×Int)} {H:Hs} {ρ:Ev} (hn:n≤6) (s:Com.St st H) (h2:mVar 2 ρ=fun H=>.ok (.ref st) H) (h3:mVar 3 ρ=fun H=>.ok (ordD n ps) H):∃ y H',m2 ix0 (mLst nnM) (z05 F_qp (z00 (mVar 2) (z00 (mC (.int 7)) mNil))) ρ H=.ok y H'∧T0 H' y∧Com.tB n y=false∧Com.St st H'∧Fr [st] H H':=by
  have e1:mLst nnM ρ H=.ok (.ref H.length) (H++[.lst (nnL n)]):=by
    have hx:=ord0 (n:=n) (ps:=ps) H
    have hp:powD (.int 10) (.int 29) H=.ok (.int (10 ^ 29)) H:=rfl
    have hg:negD (.int 1) H=.ok (.int (-1)) H:=rfl
    generalize ordD n ps=d at hx h3
    simp [mLst,nnM,z00,m2,m1,mC,mTup,mNil,h3,hx,hp,hg,lim,nnL]
  have lt:=s.lt
  have f1:Fr [] H (H++[.lst (nnL n)]):=Fr.app
  have g1:getL (H++[.lst (nnL n)]) H.length=some (nnL n):=z1h
  have s1:=s.fr f1 (by simp)
  generalize H++[.lst (nnL n)]=H1 at e1 f1 g1 s1
  obtain ⟨r,H2,r0,r1,t2,f2,s2⟩:=z2i 7 s1
  have g2:=f2.getL g1 (by simp;omega)
  obtain ⟨j,rfl⟩:∃ j:Nat,r=j:=⟨r.toNat,by omega⟩
  have hj:j<(nnL n).length:=by simp [nnL];omega
  have z:=zqq (H:=H2) hn _ (List.getElem_mem hj)
  refine ⟨(nnL n)[j],H2, ?_,z.1,z.2,s2,(f1.mono (T:=[st]) (by simp)).trans f2 (by simp)⟩
  have e3:z05 F_qp (z00 (mVar 2) (z00 (mC (.int 7)) mNil)) ρ H1=.ok (.int j) H2:=by
    simp [z05,z00,h2,mC,mNil,t2]
  have e4:=ixL g2 hj
  unfold m2
  rw [e1,Rs.bind_ok,e3,Rs.bind_ok,e4]
def aL:MS:=mAsg (mAl (z0v (mas z1a (z00 (m2 ix0 (mVar 3) (mC (.int 0))) mNil)) [none,some 4] (z03 0) (mB (m2 neD (mVar 0) (mVar 1))) (z0t (mVar 0)))) (z03 5)
def aP:MS:=mAsg (mAl (z0v (m1s tupS (m2 ix0 (mVar 3) (mC (.int 1)))) [none,none,some 5,some 4] (sTup 2 (z0l (z03 0) (z0l (z03 1) sNil))) (mB (m2 (in0 true) (mVar 3) (mTup (z00 (mVar 0) (z00 (mVar 1) mNil))))) (z0t (mTup (z00 (z2z (mVar 2) (mVar 0)) (z00 (z2z (mVar 2) (mVar 1)) mNil)))))) (z03 6)
def aR:MS:=mIf (mB (m2 neD (mRef [3,4] 4 11 z33 z55) (mLst (z00 (mC (.int 7)) mNil)))) (mRet (mC (.bl false))) z0x
def aS:MS:=mIf (mNot (mTru (z05 (F_qq 6) (z00 (z05 F_qv (z00 (mVar 3) (z00 (mVar 4) mNil))) (z00 (mTup (z00 (m2 subD (m2 ix0 (mVar 3) (mC (.int 0))) (mC (.int 1))) (z00 (z05 (f1 z2k) (z00 (mVar 6) mNil)) mNil))) mNil))))) (mRet (mC (.bl false))) z0x
def aB:MS:=mSeq aL (mSeq aP (mIf (mB (m2 eqD (m2 ix0 (mVar 3) (mC (.int 0))) (mC (.int 1)))) aR aS))
def aT1:MS:=mIf (mB (m2 neD (mRef [3,7] 4 11 z33 z56) (mLst (z00 (mC (.int 4)) mNil)))) (mRet (mC (.bl false))) z0x
def aT2:MS:=mIf (mB (m2 neD (mRef [8,7] 4 11 z33 z57) (mLst (z00 (mC (.int 0)) mNil)))) (mRet (mC (.bl false))) z0x
theorem zlb (scr:List Int):zgw scr=mSeq (mAsg (z05 (F_qk scr) (z00 (mVar 0) (z00 (mVar 1) mNil))) (z03 2)) (mSeq (mAsg (z05 F_ql (z00 (mVar 2) (z00 (mC (.int 6)) mNil))) (z03 3)) (mSeq (mFor (mas z1a (z00 (m2 ix0 (mVar 3) (mC (.int 0))) mNil)) (z03 4) aB) (mSeq (mAsg (m2 ix0 (mLst nnM) (z05 F_qp (z00 (mVar 2) (z00 (mC (.int 7)) mNil)))) (z03 7)) (mSeq (mAsg (z05 F_qb (z00 (mVar 2) mNil)) (z03 8)) (mSeq aT1 aT2))))):=rfl
section
variable {n:Nat} {ps:List (Int×Int)} {x0 x1 x2 x5 x6 x7 x8:Option Dv} {H:Hs}
theorem zqs (o:OrdP n ps) {x:Nat} (hx:x<n):∃ H1 y5 y6,aB [x0,x1,x2,some (ordD n ps),some (.int x),x5,x6,x7,x8] H=.nx [x0,x1,x2,some (ordD n ps),some (.int x),y5,y6,x7,x8] H1∧Fr [] H H1:=by
  have hx0:(0:Int)≤x:=by omega
  have hx1:(x:Int)<n:=by omega
  have q0:=fun H=>ord0 (n:=n) (ps:=ps) H
  have q1:=fun H=>ord1 (n:=n) (ps:=ps) H
  have ew:n≠1→∀ H,F_qv [ordD n ps,.int x] H=.ok (.tup [.int (n - 1),.tup ((wo x ps).map prD)]) (H++[.lst ((z2d n x).map Dv.int)]):=fun hn H=>zqp o hn hx0 hx1
  have e7:n=1→∀ H,F_qv [ordD n ps,.int x] H=.ex 7 H:=fun hn H=>by
    subst hn
    have:x=0:=by omega
    subst this
    exact zod o
  generalize ordD n ps=d at q0 q1 ew e7
  have c1:=zeq (H:=H) (n:=n) (x:=(x:Int)) (mi:=mas z1a (z00 (m2 ix0 (mVar 3) (mC (.int 0))) mNil)) (cap:=[none,some 4]) (ρ:=[x0,x1,x2,some d,some (.int x),x5,x6,x7,x8]) (zer o.n6 _ (by simp [z00,m2,mVar,mC,mNil,q0])) rfl o.n6
  have w1:aL [x0,x1,x2,some d,some (.int x),x5,x6,x7,x8] H=.nx [x0,x1,x2,some d,some (.int x),some (.ref H.length),x6,x7,x8] (H++[.lst ((z2d n x).map Dv.int)]):=by
    unfold aL mAsg mAl;rw [c1];rfl
  have g1:getL (H++[.lst ((z2d n x).map Dv.int)]) H.length=some ((z2d n x).map Dv.int):=z1h
  have f1:Fr [] H (H++[.lst ((z2d n x).map Dv.int)]):=Fr.app
  obtain ⟨i,hi⟩:∃ i,i=H.length:=⟨_,rfl⟩
  rw [← hi] at w1 g1
  obtain ⟨H1,hH1⟩:∃ H1,H1=H++[Ob.lst ((z2d n x).map Dv.int)]:=⟨_,rfl⟩
  rw [← hH1] at w1 g1 f1
  have c2:=zan (H:=H1) (mi:=m1s tupS (m2 ix0 (mVar 3) (mC (.int 1)))) (cap:=[none,none,some 5,some 4]) (ρ:=[x0,x1,x2,some d,some (.int x),some (.ref i),x6,x7,x8]) o hx0 hx1 (by simp [m1s,m2,mVar,mC,q1,tupS]) rfl g1
  have w2:aP [x0,x1,x2,some d,some (.int x),some (.ref i),x6,x7,x8] H1=.nx [x0,x1,x2,some d,some (.int x),some (.ref i),some (.ref H1.length),x7,x8] (H1++[.lst ((wo x ps).map prD)]):=by
    unfold aP mAsg mAl;rw [c2];rfl
  have g2:getL (H1++[.lst ((wo x ps).map prD)]) H1.length=some ((wo x ps).map prD):=z1h
  have f2:Fr [] H1 (H1++[.lst ((wo x ps).map prD)]):=Fr.app
  obtain ⟨j,hj⟩:∃ j,j=H1.length:=⟨_,rfl⟩
  rw [← hj] at w2 g2
  obtain ⟨H2,hH2⟩:∃ H2,H2=H1++[Ob.lst ((wo x ps).map prD)]:=⟨_,rfl⟩
  rw [← hH2] at w2 g2 f2
  have f12:=f1.trans f2 (by simp)
  unfold aB
  rw [z0k w1,z0k w2]
  by_cases hn:n=1
  · have t:mB (m2 eqD (m2 ix0 (mVar 3) (mC (.int 0))) (mC (.int 1))) [x0,x1,x2,some d,some (.int x),some (.ref i),some (.ref j),x7,x8] H2=.ok true H2:=by
      have:((n:Int)==1)=true:=by simp [hn]
      have q:=q0 H2
      generalize (n:Int)=m at q this
      simp [mB,m2,mVar,mC,q,eqD,z0w,pur,deq,this,asB]
    rw [if_T t]
    obtain ⟨H3,e3,f3⟩:=zem (c:=7) (.inr (.inr rfl)) (H:=H2) (caps:=[3,4]) (vs:=[d,.int x]) (me:=z55) (ρ:=[x0,x1,x2,some d,some (.int x),some (.ref i),some (.ref j),x7,x8]) rfl (by
      have q:=e7 hn H2
      simp [z55,z05,z00,mVar,mNil,q])
    exact ⟨H3,_,_,e3,f12.trans f3 (by simp)⟩
  · have t:mB (m2 eqD (m2 ix0 (mVar 3) (mC (.int 0))) (mC (.int 1))) [x0,x1,x2,some d,some (.int x),some (.ref i),some (.ref j),x7,x8] H2=.ok false H2:=by
      have:((n:Int)==1)=false:=by
        have:(n:Int)≠1:=by omega
        simpa using this
      have q:=q0 H2
      generalize (n:Int)=m at q this
      simp [mB,m2,mVar,mC,q,eqD,z0w,pur,deq,this,asB]
    rw [if_F t]
    have e:=ew hn H2
    have fz:Fr [] H2 (H2++[.lst ((z2d n x).map Dv.int)]):=Fr.app
    have g3:=fz.getL g2 (by simp)
    generalize H2++[.lst ((z2d n x).map Dv.int)]=H3 at e fz g3
    have q:=q0 H3
    have hs:=zhe (H:=H3) (m:=(n:Int) - 1) (ps:=wo x ps) (by have:=zob (x:=(x:Int)) (ps:=ps);have:=o.len;omega)
    generalize (n:Int)=m at q hs e
    generalize (wo x ps).map prD=W at g3 hs e
    refine ⟨H3,some (.ref i),some (.ref j), ?_,f12.trans fz (by simp)⟩
    simp [aS,mIf,mNot,mTru,z05,z00,mVar,mNil,e,mTup,m2,mC,q,subD,iOp,L2.Mr.f1,z2k,g3,lim,hs,truD,z0x]
theorem z96 (scr:List Int) (k:Nat) (H:Hs) (x2 x3 x4 x5 x6 x7 x8:Option Dv):∃ H' y2 y3 y4 y5 y6 y7 y8,zgw scr [some .scr,some (.int k),x2,x3,x4,x5,x6,x7,x8] H=.nx [some .scr,some (.int k),y2,y3,y4,y5,y6,y7,y8] H':=by
  obtain ⟨H1,h1,f1',s1⟩:=zh5 scr k H
  have w1:mAsg (z05 (F_qk scr) (z00 (mVar 0) (z00 (mVar 1) mNil))) (z03 2) [some .scr,some (.int k),x2,x3,x4,x5,x6,x7,x8] H=.nx [some .scr,some (.int k),some (.ref H.length),x3,x4,x5,x6,x7,x8] H1:=by
    simp [mAsg,z05,z00,mVar,mNil,h1,z03]
  obtain ⟨n,cs,H2,h2,o,s2,f2⟩:=zbf s1
  have w2:mAsg (z05 F_ql (z00 (mVar 2) (z00 (mC (.int 6)) mNil))) (z03 3) [some .scr,some (.int k),some (.ref H.length),x3,x4,x5,x6,x7,x8] H1=.nx [some .scr,some (.int k),some (.ref H.length),some (ordD n cs),x4,x5,x6,x7,x8] H2:=by
    simp [mAsg,z05,z00,mVar,mC,mNil,h2,z03]
  have w3:mas z1a (z00 (m2 ix0 (mVar 3) (mC (.int 0))) mNil) [some .scr,some (.int k),some (.ref H.length),some (ordD n cs),x4,x5,x6,x7,x8] H2=.ok (z0y 0 n) H2:=zer o.n6 _ (by
    have q:=ord0 (n:=n) (ps:=cs) H2
    generalize ordD n cs=d at q
    simp [z00,m2,mVar,mC,mNil,q])
  generalize H.length=st at s1 s2 f2 h2 w1 w2 w3
  obtain ⟨ρ',H3,w4,y4,y5,y6,e4,s3,f3⟩:=z51 (sg:=z03 4) (b:=aB) w3 (fun _ ρ Hx=>∃ y4 y5 y6,ρ=[some .scr,some (.int k),some (.ref st),some (ordD n cs),y4,y5,y6,x7,x8]∧Com.St st Hx∧Fr [] H2 Hx)
    (fun j ρ H' hj ⟨y4,y5,y6,e,s,f⟩=>by
      subst e
      have hj':j<n:=by simpa [z0y] using hj
      obtain ⟨Hy,z5,z6,eb,fb⟩:=zqs (x0:=some .scr) (x1:=some (.int k)) (x2:=some (.ref st)) (x5:=y5) (x6:=y6) (x7:=x7) (x8:=x8) (H:=H') o hj'
      exact ⟨.int j,[some .scr,some (.int k),some (.ref st),some (ordD n cs),some (.int j),y5,y6,x7,x8],_,Hy,by simp [z0y],rfl,eb,_,_,_,rfl,s.fr fb (by simp),f.trans fb (by simp)⟩) (fun ρ H' _=>rfl) ⟨x4,x5,x6,rfl,s2,Fr.refl⟩
  subst e4
  obtain ⟨y,H4,w5,ty,tn,s4,f4⟩:=zqr (ps:=cs) (ρ:=[some .scr,some (.int k),some (.ref st),some (ordD n cs),y4,y5,y6,x7,x8]) o.n6 s3 rfl rfl
  have w5':mAsg (m2 ix0 (mLst nnM) (z05 F_qp (z00 (mVar 2) (z00 (mC (.int 7)) mNil)))) (z03 7) [some .scr,some (.int k),some (.ref st),some (ordD n cs),y4,y5,y6,x7,x8] H3=.nx [some .scr,some (.int k),some (.ref st),some (ordD n cs),y4,y5,y6,some y,x8] H4:=by
    unfold mAsg;rw [w5];rfl
  obtain ⟨d,H5,h5,td,bd,s5,f5⟩:=zoe s4
  have w6:mAsg (z05 F_qb (z00 (mVar 2) mNil)) (z03 8) [some .scr,some (.int k),some (.ref st),some (ordD n cs),y4,y5,y6,some y,x8] H4=.nx [some .scr,some (.int k),some (.ref st),some (ordD n cs),y4,y5,y6,some y,some d] H5:=by
    simp [mAsg,z05,z00,mVar,mNil,h5,z03]
  have ty5:=ty.fr f5 s5
  have q4:=zoa (H:=H5) o ty5 tn
  obtain ⟨H6,w7,f6⟩:=zem (c:=4) (.inr (.inl rfl)) (H:=H5) (caps:=[3,7]) (vs:=[ordD n cs,y]) (me:=z56) (ρ:=[some .scr,some (.int k),some (.ref st),some (ordD n cs),y4,y5,y6,some y,some d]) rfl (by
    generalize ordD n cs=z at q4
    simp [z56,z05,z00,mVar,mNil,q4])
  have q5:=zo9 (y:=y) (td.fr0 f6) bd
  obtain ⟨H7,w8,f7⟩:=zem (c:=0) (.inl rfl) (H:=H6) (caps:=[8,7]) (vs:=[d,y]) (me:=z57) (ρ:=[some .scr,some (.int k),some (.ref st),some (ordD n cs),y4,y5,y6,some y,some d]) rfl (by
    simp [z57,z05,z00,mVar,mNil,q5])
  refine ⟨H7,some (.ref st),some (ordD n cs),y4,y5,y6,some y,some d, ?_⟩
  rw [zlb,z0k w1,z0k w2,z0k w4,z0k w5',z0k w6]
  have v7:aT1 [some .scr,some (.int k),some (.ref st),some (ordD n cs),y4,y5,y6,some y,some d] H5=.nx [some .scr,some (.int k),some (.ref st),some (ordD n cs),y4,y5,y6,some y,some d] H6:=w7
  have v8:aT2 [some .scr,some (.int k),some (.ref st),some (ordD n cs),y4,y5,y6,some y,some d] H6=.nx [some .scr,some (.int k),some (.ref st),some (ordD n cs),y4,y5,y6,some y,some d] H7:=w8
  rw [z0k v7,v8]
end
theorem loop (scr:List Int) (m:Int):∀ (f k:Nat) (H:Hs) (x1 x2 x3 x4 x5 x6 x7 x8:Option Dv),∃ ρ' H',forM (z0y 0 m) (z03 1) (zgw scr) f k [some .scr,x1,x2,x3,x4,x5,x6,x7,x8] H=.nx ρ' H'
  | 0,k,H,x1,x2,x3,x4,x5,x6,x7,x8=>⟨_,H,rfl⟩
  | f+1,k,H,x1,x2,x3,x4,x5,x6,x7,x8=>by
    obtain ⟨H1,y2,y3,y4,y5,y6,y7,y8,h⟩:=z96 scr k H x2 x3 x4 x5 x6 x7 x8
    obtain ⟨ρ',H2,h2⟩:=loop scr m f (k+1) H1 (some (.int k)) y2 y3 y4 y5 y6 y7 y8
    refine ⟨ρ',H2, ?_⟩
    rw [← h2]
    exact z9v (d:=.int k) (ρ1:=[some .scr,some (.int k),x2,x3,x4,x5,x6,x7,x8]) (by simp [z0y]) rfl h
theorem zhi (scr:List Int):∃ hh,F_qw scr [.scr] []=.ok (.bl true) hh:=by
  have hi:∃ m:Int,mas z1a (z00 (z05 z6h (z00 (mC (.int 1)) (z00 (z05 zay (z00 (z05 (f1 (lenD scr)) (z00 (mVar 0) mNil)) (z00 (mC (.int 10)) mNil))) mNil))) mNil) [some .scr,none,none,none,none,none,none,none,none] []=.ok (z0y 0 m) []:=by
    generalize hz:(if (10:Int)<scr.length then (10:Int) else scr.length)=z
    have z0:0≤z:=by split at hz <;> omega
    have z1:z≤10:=by split at hz <;> omega
    generalize hm:(if z>(1:Int) then z else 1)=m
    have m0:1≤m:=by split at hm <;> omega
    have m1':m≤10:=by split at hm <;> omega
    have hr:inR m=true:=by simp [inR];omega
    refine ⟨m, ?_⟩
    have e1:zay [.int scr.length,.int 10] []=.ok (.int z) []:=by rw [← hz];rfl
    have e2:z6h [.int 1,.int z] []=.ok (.int m) []:=by rw [← hm];rfl
    simp [mas,z00,z05,mC,mVar,mNil,f1,lenD,seqD,e1,e2,z1a,hr]
  obtain ⟨m,hi⟩:=hi
  obtain ⟨ρ',H',h⟩:=loop scr m (z0y 0 m).n 0 [] none none none none none none none none
  refine ⟨H', ?_⟩
  show z0r (zgx scr [some .scr,none,none,none,none,none,none,none,none] [])=_
  unfold zgx ml0
  rw [z0k ((zi9 hi).trans h)]
  rfl
open PySem PySem.Spec PySem.Calls PySem.W PyProof.Rows L2 L2.Mr
theorem mk_of {l:OpenLaw} {w:World} {K:Frag} {h:Heap} {mg:Str→Option Value} {fa:Addr} (hob:ob K=obE) (hnt:noTabs K=true) (X:K.In h) (G:h.Ns mainGlobals mg) (hfa:mg "law" = some (.ref fa)):
    ∃ (fd:FuncData) (c P:Addr),(∀ (s:Shared) (u:Value),BindsTo s fd ⟨[u],[]⟩ [("_law_script",u)])∧tabIn K "law" = some (c,P)∧noTabs K=true ∧
      ∀ (base:Heap) (a:Addr) (ns:List Int),ns.length≤63→K.In base→base.Ns mainGlobals mg→CodeHd base c P→z6l mg base→Lawful l.prog w K mg base 14 fa fd "_law_script" P a ns:=by
  have hc:obF.all (fun f=>f K)=true:=congrArg Prod.fst hob
  have hf:obN K=obX:=congrArg Prod.snd hob
  have e:=hfa.symm.trans (mg_of X G (v:=.ref 298) (dA hc 22 rfl))
  cases e
  refine (fun (z:∀ R:Prop,(_→R)→R)=>z _ id) fun R hR=>?_
  obtain ⟨g0,U0,B0,C0,D0⟩:=z15 (st:=s_qr) (n := "is_whole") (c:=165) (ps:=["thing"]) (fnAt hf 0 (a:=fob K 166) rfl rfl) (z0p hc 50 rfl) (z0p hc 73 rfl) fun _ _ _ _ _ _=>gln1 fun _=>rfl
  obtain ⟨g1,U1,B1,C1,D1⟩:=z15 (st:=s_qg) (n := "is_between") (c:=172) (ps:=["thing","low","high"]) (fnAt hf 1 (a:=fob K 173) rfl rfl) (z0p hc 51 rfl) (z0p hc 74 rfl) fun _ _ _ _ _ _=>gln3 fun _ _ _=>rfl
  obtain ⟨g2,U2,B2,C2,D2⟩:=z15 (st:=s_qm) (n := "is_rising") (c:=177) (ps:=["parts"]) (fnAt hf 2 (a:=fob K 178) rfl rfl) (z0p hc 52 rfl) (z0p hc 75 rfl) fun _ _ _ _ _ _=>gln1 fun _=>rfl
  obtain ⟨g3,U3,B3,C3,D3⟩:=z15 (st:=s_qs) (n := "is_thing") (c:=184) (ps:=["many","thing"]) (fnAt hf 3 (a:=fob K 185) rfl rfl) (z0p hc 53 rfl) (z0p hc 76 rfl) fun _ _ _ _ _ _=>gln2 fun _ _=>rfl
  obtain ⟨g4,U4,B4,C4,D4⟩:=z15 (st:=s_qh) (n := "are_things") (c:=189) (ps:=["many","thing"]) (fnAt hf 4 (a:=fob K 190) rfl rfl) (z0p hc 54 rfl) (z0p hc 77 rfl) fun _ _ _ _ _ _=>gln2 fun _ _=>rfl
  obtain ⟨g5,U5,B5,C5,D5⟩:=z15 (st:=s_qu) (n := "is_pair") (c:=196) (ps:=["many","thing"]) (fnAt hf 5 (a:=fob K 197) rfl rfl) (z0p hc 55 rfl) (z0p hc 78 rfl) fun _ _ _ _ _ _=>gln2 fun _ _=>rfl
  obtain ⟨g6,U6,B6,C6,D6⟩:=z15 (st:=s_qn) (n := "are_pairs") (c:=201) (ps:=["many","things"]) (fnAt hf 6 (a:=fob K 202) rfl rfl) (z0p hc 56 rfl) (z0p hc 79 rfl) fun _ _ _ _ _ _=>gln2 fun _ _=>rfl
  obtain ⟨g7,U7,B7,C7,D7⟩:=z15 (st:=s_qo) (n := "has_alike") (c:=206) (ps:=["pairs"]) (fnAt hf 7 (a:=fob K 207) rfl rfl) (z0p hc 57 rfl) (z0p hc 80 rfl) fun _ _ _ _ _ _=>gln1 fun _=>rfl
  obtain ⟨g8,U8,B8,C8,D8⟩:=z15 (st:=s_qe) (n := "is_complete") (c:=211) (ps:=["pairs"]) (fnAt hf 8 (a:=fob K 212) rfl rfl) (z0p hc 58 rfl) (z0p hc 81 rfl) fun _ _ _ _ _ _=>gln1 fun _=>rfl
  obtain ⟨g9,U9,B9,C9,D9⟩:=z15 (st:=s_qt) (n := "is_order") (c:=218) (ps:=["thing"]) (fnAt hf 9 (a:=fob K 219) rfl rfl) (z0p hc 59 rfl) (z0p hc 82 rfl) fun _ _ _ _ _ _=>gln1 fun _=>rfl
  obtain ⟨g10,U10,B10,C10,D10⟩:=z15 (st:=s_qi) (n := "need_order") (c:=225) (ps:=["order"]) (fnAt hf 10 (a:=fob K 226) rfl rfl) (z0p hc 60 rfl) (z0p hc 83 rfl) fun _ _ _ _ _ _=>gln1 fun _=>rfl
  obtain ⟨g11,U11,B11,C11,D11⟩:=z15 (st:=s_qj) (n := "need_thing") (c:=232) (ps:=["order","thing"]) (fnAt hf 11 (a:=fob K 233) rfl rfl) (z0p hc 61 rfl) (z0p hc 84 rfl) fun _ _ _ _ _ _=>gln2 fun _ _=>rfl
  obtain ⟨g12,U12,B12,C12,D12⟩:=z15 (st:=s_qv) (n := "without") (c:=237) (ps:=["order","thing"]) (fnAt hf 12 (a:=fob K 238) rfl rfl) (z0p hc 62 rfl) (z0p hc 85 rfl) fun _ _ _ _ _ _=>gln2 fun _ _=>rfl
  obtain ⟨g13,U13,B13,C13,D13⟩:=z15 (st:=s_qc) (n := "_law_cell_at") (c:=244) (ps:=["_law_script","_law_k"]) (fnAt hf 13 (a:=fob K 245) rfl rfl) (z0p hc 63 rfl) (z0p hc 86 rfl) fun _ _ _ _ _ _=>gln2 fun _ _=>rfl
  obtain ⟨g14,U14,B14,C14,D14⟩:=z15 (st:=s_qk) (n := "_law_state") (c:=251) (ps:=["_law_script","_law_k"]) (fnAt hf 14 (a:=fob K 252) rfl rfl) (z0p hc 64 rfl) (z0p hc 87 rfl) fun _ _ _ _ _ _=>gln2 fun _ _=>rfl
  obtain ⟨g15,U15,B15,C15,D15⟩:=z15 (st:=s_qp) (n := "_law_take") (c:=258) (ps:=["_law_state_here","_law_many"]) (fnAt hf 15 (a:=fob K 259) rfl rfl) (z0p hc 65 rfl) (z0p hc 88 rfl) fun _ _ _ _ _ _=>gln2 fun _ _=>rfl
  obtain ⟨g16,U16,B16,C16,D16⟩:=z15 (st:=s_qa) (n := "_law_mixed_row") (c:=265) (ps:=["_law_state_here","_law_things"]) (fnAt hf 16 (a:=fob K 266) rfl rfl) (z0p hc 66 rfl) (z0p hc 89 rfl) fun _ _ _ _ _ _=>gln2 fun _ _=>rfl
  obtain ⟨g17,U17,B17,C17,D17⟩:=z15 (st:=s_qf) (n := "_law_closed") (c:=270) (ps:=["_law_pairs"]) (fnAt hf 17 (a:=fob K 271) rfl rfl) (z0p hc 67 rfl) (z0p hc 90 rfl) fun _ _ _ _ _ _=>gln1 fun _=>rfl
  obtain ⟨g18,U18,B18,C18,D18⟩:=z15 (st:=s_ql) (n := "_law_order") (c:=275) (ps:=["_law_state_here","_law_most"]) (fnAt hf 18 (a:=fob K 276) rfl rfl) (z0p hc 68 rfl) (z0p hc 91 rfl) fun _ _ _ _ _ _=>gln2 fun _ _=>rfl
  obtain ⟨g19,U19,B19,C19,D19⟩:=z15 (st:=s_qb) (n := "_law_bad_order") (c:=282) (ps:=["_law_state_here"]) (fnAt hf 19 (a:=fob K 283) rfl rfl) (z0p hc 69 rfl) (z0p hc 92 rfl) fun _ _ _ _ _ _=>gln1 fun _=>rfl
  obtain ⟨g20,U20,B20,C20,D20⟩:=z15 (st:=s_qq) (n := "_law_same") (c:=287) (ps:=["_law_found","_law_due"]) (fnAt hf 20 (a:=fob K 288) rfl rfl) (z0p hc 70 rfl) (z0p hc 93 rfl) fun _ _ _ _ _ _=>gln2 fun _ _=>rfl
  obtain ⟨g21,U21,B21,C21,D21⟩:=z15 (st:=s_qd) (n := "_law_refused") (c:=292) (ps:=["_law_call"]) (fnAt hf 21 (a:=fob K 293) rfl rfl) (z0p hc 71 rfl) (z0p hc 94 rfl) fun _ _ _ _ _ _=>gln1 fun _=>rfl
  obtain ⟨g22,U22,B22,C22,D22⟩:=z15 (st:=s_qw) (n := "law") (c:=297) (ps:=["_law_script"]) (fnAt hf 22 (a:=fob K 298) rfl rfl) (z0p hc 72 rfl) (z0p hc 95 rfl) fun _ _ _ _ _ _=>gln1 fun _=>rfl
  obtain ⟨t_MOST_THINGS,c_MOST_THINGS⟩:=zim (n := "MOST_THINGS") (v:=6) (z0p hc 96 rfl)
  have ex_NoOrder:ExK K 37:=⟨dA hc 142 rfl,dA hc 143 rfl,dA hc 144 rfl,dA hc 145 rfl,dA hc 146 rfl,dA hc 147 rfl,z8b (z0p hc 148 rfl)⟩
  have ex_NoThing:ExK K 85:=⟨dA hc 149 rfl,dA hc 150 rfl,dA hc 151 rfl,dA hc 152 rfl,dA hc 153 rfl,dA hc 154 rfl,z8b (z0p hc 155 rfl)⟩
  have ex_TooFew:ExK K 121:=⟨dA hc 156 rfl,dA hc 157 rfl,dA hc 158 rfl,dA hc 159 rfl,dA hc 160 rfl,dA hc 161 rfl,z8b (z0p hc 162 rfl)⟩
  refine hR ⟨g22,297,295,fun s v=>.of_eq (D22 [v] rfl),dA hc 97 rfl,hnt,fun base a ns hlen _ _ hC hB=>⟨?_⟩⟩
  obtain ⟨hh,hl⟩:=zhi ns
  refine ⟨{ K:=K,cl:=fun c=>match c with | 0=>37 | 1=>49 | 2=>61 | 3=>73 | 4=>85 | 5=>97 | 6=>109 | 7=>121 | 8=>133 | 9=>145 | 10=>157 | _=>24,scr:=ns,sa:=a,tab:=some 295,lq:=(("law" : Str) ++ ".<locals>.") ++ "<lambda>" },F_qw ns,hh,rfl,rfl,rfl,rfl,hl, ?_⟩
  refine zqf (A:={ f_qr:=166,fd_qr:=g0,f_qg:=173,fd_qg:=g1,f_qm:=178,fd_qm:=g2,f_qs:=185,fd_qs:=g3,f_qh:=190,fd_qh:=g4,f_qu:=197,fd_qu:=g5,f_qn:=202,fd_qn:=g6,f_qo:=207,fd_qo:=g7,f_qe:=212,fd_qe:=g8,f_qt:=219,fd_qt:=g9,f_qi:=226,fd_qi:=g10,f_qj:=233,fd_qj:=g11,f_qv:=238,fd_qv:=g12,f_qc:=245,fd_qc:=g13,f_qk:=252,fd_qk:=g14,f_qp:=259,fd_qp:=g15,f_qa:=266,fd_qa:=g16,f_qf:=271,fd_qf:=g17,f_ql:=276,fd_ql:=g18,f_qb:=283,fd_qb:=g19,f_qq:=288,fd_qq:=g20,f_qd:=293,fd_qd:=g21,f_qw:=298,fd_qw:=g22,c_NoOrder:=37,c_NoNumber:=49,c_NoPairs:=61,c_Round:=73,c_NoThing:=85,c_NoRow:=97,c_TooMany:=109,c_TooFew:=121,c_NoText:=133,c_NoLine:=145,c_NoDeed:=157,t_MOST_THINGS:=t_MOST_THINGS,NE:=24,cc:=297,P:=295 }) ?_ hC hB
  exact { hK:=rfl,F_qr:=U0,B_qr:=B0,m_qr:=mg_of X G (dA hc 0 rfl),F_qg:=U1,B_qg:=B1,m_qg:=mg_of X G (dA hc 1 rfl),F_qm:=U2,B_qm:=B2,m_qm:=mg_of X G (dA hc 2 rfl),F_qs:=U3,B_qs:=B3,m_qs:=mg_of X G (dA hc 3 rfl),F_qh:=U4,B_qh:=B4,m_qh:=mg_of X G (dA hc 4 rfl),F_qu:=U5,B_qu:=B5,m_qu:=mg_of X G (dA hc 5 rfl),F_qn:=U6,B_qn:=B6,m_qn:=mg_of X G (dA hc 6 rfl),F_qo:=U7,B_qo:=B7,m_qo:=mg_of X G (dA hc 7 rfl),F_qe:=U8,B_qe:=B8,m_qe:=mg_of X G (dA hc 8 rfl),F_qt:=U9,B_qt:=B9,m_qt:=mg_of X G (dA hc 9 rfl),F_qi:=U10,B_qi:=B10,m_qi:=mg_of X G (dA hc 10 rfl),F_qj:=U11,B_qj:=B11,m_qj:=mg_of X G (dA hc 11 rfl),F_qv:=U12,B_qv:=B12,m_qv:=mg_of X G (dA hc 12 rfl),F_qc:=U13,B_qc:=B13,m_qc:=mg_of X G (dA hc 13 rfl),F_qk:=U14,B_qk:=B14,m_qk:=mg_of X G (dA hc 14 rfl),F_qp:=U15,B_qp:=B15,m_qp:=mg_of X G (dA hc 15 rfl),F_qa:=U16,B_qa:=B16,m_qa:=mg_of X G (dA hc 16 rfl),F_qf:=U17,B_qf:=B17,m_qf:=mg_of X G (dA hc 17 rfl),F_ql:=U18,B_ql:=B18,m_ql:=mg_of X G (dA hc 18 rfl),F_qb:=U19,B_qb:=B19,m_qb:=mg_of X G (dA hc 19 rfl),F_qq:=U20,B_qq:=B20,m_qq:=mg_of X G (dA hc 20 rfl),F_qd:=U21,B_qd:=B21,m_qd:=mg_of X G (dA hc 21 rfl),F_qw:=U22,B_qw:=B22,m_qw:=mg_of X G (dA hc 22 rfl),z_ValueError:=mg_none_of X G (dA hc 35 rfl),z_all:=mg_none_of X G (dA hc 36 rfl),z_any:=mg_none_of X G (dA hc 37 rfl),z_bool:=mg_none_of X G (dA hc 38 rfl),z_int:=mg_none_of X G (dA hc 39 rfl),z_isinstance:=mg_none_of X G (dA hc 40 rfl),z_len:=mg_none_of X G (dA hc 41 rfl),z_list:=mg_none_of X G (dA hc 42 rfl),z_max:=mg_none_of X G (dA hc 43 rfl),z_min:=mg_none_of X G (dA hc 44 rfl),z_range:=mg_none_of X G (dA hc 45 rfl),z_set:=mg_none_of X G (dA hc 46 rfl),z_sorted:=mg_none_of X G (dA hc 47 rfl),z_tuple:=mg_none_of X G (dA hc 48 rfl),z_zip:=mg_none_of X G (dA hc 49 rfl),c_MOST_THINGS:=mg_of X G c_MOST_THINGS,n_NoOrder:=mg_of X G (dA hc 23 rfl),n_NoNumber:=mg_of X G (dA hc 24 rfl),n_NoPairs:=mg_of X G (dA hc 25 rfl),n_Round:=mg_of X G (dA hc 26 rfl),n_NoThing:=mg_of X G (dA hc 27 rfl),n_NoRow:=mg_of X G (dA hc 28 rfl),n_TooMany:=mg_of X G (dA hc 29 rfl),n_TooFew:=mg_of X G (dA hc 30 rfl),n_NoText:=mg_of X G (dA hc 31 rfl),n_NoLine:=mg_of X G (dA hc 32 rfl),n_NoDeed:=mg_of X G (dA hc 33 rfl),ns_NoOrder:=dA hc 23 rfl,x_NoOrder:=z0p hc 163 rfl,ce_NoOrder:=rfl,ns_NoThing:=dA hc 27 rfl,x_NoThing:=z0p hc 164 rfl,ce_NoThing:=rfl,ns_TooFew:=dA hc 30 rfl,x_TooFew:=z0p hc 165 rfl,ce_TooFew:=rfl,ktV:=tbc ⟨dA hc 166 rfl,ex_NoOrder⟩ (tbc ⟨dA hc 167 rfl,ex_NoThing⟩ (tbc ⟨dA hc 168 rfl,ex_TooFew⟩ tbn)),kt0:=tbc ⟨dA hc 109 rfl,ex_NoOrder⟩ (tbc ⟨dA hc 120 rfl,ex_NoThing⟩ (tbc ⟨dA hc 131 rfl,ex_TooFew⟩ tbn)),kt1:=tbc ⟨dA hc 110 rfl,ex_NoOrder⟩ (tbc ⟨dA hc 121 rfl,ex_NoThing⟩ (tbc ⟨dA hc 132 rfl,ex_TooFew⟩ tbn)),kt2:=tbc ⟨dA hc 111 rfl,ex_NoOrder⟩ (tbc ⟨dA hc 122 rfl,ex_NoThing⟩ (tbc ⟨dA hc 133 rfl,ex_TooFew⟩ tbn)),kt3:=tbc ⟨dA hc 112 rfl,ex_NoOrder⟩ (tbc ⟨dA hc 123 rfl,ex_NoThing⟩ (tbc ⟨dA hc 134 rfl,ex_TooFew⟩ tbn)),kt4:=tbc ⟨dA hc 113 rfl,ex_NoOrder⟩ (tbc ⟨dA hc 124 rfl,ex_NoThing⟩ (tbc ⟨dA hc 135 rfl,ex_TooFew⟩ tbn)),kt5:=tbc ⟨dA hc 114 rfl,ex_NoOrder⟩ (tbc ⟨dA hc 125 rfl,ex_NoThing⟩ (tbc ⟨dA hc 136 rfl,ex_TooFew⟩ tbn)),kt6:=tbc ⟨dA hc 115 rfl,ex_NoOrder⟩ (tbc ⟨dA hc 126 rfl,ex_NoThing⟩ (tbc ⟨dA hc 137 rfl,ex_TooFew⟩ tbn)),kt7:=tbc ⟨dA hc 116 rfl,ex_NoOrder⟩ (tbc ⟨dA hc 127 rfl,ex_NoThing⟩ (tbc ⟨dA hc 138 rfl,ex_TooFew⟩ tbn)),kt8:=tbc ⟨dA hc 117 rfl,ex_NoOrder⟩ (tbc ⟨dA hc 128 rfl,ex_NoThing⟩ (tbc ⟨dA hc 139 rfl,ex_TooFew⟩ tbn)),kt9:=tbc ⟨dA hc 118 rfl,ex_NoOrder⟩ (tbc ⟨dA hc 129 rfl,ex_NoThing⟩ (tbc ⟨dA hc 140 rfl,ex_TooFew⟩ tbn)),kt10:=tbc ⟨dA hc 119 rfl,ex_NoOrder⟩ (tbc ⟨dA hc 130 rfl,ex_NoThing⟩ (tbc ⟨dA hc 141 rfl,ex_TooFew⟩ tbn)),n_NearError:=mg_of X G (dA hc 34 rfl),e1:=dA hc 169 rfl,e2:=dA hc 170 rfl,e3:=dA hc 171 rfl,e4:=z2s (dA hc 98 rfl) (z2s (dA hc 99 rfl) (z2s (dA hc 100 rfl) (z2s (dA hc 101 rfl) (z2s (dA hc 102 rfl) (z2s (dA hc 103 rfl) (z2s (dA hc 104 rfl) (z2s (dA hc 105 rfl) (z2s (dA hc 106 rfl) (z2s (dA hc 107 rfl) (z2s (dA hc 108 rfl) zmz)))))))))),lq:=rfl,tab:=rfl,code:=C22 }
end L2.Mr.K81
open PySem PySem.W PyProof.Rows
set_option maxRecDepth 100000 in
set_option maxHeartbeats 0 in
theorem PySem.Challenge.cw_nearorders_k81_a_thing_taken_away_holds : PySem.Challenge.rw_nearorders_k81_a_thing_taken_away.Holds := by
  w_on; o_law
  refine holds_open (XP := XL L2.Mr.K81.vw []) (YP := L2.Mr.Ys L2.Mr.K81.ob L2.Mr.K81.obE) L2.Mr.K81.left L2.Mr.ys_of L2.Mr.ys_keeps (fun s e => xl_of s (Bool.and_eq_true_iff.mp e).1) XL.keeps (by rfl) (by rfl) (by rfl) (fun s e => recFacts_of (Bool.and_eq_true_iff.mp e).2) (by rfl) (by first | assumption | decide +kernel) (by decide +kernel) ⟨rfl,rfl,rfl,rfl,rfl,by decide +kernel⟩ ?hw ?hc
  case hw => w_witness2
  case hc => exact L2.Mr.walkK (l := PySem.Challenge.rw_nearorders_k81_a_thing_taken_away) (n := 63) (k := 14) (x := "_law_script") rfl (by decide) rfl ⟨rfl,by decide,by decide⟩ rfl (fun K w mg fa h hob hnt X G hmg => L2.Mr.K81.mk_of hob hnt X G hmg)