import PyProof.Rows.All
import Wide.All
import OpenK.AllK
import Wide.FinOn
import Lean
import PyProof.EqAt
import PyProof.EqKinds
import PyProof.TupleCall
import PyProof.NeKinds
import PyProof.StationsW
import PyProof.ExcClass3
import PyProof.ExcBaseAll.ValueError
import PyProof.ExcArgsOwn
import KE.KIsAll
import PyProof.ZipIter
import PyProof.RulesAs
import KE.KLam
import PyProof.NsDelKeeps
import PyProof.Rows.Range3
import PyProof.SumWalkG
import PyProof.EnumMake
import PyProof.EnumFor
import PyProof.WalkInts
import PyProof.Rows.SortWalk
import PySem.Challenge.RW_nearorders_k71_numbers_by_rule
set_option Elab.async false
set_option linter.all false
set_option maxRecDepth 100000
set_option maxHeartbeats 4000000
namespace L2.Mr
open PySem PySem.Spec PySem.Calls PyProof.Rows PySem.W
def zmo (o : Obj) : Bool := match o.cls,o.data with
  | .none,.fields _ => false
  | _,_ => true
def frgL (h : Heap) : List Addr→Frag
  | [] => []
  | a :: as => match h.get? a with
    | some o => match zmo o with
      | true => (a,o) :: frgL h as
      | false => frgL h as
    | none => frgL h as
def frg (h : Heap) : Frag := frgL h (List.range h.objs.size)
theorem z5q (h : Heap) : ∀ as,(frgL h as).In h
  | [],_,_,e => nomatch e
  | a :: as,b,o,e => by
    unfold frgL at e
    split at e
    · rename_i o' q
      split at e
      · rw [List.lookup_cons] at e
        cases z : b == a with
        | true => rw [z] at e; cases e; rw [eq_of_beq z]; exact q
        | false => rw [z] at e; exact z5q h as b o e
      · exact z5q h as b o e
    · exact z5q h as b o e
theorem z5r (h : Heap) : ∀ as,noTabs (frgL h as) = true
  | [] => rfl
  | a :: as => by
    unfold frgL
    split
    · split
      · rename_i q
        show (_ && _) = true
        rw [Bool.and_eq_true]
        refine ⟨?_,z5r h as⟩
        exact q
      · exact z5r h as
    · exact z5r h as
def fob (K : Frag) (f : Addr) : Option FuncData := match K.lookup f with
  | some o => match o.data with
    | .func fd => some { fd with kwdefaults := .none,doc := .none,pyModule := .none,annotations := none,closureTuple := .none }
    | _ => none
  | none => none
theorem z19 {K : Frag} {f : Addr} {n q : Str} {A : Arguments} {B : List Stmt} {S : Scope} {dV cd : Value} (h : fob K f = some (fnOf n q A B S dV .none .none .none none cd .none)) :
    ∃ (oc : Value) (od : Option Addr) (kV dc pm : Value) (an : Option Addr) (ct : Value) (sl : Array (Option Value)),K.lookup f = some ⟨oc,od,.func (fnOf n q A B S dV kV dc pm an cd ct),sl⟩:= by
  unfold fob at h
  split at h
  · rename_i o e
    split at h
    · rename_i fd q
      obtain ⟨oc,od,dt,sl⟩ := o
      cases fd
      simp only [Option.some.injEq,FuncData.mk.injEq] at h
      obtain ⟨rfl,rfl,rfl,rfl,rfl,rfl,rfl,rfl,_,_,_,_,rfl,_,rfl⟩ := h
      simp only at q
      subst q
      exact ⟨_,_,_,_,_,_,_,_,e⟩
    · cases h
  · cases h
theorem z0b {F : List (Frag→Bool)} {K : Frag} (h : F.all (fun f => f K) = true) (i : Nat) {f : Frag→Bool} (e : F[i]? = some f) : f K = true := List.all_eq_true.mp h f (List.mem_of_getElem? e)
theorem fnAt {l m : List (Option FuncData)} (h : l = m) (i : Nat) {a b : Option FuncData} (e : l[i]? = some a) (e' : m[i]? = some b) : a = b := by subst h; rw [e] at e'; exact Option.some.inj e'
def clsB (K : Frag) (q : Addr) : Bool := match K.lookup q with
  | some ⟨_,_,.cls _,_⟩ => true
  | _ => false
theorem zg5 {K : Frag} {q : Addr} (h : clsB K q = true) : ∃ lo ld lc ls,K.lookup q = some ⟨lo,ld,.cls lc,ls⟩:= by
  unfold clsB at h
  split at h
  · exact ⟨_,_,_,_,by assumption⟩
  · cases h
def intB (K : Frag) (n : Str) (v : Int) : Bool := match nsIn K mainGlobals n with
  | some (some (.int i _)) => i == v
  | _ => false
theorem zg6 {K : Frag} {n : Str} {v : Int} (h : intB K n v = true) : ∃ t,nsIn K mainGlobals n = some (some (.int v t)):= by
  unfold intB at h
  split at h
  · rename_i i t e; rw [eq_of_beq h] at e; exact ⟨t,e⟩
  · cases h
def tabB (K : Frag) (cc P : Addr) : Bool := match K.lookup cc with
  | some ⟨_,_,.fields vs,_⟩ => vs[11]? == some (.ref P)
  | _ => false
theorem zg7 {K : Frag} {cc P : Addr} (h : tabB K cc P = true) : ∃ tu1 tu3 tvs tu4,K.lookup cc = some ⟨tu1,tu3,.fields tvs,tu4⟩∧tvs[11]? = some (.ref P):= by
  unfold tabB at h
  split at h
  · exact ⟨_,_,_,_,by assumption,eq_of_beq h⟩
  · cases h
theorem zg8 (p : Program) (w : World) (N : Nat) {α : Type} (f : Shared→α) : (openEnds treeTable p w N).map f = (((Fast.tw10274390034422433532 Fast.tw14364793385576792824 (opening p) w N (PySem.start (opening p)).1 (PySem.start (opening p)).2).bind (Fast.tw14289696077712309145 p)).bind fun s₀ => match s₀.heap.isNs mainGlobals && s₀.gens.size == 0 with
  | true => (Fast.tw14082659384304107361 Fast.tw14364793385576792824 p w s₀.heap.objs.size (s₀.heap.nsMap mainGlobals "__annotations__") N s₀ (topStub p)).bind fun s₁ => match staticsOk (importedModules p.main.body) s₀.heap s₁.heap && namesBound p s₁.heap && gensDone s₁ && laidKept s₀.heap s₁.heap with
      | true => some s₁
      | false => none
  | false => none).map f:= by
  rw [← Fast.te10274390034422433532,← Fast.te14364793385576792824,← Fast.te14289696077712309145,← Fast.te14082659384304107361]; rfl
abbrev bmW : List Value := [.type "ValueError",.type "Exception",.type "BaseException",.type "object"]
def fnS (s : Stmt) (cd : Addr) : Option FuncData := match s with
  | .FunctionDef n a b _ _ _ sc _ _ _ => some (fnOf n n a b sc .none .none .none .none none (.ref cd) .none)
  | _ => none
def fE (p : Program) (i : Nat) (cd : Addr) : Option FuncData := fnS (p.main.body.getD i (.Pass ⟨0,0,0,0⟩)) cd
end L2.Mr
namespace L2.Mr.K71
open PySem PySem.Spec PySem.Calls PySem.W PyProof.Rows L2.Mr
def vw : Program := { PySem.Challenge.pw_nearorders_k71_numbers_by_rule with main := { PySem.Challenge.pw_nearorders_k71_numbers_by_rule.main with body := List.filterMap (fun i => PySem.Challenge.pw_nearorders_k71_numbers_by_rule.main.body[i]?) [1,2,3,4,5,6,7,8,9,10,11,12,13,14,15,17,18,20,21,22,23,25,26,27,28,29,30,31,32,33,34,35,36,37,38,39,40,41] } }
def Xw : Shared→Bool:= fun s => xlAt vw [] s && recOk (RowW.records (OpenRow.toRowW PySem.Challenge.rw_nearorders_k71_numbers_by_rule.row)) s
def obF : List (Frag→Bool) := [fun K => decide (PySem.W.nsIn K mainGlobals "NearError" = some (some (.ref 24))),
  fun K => decide (PySem.W.nsIn K mainGlobals "is_whole" = some (some (.ref 202))),
  fun K => PySem.W.codeIn K (.ref 201) "is_whole",
  fun K => PySem.W.keepIn K (.ref 202),
  fun K => decide (PySem.W.nsIn K mainGlobals "rounded_up" = some (some (.ref 209))),
  fun K => PySem.W.codeIn K (.ref 208) "rounded_up",
  fun K => PySem.W.keepIn K (.ref 209),
  fun K => decide (PySem.W.nsIn K mainGlobals "need_sizes" = some (some (.ref 214))),
  fun K => PySem.W.codeIn K (.ref 213) "need_sizes",
  fun K => PySem.W.keepIn K (.ref 214),
  fun K => decide (PySem.W.nsIn K mainGlobals "levels_span" = some (some (.ref 221))),
  fun K => PySem.W.codeIn K (.ref 220) "levels_span",
  fun K => PySem.W.keepIn K (.ref 221),
  fun K => decide (PySem.W.nsIn K mainGlobals "chains_reach" = some (some (.ref 228))),
  fun K => PySem.W.codeIn K (.ref 227) "chains_reach",
  fun K => PySem.W.keepIn K (.ref 228),
  fun K => decide (PySem.W.nsIn K mainGlobals "_law_take" = some (some (.ref 235))),
  fun K => PySem.W.codeIn K (.ref 234) "_law_take",
  fun K => PySem.W.keepIn K (.ref 235),
  fun K => decide (PySem.W.nsIn K mainGlobals "_law_loose" = some (some (.ref 242))),
  fun K => PySem.W.codeIn K (.ref 241) "_law_loose",
  fun K => PySem.W.keepIn K (.ref 242),
  fun K => decide (PySem.W.nsIn K mainGlobals "_law_cell_at" = some (some (.ref 249))),
  fun K => PySem.W.codeIn K (.ref 248) "_law_cell_at",
  fun K => PySem.W.keepIn K (.ref 249),
  fun K => decide (PySem.W.nsIn K mainGlobals "_law_state" = some (some (.ref 256))),
  fun K => PySem.W.codeIn K (.ref 255) "_law_state",
  fun K => PySem.W.keepIn K (.ref 256),
  fun K => decide (PySem.W.nsIn K mainGlobals "_law_sizes" = some (some (.ref 263))),
  fun K => PySem.W.codeIn K (.ref 262) "_law_sizes",
  fun K => PySem.W.keepIn K (.ref 263),
  fun K => decide (PySem.W.nsIn K mainGlobals "_law_same" = some (some (.ref 268))),
  fun K => PySem.W.codeIn K (.ref 267) "_law_same",
  fun K => PySem.W.keepIn K (.ref 268),
  fun K => decide (PySem.W.nsIn K mainGlobals "_law_numbered" = some (some (.ref 275))),
  fun K => PySem.W.codeIn K (.ref 274) "_law_numbered",
  fun K => PySem.W.keepIn K (.ref 275),
  fun K => decide (PySem.W.nsIn K mainGlobals "_law_of_sizes" = some (some (.ref 282))),
  fun K => PySem.W.codeIn K (.ref 281) "_law_of_sizes",
  fun K => PySem.W.keepIn K (.ref 282),
  fun K => decide (PySem.W.nsIn K mainGlobals "_law_least_with" = some (some (.ref 289))),
  fun K => PySem.W.codeIn K (.ref 288) "_law_least_with",
  fun K => PySem.W.keepIn K (.ref 289),
  fun K => decide (PySem.W.nsIn K mainGlobals "_law_least_reach" = some (some (.ref 296))),
  fun K => PySem.W.codeIn K (.ref 295) "_law_least_reach",
  fun K => PySem.W.keepIn K (.ref 296),
  fun K => decide (PySem.W.nsIn K mainGlobals "_law_bad_sizes" = some (some (.ref 303))),
  fun K => PySem.W.codeIn K (.ref 302) "_law_bad_sizes",
  fun K => PySem.W.keepIn K (.ref 303),
  fun K => decide (PySem.W.nsIn K mainGlobals "_law_refused" = some (some (.ref 308))),
  fun K => PySem.W.codeIn K (.ref 307) "_law_refused",
  fun K => PySem.W.keepIn K (.ref 308),
  fun K => decide (PySem.W.nsIn K mainGlobals "_law_great" = some (some (.ref 315))),
  fun K => PySem.W.codeIn K (.ref 314) "_law_great",
  fun K => PySem.W.keepIn K (.ref 315),
  fun K => decide (PySem.W.nsIn K mainGlobals "_law_rows" = some (some (.ref 320))),
  fun K => PySem.W.codeIn K (.ref 319) "_law_rows",
  fun K => PySem.W.keepIn K (.ref 320),
  fun K => decide (PySem.W.nsIn K mainGlobals "_law_span" = some (some (.ref 325))),
  fun K => PySem.W.codeIn K (.ref 324) "_law_span",
  fun K => PySem.W.keepIn K (.ref 325),
  fun K => decide (PySem.W.nsIn K mainGlobals "_law_reach_by_rule" = some (some (.ref 332))),
  fun K => PySem.W.codeIn K (.ref 331) "_law_reach_by_rule",
  fun K => PySem.W.keepIn K (.ref 332),
  fun K => decide (PySem.W.nsIn K mainGlobals "law" = some (some (.ref 339))),
  fun K => PySem.W.codeIn K (.ref 338) "law",
  fun K => PySem.W.keepIn K (.ref 339),
  fun K => decide (PySem.W.nsIn K mainGlobals "ValueError" = some none),
  fun K => decide (PySem.W.nsIn K mainGlobals "abs" = some none),
  fun K => decide (PySem.W.nsIn K mainGlobals "all" = some none),
  fun K => decide (PySem.W.nsIn K mainGlobals "bool" = some none),
  fun K => decide (PySem.W.nsIn K mainGlobals "int" = some none),
  fun K => decide (PySem.W.nsIn K mainGlobals "isinstance" = some none),
  fun K => decide (PySem.W.nsIn K mainGlobals "len" = some none),
  fun K => decide (PySem.W.nsIn K mainGlobals "list" = some none),
  fun K => decide (PySem.W.nsIn K mainGlobals "max" = some none),
  fun K => decide (PySem.W.nsIn K mainGlobals "min" = some none),
  fun K => decide (PySem.W.nsIn K mainGlobals "range" = some none),
  fun K => decide (PySem.W.nsIn K mainGlobals "sorted" = some none),
  fun K => decide (PySem.W.nsIn K mainGlobals "sum" = some none),
  fun K => decide (PySem.W.nsIn K mainGlobals "tuple" = some none),
  fun K => decide (PySem.W.nsIn K mainGlobals "zip" = some none),
  fun K => intB K "MOST_SIZES" 6,
  fun K => decide (PySem.W.nsIn K mainGlobals "NoOrder" = some (some (.ref 37))),
  fun K => decide (PySem.W.subIn K (.ref 37) (.ref 24) = some true),
  fun K => decide (PySem.W.nsIn K mainGlobals "NoNumber" = some (some (.ref 49))),
  fun K => decide (PySem.W.subIn K (.ref 49) (.ref 24) = some true),
  fun K => decide (PySem.W.nsIn K mainGlobals "NoPairs" = some (some (.ref 61))),
  fun K => decide (PySem.W.subIn K (.ref 61) (.ref 24) = some true),
  fun K => decide (PySem.W.nsIn K mainGlobals "Round" = some (some (.ref 73))),
  fun K => decide (PySem.W.subIn K (.ref 73) (.ref 24) = some true),
  fun K => decide (PySem.W.nsIn K mainGlobals "NoThing" = some (some (.ref 85))),
  fun K => decide (PySem.W.subIn K (.ref 85) (.ref 24) = some true),
  fun K => decide (PySem.W.nsIn K mainGlobals "NoRow" = some (some (.ref 97))),
  fun K => decide (PySem.W.subIn K (.ref 97) (.ref 24) = some true),
  fun K => decide (PySem.W.nsIn K mainGlobals "TooMany" = some (some (.ref 145))),
  fun K => decide (PySem.W.subIn K (.ref 145) (.ref 24) = some true),
  fun K => decide (PySem.W.nsIn K mainGlobals "TooFew" = some (some (.ref 157))),
  fun K => decide (PySem.W.subIn K (.ref 157) (.ref 24) = some true),
  fun K => decide (PySem.W.nsIn K mainGlobals "NoText" = some (some (.ref 169))),
  fun K => decide (PySem.W.subIn K (.ref 169) (.ref 24) = some true),
  fun K => decide (PySem.W.nsIn K mainGlobals "NoLine" = some (some (.ref 181))),
  fun K => decide (PySem.W.subIn K (.ref 181) (.ref 24) = some true),
  fun K => decide (PySem.W.nsIn K mainGlobals "NoDeed" = some (some (.ref 193))),
  fun K => decide (PySem.W.subIn K (.ref 193) (.ref 24) = some true),
  fun K => decide (PySem.W.nsIn K mainGlobals "NoSeating" = some (some (.ref 109))),
  fun K => decide (PySem.W.subIn K (.ref 109) (.ref 24) = some true),
  fun K => decide (PySem.W.nsIn K mainGlobals "NoRing" = some (some (.ref 121))),
  fun K => decide (PySem.W.subIn K (.ref 121) (.ref 24) = some true),
  fun K => decide (PySem.W.nsIn K mainGlobals "NoSizes" = some (some (.ref 133))),
  fun K => decide (PySem.W.subIn K (.ref 133) (.ref 24) = some true),
  fun K => PySem.W.excIn K 133 bmW "ValueError.__new__",
  fun K => decide (PySem.W.findIn K (.ref 133) "__getattribute__" = some (some (.builtin "BaseException.__getattribute__"))),
  fun K => decide (PySem.W.findIn K (.ref 133) "__getattr__" = some none),
  fun K => decide (PySem.W.findIn K (.ref 133) "__class__" = some (some (.builtin "object.__class__"))),
  fun K => decide (PySem.W.mroIn K 133 (.type "object") = some true),
  fun K => decide (PySem.W.subIn K (.ref 133) (.type "BaseException") = some true),
  fun K => decide (PySem.W.kitCls K (.ref 133) (.ref 133) = some true),
  fun K => clsB K 133,
  fun K => decide (PySem.W.kitOne K (.ref 133) (.type "ValueError") = some true),
  fun K => decide (PySem.W.kitOne K (.ref 133) (.ref 37) = some false),
  fun K => decide (PySem.W.kitOne K (.ref 133) (.ref 49) = some false),
  fun K => decide (PySem.W.kitOne K (.ref 133) (.ref 61) = some false),
  fun K => decide (PySem.W.kitOne K (.ref 133) (.ref 73) = some false),
  fun K => decide (PySem.W.kitOne K (.ref 133) (.ref 85) = some false),
  fun K => decide (PySem.W.kitOne K (.ref 133) (.ref 97) = some false),
  fun K => decide (PySem.W.kitOne K (.ref 133) (.ref 145) = some false),
  fun K => decide (PySem.W.kitOne K (.ref 133) (.ref 157) = some false),
  fun K => decide (PySem.W.kitOne K (.ref 133) (.ref 169) = some false),
  fun K => decide (PySem.W.kitOne K (.ref 133) (.ref 181) = some false),
  fun K => decide (PySem.W.kitOne K (.ref 133) (.ref 193) = some false),
  fun K => decide (PySem.W.kitOne K (.ref 133) (.ref 109) = some false),
  fun K => decide (PySem.W.kitOne K (.ref 133) (.ref 121) = some false),
  fun K => decide (PySem.W.kitOne K (.ref 133) (.ref 133) = some true),
  fun K => decide (PySem.W.subIn K (.ref 24) (.type "BaseException") = some true),
  fun K => decide (PySem.W.subIn K (.type "type") (.type "tuple") = some false),
  fun K => decide (PySem.W.kitCls K (.ref 24) (.ref 24) = some true),
  fun K => tabB K 338 334]
def obN (K : Frag) : List (Option FuncData) := [fob K 202,fob K 209,fob K 214,fob K 221,fob K 228,fob K 235,fob K 242,fob K 249,fob K 256,fob K 263,fob K 268,fob K 275,fob K 282,fob K 289,fob K 296,fob K 303,fob K 308,fob K 315,fob K 320,fob K 325,fob K 332,fob K 339]
def obX : List (Option FuncData) := [fE PySem.Challenge.pw_nearorders_k71_numbers_by_rule 17 201,fE PySem.Challenge.pw_nearorders_k71_numbers_by_rule 18 208,fE PySem.Challenge.pw_nearorders_k71_numbers_by_rule 21 213,fE PySem.Challenge.pw_nearorders_k71_numbers_by_rule 22 220,fE PySem.Challenge.pw_nearorders_k71_numbers_by_rule 23 227,fE PySem.Challenge.pw_nearorders_k71_numbers_by_rule 25 234,fE PySem.Challenge.pw_nearorders_k71_numbers_by_rule 26 241,fE PySem.Challenge.pw_nearorders_k71_numbers_by_rule 27 248,fE PySem.Challenge.pw_nearorders_k71_numbers_by_rule 28 255,fE PySem.Challenge.pw_nearorders_k71_numbers_by_rule 29 262,fE PySem.Challenge.pw_nearorders_k71_numbers_by_rule 30 267,fE PySem.Challenge.pw_nearorders_k71_numbers_by_rule 31 274,fE PySem.Challenge.pw_nearorders_k71_numbers_by_rule 32 281,fE PySem.Challenge.pw_nearorders_k71_numbers_by_rule 33 288,fE PySem.Challenge.pw_nearorders_k71_numbers_by_rule 34 295,fE PySem.Challenge.pw_nearorders_k71_numbers_by_rule 35 302,fE PySem.Challenge.pw_nearorders_k71_numbers_by_rule 36 307,fE PySem.Challenge.pw_nearorders_k71_numbers_by_rule 37 314,fE PySem.Challenge.pw_nearorders_k71_numbers_by_rule 38 319,fE PySem.Challenge.pw_nearorders_k71_numbers_by_rule 39 324,fE PySem.Challenge.pw_nearorders_k71_numbers_by_rule 40 331,fE PySem.Challenge.pw_nearorders_k71_numbers_by_rule 41 338]
def ob (K : Frag) : Bool × List (Option FuncData) := (obF.all (fun f => f K),obN K)
abbrev obE : Bool × List (Option FuncData) := (true,obX)
theorem left : LeftO PySem.Challenge.pw_nearorders_k71_numbers_by_rule vw [] Xw (fun s => ob (frg s.heap)) (fun _ => obE) 8000:= fun w => by
  rw [zg8,Fast.te4187177175401517315]; kernel_rfl
end L2.Mr.K71
namespace L2
open PySem PySem.Spec PyProof.Rows
abbrev Key := Sum Int Str
def zjh : Key→Value→Bool
  | .inl k,v => Value.isInt k v
  | .inr x,v => Value.isStrOf x v
def keyH (w : World) : Key→Int
  | .inl k => hashInt k
  | .inr x => hashStr w x
theorem z10 : ∀ {k : Key} {v : Value},zjh k v = true→(∃ i t,k = Sum.inl i∧v = Value.int i t) ∨ (∃ x t,k = Sum.inr x∧v = Value.str x t)
  | .inl i,v,h => by
    obtain ⟨t,e⟩ := Value.isInt_shape (k := i) (v := v) h
    exact .inl ⟨i,t,rfl,e⟩
  | .inr x,v,h => by
    obtain ⟨t,e⟩ := Value.isStrOf_shape (x := x) (v := v) h
    exact .inr ⟨x,t,rfl,e⟩
theorem zji (a b : Int) : decide ((Sum.inl a : Key) = Sum.inl b) = (a == b):= by
  by_cases e : a = b
  · subst e; simp
  · have h : ¬ (Sum.inl a : Key) = Sum.inl b:= fun q => e (Sum.inl.inj q)
    rw [decide_eq_false h]
    exact (beq_eq_false_iff_ne.mpr e).symm
theorem zjj (a b : Str) : decide ((Sum.inr a : Key) = Sum.inr b) = decide (a = b):= by
  by_cases e : a = b
  · subst e; simp
  · have h : ¬ (Sum.inr a : Key) = Sum.inr b:= fun q => e (Sum.inr.inj q)
    rw [decide_eq_false h,decide_eq_false e]
theorem zjk (a : Int) (b : Str) : decide ((Sum.inl a : Key) = Sum.inr b) = false := decide_eq_false (fun q => nomatch q)
theorem zjl (a : Str) (b : Int) : decide ((Sum.inr a : Key) = Sum.inl b) = false := decide_eq_false (fun q => nomatch q)
def z7n (prog : Program) (w : World) : PySem.KeyKind prog w Key where
  is := zjh
  hash := keyH w
  inj:= fun v a b ha hb => by
    rcases z10 ha with ⟨i,t,rfl,rfl⟩ | ⟨x,t,rfl,rfl⟩
    · rcases z10 hb with ⟨j,u,rfl,e⟩ | ⟨y,u,rfl,e⟩
      · injection e with e1 _; rw [e1]
      · exact nomatch e
    · rcases z10 hb with ⟨j,u,rfl,e⟩ | ⟨y,u,rfl,e⟩
      · exact nomatch e
      · injection e with e1 _; rw [e1]
  byValue:= fun k v h => by
    rcases z10 h with ⟨i,t,rfl,rfl⟩ | ⟨x,t,rfl,rfl⟩ <;> rfl
  pyHash:= fun hv h => by
    rcases z10 hv with ⟨i,t,rfl,rfl⟩ | ⟨x,t,rfl,rfl⟩
    · exact wpAny_pyHash_int h
    · exact wpAny_pyHash_str h
  eqBool:= fun hu hv h => by
    rcases z10 hu with ⟨i,t,rfl,rfl⟩ | ⟨x,t,rfl,rfl⟩
    · rcases z10 hv with ⟨j,u,rfl,rfl⟩ | ⟨y,u,rfl,rfl⟩
      · rw [zji] at h; exact wpAny_eqBool_int h
      · rw [zjk] at h; exact SeqAt.EqAt.int_str i t y u _ _ _ _ h
    · rcases z10 hv with ⟨j,u,rfl,rfl⟩ | ⟨y,u,rfl,rfl⟩
      · rw [zjl] at h; exact SeqAt.EqAt.str_int x t j u _ _ _ _ h
      · rw [zjj] at h; exact wpAny_eqBool_str h
  «strs»:= fun k x t v h => by
    rcases z10 h with ⟨i,u,rfl,e⟩ | ⟨y,u,rfl,e⟩
    · exact nomatch e
    · injection e with e1 _
      subst e1
      cases v <;> rfl
inductive V where
  | non | bl (b : Bool) | int (i : Int) | str (x : Str) | byt (b : Array UInt8) | flt (b : UInt64) | ref (a : Addr) | ty (n : String)
  deriving DecidableEq
def RelV : V→Value→Prop
  | .non,u => u = Value.none
  | .bl b,u => u = Value.bool b
  | .int i,u => ∃ t,u = Value.int i t
  | .str x,u => ∃ t,u = Value.str x t
  | .byt b,u => ∃ t,u = Value.bytes b t
  | .flt b,u => ∃ t,u = Value.float b t
  | .ref a,u => u = Value.ref a
  | .ty n,u => u = Value.type n
abbrev Vals : List V→List Value→Prop := Paired RelV
theorem Vals.length {xs : List V} {us : List Value} (r : Vals xs us) : xs.length = us.length := Paired.length r
theorem Vals.get : ∀ {xs : List V} {us : List Value} {i : Nat} {x : V},Vals xs us→xs[i]? = some x→∃ u,us[i]? = some u∧RelV x u
  | _,_,_,_,.nil,e => by simp at e
  | _,_,0,_,.cons r _,e => by simp at e; subst e; exact ⟨_,rfl,r⟩
  | _,_,i + 1,x,.cons _ t,e => by
    obtain ⟨u,h1,h2⟩ := Vals.get (i := i) (x := x) t (by simpa using e)
    exact ⟨u,by simpa using h1,h2⟩
theorem Vals.set {x : V} {u : Value} (r : RelV x u) : ∀ {xs : List V} {us : List Value} (i : Nat),Vals xs us→Vals (xs.set i x) (us.set i u)
  | _,_,_,.nil => .nil
  | _,_,0,.cons _ t => .cons r t
  | _,_,i + 1,.cons q t => .cons q (Vals.set r i t)
theorem Vals.append : ∀ {xs ys : List V} {us ws : List Value},Vals xs us→Vals ys ws→Vals (xs ++ ys) (us ++ ws)
  | _,_,_,_,.nil,s => s
  | _,_,_,_,.cons r t,s => .cons r (Vals.append t s)
theorem Vals.take : ∀ {xs : List V} {us : List Value} (n : Nat),Vals xs us→Vals (xs.take n) (us.take n)
  | _,_,0,_ => .nil
  | _,_,_ + 1,.nil => .nil
  | _,_,n + 1,.cons r t => .cons r (Vals.take n t)
theorem Vals.drop : ∀ {xs : List V} {us : List Value} (n : Nat),Vals xs us→Vals (xs.drop n) (us.drop n)
  | _,_,0,r => r
  | _,_,_ + 1,.nil => .nil
  | _,_,n + 1,.cons _ t => Vals.drop n t
def RelO : Option V→Option Value→Prop
  | some v,some u => RelV v u
  | none,none => True
  | _,_ => False
def KV {κ : Type} : List (κ × V)→List (κ × Value)→Prop := Paired fun (p : κ × V) (q : κ × Value) => p.1 = q.1∧RelV p.2 q.2
def kV : Key→V
  | .inl i => .int i
  | .inr x => .str x
inductive HO where
  | lst (xs : List V)
  | tup (xs : List V)
  | dK (kvs : List (Key × V)) | dT (kvs : List (List Key × V))
  | set (S : Int→Bool) (n : Nat)
  | ins (C dx : Addr) (fs : List (Str × V))
  | own (x : Addr)
  | xd (fs : List (Str × V))
  | met (f x : Addr)
  | rng (lo hi : Int)
  | frz (o : Obj) (u : HO)
  | tbl (ps : Array Value)
  | ext (φ : Heap→Prop)
abbrev Hp := Addr→Option HO
def upd (H : Hp) (a : Addr) (o : HO) : Hp:= fun b => if b = a then some o else H b
theorem z0i {H : Hp} {a : Addr} {o : HO} : upd H a o a = some o := by unfold upd; rw [if_pos rfl]
theorem z0g {H : Hp} {a b : Addr} {o : HO} (h : b ≠ a) : upd H a o b = H b := by unfold upd; rw [if_neg h]
theorem z6l {H : Hp} {a b : Addr} {o u : HO} (h : H a = some o) (h' : H b = some u) (d : o ≠ u) : a ≠ b:= by
  intro e; subst e; rw [h] at h'; exact d (Option.some.inj h')
theorem z0j {H : Hp} {a b : Addr} {o : HO} (h : H a = some o) (h' : H b = none) : a ≠ b:= by
  intro e; subst e; rw [h] at h'; cases h'
def IsTupX (h : Heap) (a : Addr) (items : Array Value) : Prop := ∃ o,h.get? a = some o∧o.cls = .type "tuple"∧o.dict = none∧∃ n,o.data = .seq items n
theorem IsTupX.tup {h : Heap} {a : Addr} {items : Array Value} (x : IsTupX h a items) : IsTup h a items := let ⟨o,e,c,_,d⟩ := x; ⟨o,e,c,d⟩
theorem IsTupX.lt {h : Heap} {a : Addr} {items : Array Value} (x : IsTupX h a items) : a < h.objs.size := let ⟨_,e,_⟩ := x; Heap.lt_size e
theorem IsTupX.new (h : Heap) (items : Array Value) : IsTupX (h.push { cls := .type "tuple",data := .seq items }) h.objs.size items := ⟨_,Heap.get?_push_size _ rfl,rfl,rfl,_,rfl⟩
section
variable (P : Program) (w : World)
def ObjOk (H : Hp) (h : Heap) (a : Addr) : HO→Prop
  | .lst xs => xs.length ≤ sizeLine∧∃ (its : List Value) (n : Nat),Vals xs its∧h.get? a = some { cls := .type "list",data := .seq its.toArray n }
  | .tup xs => xs.length ≤ sizeLine∧∃ its : List Value,Vals xs its∧IsTupX h a its.toArray
  | .dK kvs => kvs.length ≤ sizeLine∧(a == sysModules) = false∧∃ vs,KV kvs vs∧h.DictOf (z7n P w) a vs
  | .dT kvs => kvs.length ≤ sizeLine∧(a == sysModules) = false∧∃ xs : List (List Key × Addr × Value),
      Paired (fun (p : List Key × V) (q : List Key × Addr × Value) => p.1 = q.1∧H q.2.1 = some (.tup (p.1.map kV))∧RelV p.2 q.2.2) kvs xs ∧
      ∃ o es ep,h.get? a = some o∧o.ExactDict∧o.data = .dict es ep∧es.toList = xs.map (entryOfKey (tupleKind (z7n P w)))∧(xs.map (·.1)).Nodup
  | .set S n => h.SetOf (intKind P w) a S n
  | .ins C dx fs => H dx = some (.own a)∧fs.length ≤ 1000∧dx ≠ a∧h.get? a = some (PySem.W.instObj C dx) ∧
      ∃ mA,h.Ns1 dx mA∧(∀ f,RelO (fs.lookup f) (mA f))∧PySem.Within mA (fs.map (·.1))
  | .own _ => ∃ o,h.get? a = some o
  | .xd fs => ∃ mA,h.Ns1 a mA∧∀ f,RelO (fs.lookup f) (mA f)
  | .rng lo hi => ∃ t u v,h.get? a = some { cls := .type "range",data := .fields #[.int lo t,.int hi u,.int 1 v] }
  | .frz o u => h.get? a = some o∧ObjOk H h a u
  | .tbl ps => h.get? a = some { cls := .none,data := .fields ps }
  | .met f x => h.get? a = some (PySem.W.methodObj (.ref f) (.ref x))
  | .ext φ => φ h∧(∃ o,h.get? a = some o)∧∀ h1 h2 : Heap,φ h1→(∀ o,h1.get? a = some o→h2.get? a = some o)→φ h2
def HOk (H : Hp) (h : Heap) : Prop := ∀ a o,H a = some o→ObjOk P w H h a o
end
section
variable {P : Program} {w : World} {H H' : Hp} {h h' : Heap} {a : Addr} {o : HO}
theorem ObjOk.lt (x : ObjOk P w H h a o) : a < h.objs.size:= by
  cases o with
  | lst xs => obtain ⟨_,_,_,_,e⟩ := x; exact Heap.lt_size e
  | tup xs => obtain ⟨_,_,_,p⟩ := x; exact p.lt
  | dK kvs => obtain ⟨_,_,_,_,o,_,_,e,_⟩ := x; exact Heap.lt_size e
  | dT kvs => obtain ⟨_,_,_,_,o,_,_,e,_⟩ := x; exact Heap.lt_size e
  | set S n => obtain ⟨o,_,_,_,e,_⟩ := x; exact Heap.lt_size e
  | ins C dx fs => obtain ⟨_,_,_,e,_⟩ := x; exact Heap.lt_size e
  | own y => obtain ⟨_,e⟩ := x; exact Heap.lt_size e
  | xd fs => obtain ⟨_,⟨_,_,_,e,_⟩,_⟩ := x; exact Heap.lt_size e
  | rng lo hi => obtain ⟨_,_,_,e⟩ := x; exact Heap.lt_size e
  | frz ob u => obtain ⟨e,_⟩ := x; exact Heap.lt_size e
  | tbl ps => exact Heap.lt_size (show h.get? a = some _ from x)
  | met f y => exact Heap.lt_size (show h.get? a = some _ from x)
  | ext φ => obtain ⟨_,⟨_,e⟩,_⟩ := x; exact Heap.lt_size e
theorem Paired.mapP {α β : Type} {F G : α→β→Prop} : ∀ {l₁ : List α} {l₂ : List β},Paired F l₁ l₂→(∀ a b,F a b→G a b)→Paired G l₁ l₂
  | _,_,.nil,_ => .nil
  | _,_,.cons r t,f => .cons (f _ _ r) (Paired.mapP t f)
theorem ObjOk.stay (x : ObjOk P w H h a o) (k : ∀ b u,(b = a ∨ H b = some (.own a))→h.get? b = some u→h'.get? b = some u)
    (ho : ∀ b,H b = some (.own a)→H' b = some (.own a)) (ht : ∀ b xs,H b = some (.tup xs)→H' b = some (.tup xs)) : ObjOk P w H' h' a o:= by
  induction o with
  | lst xs => obtain ⟨z,its,n,r,e⟩ := x; exact ⟨z,its,n,r,k _ _ (.inl rfl) e⟩
  | tup xs => obtain ⟨z,its,r,ob,e,c⟩ := x; exact ⟨z,its,r,ob,k _ _ (.inl rfl) e,c⟩
  | dK kvs => obtain ⟨z,y,vs,r,ob,es,ep,e,c⟩ := x; exact ⟨z,y,vs,r,ob,es,ep,k _ _ (.inl rfl) e,c⟩
  | dT kvs =>
    obtain ⟨z,y,xs,r,ob,es,ep,e,c⟩ := x
    exact ⟨z,y,xs,Paired.mapP r fun p q z => ⟨z.1,ht _ _ z.2.1,z.2.2⟩,ob,es,ep,k _ _ (.inl rfl) e,c⟩
  | set S n => obtain ⟨ob,es,ep,t,e,c⟩ := x; exact ⟨ob,es,ep,t,k _ _ (.inl rfl) e,c⟩
  | ins C dx fs =>
    obtain ⟨d,z,ne,e,mA,⟨od,es,ep,e2,c⟩,r⟩ := x
    exact ⟨ho _ d,z,ne,k _ _ (.inl rfl) e,mA,⟨od,es,ep,k _ _ (.inr d) e2,c⟩,r⟩
  | own y => obtain ⟨ob,e⟩ := x; exact ⟨ob,k _ _ (.inl rfl) e⟩
  | xd fs => obtain ⟨mA,⟨od,es,ep,e,c⟩,r⟩ := x; exact ⟨mA,⟨od,es,ep,k _ _ (.inl rfl) e,c⟩,r⟩
  | rng lo hi => obtain ⟨t,u,v,e⟩ := x; exact ⟨t,u,v,k _ _ (.inl rfl) e⟩
  | frz ob u ih => obtain ⟨e,q⟩ := x; exact ⟨k _ _ (.inl rfl) e,ih q⟩
  | tbl ps =>
    have e : h.get? a = some { cls := .none,data := .fields ps } := x
    show h'.get? a = some { cls := .none,data := .fields ps }
    exact k a _ (.inl rfl) e
  | met f y =>
    have e : h.get? a = some (PySem.W.methodObj (.ref f) (.ref y)) := x
    show h'.get? a = some (PySem.W.methodObj (.ref f) (.ref y))
    exact k a _ (.inl rfl) e
  | ext φ => obtain ⟨p,⟨o,e⟩,st⟩ := x; exact ⟨st _ _ p fun o q => k _ _ (.inl rfl) q,⟨o,k _ _ (.inl rfl) e⟩,st⟩
theorem HOk.lt (x : HOk P w H h) (e : H a = some o) : a < h.objs.size := (x a o e).lt
theorem HOk.fresh (x : HOk P w H h) (e : h.objs.size ≤ a) : H a = none:= by
  cases q : H a with
  | none => rfl
  | some u => exact absurd (Nat.lt_of_lt_of_le (x.lt q) e) (Nat.lt_irrefl _)
theorem HOk.kept (x : HOk P w H h) (k : ∀ b u,h.get? b = some u→h'.get? b = some u) : HOk P w H h':= fun a o e =>
  (x a o e).stay (fun b u _ q => k b u q) (fun _ q => q) fun _ _ q => q
theorem HOk.laid (x : HOk P w H h) (k : ∀ b u,h.get? b = some u→h'.get? b = some u) (hp : h.objs.size ≤ a) (new : ObjOk P w (upd H a o) h' a o) : HOk P w (upd H a o) h':= fun b u e => by
  have hn := x.fresh hp
  by_cases hb : b = a
  · subst hb; rw [z0i] at e; cases e; exact new
  · rw [z0g hb] at e
    exact (x b u e).stay (fun c v _ q => k c v q) (fun c q => by rw [z0g (z0j q hn)]; exact q) fun c xs q => by rw [z0g (z0j q hn)]; exact q
end
def Rd (H : Hp) (a : Addr) (u : HO) : Prop := H a = some u ∨ ∃ o,H a = some (.frz o u)
theorem Rd.of {H : Hp} {a : Addr} {u : HO} (h : H a = some u) : Rd H a u := .inl h
theorem Rd.ok {P : Program} {w : World} {H : Hp} {h : Heap} {a : Addr} {u : HO} (r : Rd H a u) (x : HOk P w H h) : ObjOk P w H h a u:= by
  rcases r with r | ⟨o,r⟩
  · exact x a u r
  · obtain ⟨_,q⟩ := x a _ r
    exact q
def Mut : Option HO→Prop
  | some (.lst _) => True
  | some (.dK _) => True
  | some (.dT _) => True
  | some (.set _ _) => True
  | some (.ins _ _ _) => True
  | some (.ext _) => True
  | _ => False
section
variable {P : Program} {w : World} {H : Hp} {h h' : Heap} {x e : Addr} {o' : HO}
theorem HOk.write (ok : HOk P w H h) (mu : Mut (H x)) (he : e = x ∨ H e = some (.own x)) (k : ∀ b u,b ≠ e→h.get? b = some u→h'.get? b = some u) (heo : ∃ u,h'.get? e = some u)
    (new : ObjOk P w (upd H x o') h' x o') : HOk P w (upd H x o') h':= fun b u q => by
  have nown : ∀ c y,H c = some (.own y)→c ≠ x:= fun c y r z => by subst z; rw [r] at mu; exact mu
  have ntup : ∀ c xs,H c = some (.tup xs)→c ≠ x:= fun c xs r z => by subst z; rw [r] at mu; exact mu
  by_cases hb : b = x
  · subst hb; rw [z0i] at q; cases q; exact new
  · rw [z0g hb] at q
    by_cases hbe : b = e
    · have q' : H b = some (.own x):= by
        rcases he with z | z
        · exact absurd (hbe.trans z) hb
        · rw [hbe]; exact z
      rw [q] at q'; cases q'
      obtain ⟨v,hv⟩ := heo
      exact ⟨v,by rw [hbe]; exact hv⟩
    · refine (ok b u q).stay (fun c v hc r => k c v ?_ r) (fun c r => by rw [z0g (nown c b r)]; exact r) fun c xs r => by rw [z0g (ntup c xs r)]; exact r
      rcases hc with rfl | hc
      · exact hbe
      · rintro rfl
        rcases he with z | z
        · exact nown c b hc z
        · rw [hc] at z; cases z; exact hb rfl
end
structure Un (fs ex : List Addr) (H H' : Hp) (h h' : Heap) : Prop where
  keep : ∀ b o,h.get? b = some o→H b = none→b ∉ fs→b ∉ ex→h'.get? b = some o
  slot : ∀ b o,h.get? b = some o→H b = none→b ∈ fs→b ∉ ex→∃ sl,h'.get? b = some { o with slots := sl }
  free : ∀ b o,h.get? b = some o→H b = none→b ∉ ex→H' b = none
  there : ∀ b o,h.get? b = some o→b ∉ ex→∃ o',h'.get? b = some o'
  tups : ∀ b xs,H b = some (.tup xs)→H' b = some (.tup xs)
  frzs : ∀ b o u,H b = some (.frz o u)→H' b = some (.frz o u)
  tbls : ∀ b ps,H b = some (.tbl ps)→∃ more,H' b = some (.tbl (ps ++ more))
section
variable {fs fs' ex ex' : List Addr} {H H1 H2 : Hp} {h h1 h2 h' : Heap} {a x e : Addr} {o : HO}
theorem Un.any (u : Un fs ex H H1 h h1) {b : Addr} {ob : Obj} (q : h.get? b = some ob) (n : H b = none) (hx : b ∉ ex) : ∃ sl,h1.get? b = some { ob with slots := sl }:= by
  by_cases hb : b ∈ fs
  · exact u.slot b ob q n hb hx
  · exact ⟨ob.slots,u.keep b ob q n hb hx⟩
theorem Un.kept (k : ∀ b u,h.get? b = some u→h'.get? b = some u) : Un fs ex H H h h' :=
  ⟨fun b ob q _ _ _ => k b ob q,fun b ob q _ _ _ => ⟨ob.slots,k b ob q⟩,fun _ _ _ n _ => n,fun b ob q _ => ⟨ob,k b ob q⟩,fun _ _ q => q,fun _ _ _ q => q,fun _ ps q => ⟨#[],by rw [q]; simp⟩⟩
theorem Un.refl : Un fs ex H H h h := Un.kept fun _ _ q => q
theorem Un.laid (k : ∀ b u,h.get? b = some u→h'.get? b = some u) (hp : h.objs.size ≤ a) (hn : H a = none) : Un fs ex H (upd H a o) h h' where
  keep:= fun b u q _ _ _ => k b u q
  slot:= fun b u q _ _ _ => ⟨u.slots,k b u q⟩
  free:= fun b u q n _ => by rw [z0g (Nat.ne_of_lt (Nat.lt_of_lt_of_le (Heap.lt_size q) hp))]; exact n
  there:= fun b u q _ => ⟨u,k b u q⟩
  tups:= fun b xs q => by rw [z0g (z0j q hn)]; exact q
  frzs:= fun b u xs q => by rw [z0g (z0j q hn)]; exact q
  tbls:= fun b ps q => ⟨#[],by rw [z0g (z0j q hn),q]; simp⟩
theorem Un.write (mu : Mut (H x)) (he : e = x ∨ H e = some (.own x)) (k : ∀ b u,b ≠ e→h.get? b = some u→h'.get? b = some u) (heo : ∃ u,h'.get? e = some u) : Un fs ex H (upd H x o) h h':= by
  have hx : ∀ b,H b = none→b ≠ x:= fun b n z => by subst z; rw [n] at mu; exact mu
  have hb : ∀ b,H b = none→b ≠ e:= fun b n z => by
    subst z
    rcases he with r | r
    · exact hx b n r
    · rw [n] at r; cases r
  have hm : ∀ b u,H b = some u→¬ Mut (some u)→b ≠ x:= fun b u q nm z => by subst z; rw [q] at mu; exact nm mu
  refine ⟨fun b u q n _ _ => k b u (hb b n) q,fun b u q n _ _ => ⟨u.slots,k b u (hb b n) q⟩,fun b u q n _ => by rw [z0g (hx b n)]; exact n,fun b u q _ => ?_,
    fun b xs q => by rw [z0g (hm b _ q fun z => z)]; exact q,fun b u xs q => by rw [z0g (hm b _ q fun z => z)]; exact q,fun b ps q => ⟨#[],by rw [z0g (hm b _ q fun z => z),q]; simp⟩⟩
  by_cases hbe : b = e
  · subst hbe; exact heo
  · exact ⟨u,k b u hbe q⟩
theorem Un.mono (u : Un fs ex H H1 h h1) (hs : ∀ b ∈ fs,b ∈ fs') (hx : ∀ b ∈ ex,b ∈ ex') : Un fs' ex' H H1 h h1 :=
  ⟨fun b ob q n hb he => u.keep b ob q n (fun z => hb (hs b z)) fun z => he (hx b z),fun _ _ q n _ he => u.any q n fun z => he (hx _ z),fun b ob q n he => u.free b ob q n fun z => he (hx b z),fun b ob q he => u.there b ob q fun z => he (hx b z),u.tups,u.frzs,u.tbls⟩
end
def trk (h : Heap) (H : Hp) : List Addr := (List.range h.objs.size).filter fun a => (H a).isSome
def hidT (h : Heap) (H : Hp) : Heap := PySem.W.hideAll h (trk h H)
theorem za1 (h : Heap) (H : Hp) : (hidT h H).objs.size = h.objs.size := PySem.W.hideAll_size _ _
theorem zcq {h : Heap} {H : Hp} {b : Addr} {o : Obj} (e : h.get? b = some o) (n : H b = none) : (hidT h H).get? b = some o :=
  PySem.W.hideAll_get _ e fun hm => by
    have q : (H b).isSome = true := (List.mem_filter.mp hm).2
    rw [n] at q; simp at q
theorem zg9 {h : Heap} {H : Hp} {b : Addr} {o : Obj} (e : (hidT h H).get? b = some o) : h.get? b = some o∧H b = none:= by
  have e' : h.get? b = some o := PySem.W.of_hideAll (trk h H) e
  refine ⟨e', ?_⟩
  cases q : H b with
  | none => rfl
  | some x =>
    have hm : b ∈ trk h H := List.mem_filter.mpr ⟨List.mem_range.mpr (Heap.lt_size e'),by simp [q]⟩
    have z : (hidT h H).get? b = none := PySem.W.hideAll_none (trk h H) hm
    rw [z] at e; cases e
structure Mod (K : PySem.W.Frag) (mg : Str→Option Value) (base : Heap) : Prop where
  kin : K.In base
  glob : base.Ns mainGlobals mg
  blt : ∃ mb,base.Ns builtinsNs mb∧∀ x : Str,x ≠ "__name__"→mb x = bootBuiltins x
  nolimit : base.NoLimit
structure Cx where
  prog : Program
  w : World
  K : PySem.W.Frag
  mg : Str→Option Value
  base : Heap
  A : Around
  N : List Str
  s₀ : Shared
  H₀ : Hp
  env : Env
  outer : List Env
  stack : List Env
  ex : List Addr
  fn : Str→Bool
  calm : Bool
  pn : List (Addr × Obj)
  xe : Value→Shared→Prop
def frs (l : List Env) : List Addr := l.filterMap (·.frame)
abbrev Cx.fs (X : Cx) : List Addr := frs X.outer
def Vis (sc : Scope) (x : Str) : Prop := sc.names.lookup x = some .local ∨ sc.names.lookup x = some .cell ∨ sc.names.lookup x = some .free
def Loc (sc : Scope) (x : Str) : Prop := sc.names.lookup x = some .local ∨ sc.names.lookup x = some .cell
def Look (env : Env) (h : Heap) (m : Str→Option Value) (x : Str) (u : Value) : Prop :=
  (env.kindOf x = some .local∧m x = some u) ∨ ((env.kindOf x = some .cell ∨ env.kindOf x = some .free)∧∃ c,env.cells.lookup x = some c∧h.IsCell c (some u))
structure Cx.Ok (X : Cx) : Prop where
  mod : Mod X.K X.mg X.base
  kind : X.env.scope.kind = .function
  glob : X.env.globals = mainGlobals
  blt : X.env.builtins = builtinsNs
  above : X.s₀.heap.objs.size ≤ X.env.locals
  inj : ∀ x y c,X.env.cells.lookup x = some c→X.env.cells.lookup y = some c→x = y
  has : ∀ x,(X.env.kindOf x = some .cell ∨ X.env.kindOf x = some .free)→∃ c,X.env.cells.lookup x = some c
  cab : ∀ x c,X.fn x = true→X.env.cells.lookup x = some c→X.s₀.heap.objs.size ≤ c
  hd : X.calm = true→X.A.handled = none
  frames : X.A.frames = some X.stack
  stk : X.stack = X.outer ∨ (X.stack = X.env :: X.outer∧X.env.frame = some X.env.locals)
  exf : ∀ b ∈ X.ex,b ≠ X.env.locals∧∀ x c,X.env.cells.lookup x = some c→c ≠ b
  bs : ∀ b o,X.base.get? b = some o→X.s₀.heap.get? b = some o∧X.H₀ b = none
  bsz : X.base.objs.size ≤ X.s₀.heap.objs.size
  noex : ∀ b o,X.base.get? b = some o→b ∉ X.ex
  exfs : ∀ b ∈ X.ex,b ∉ X.fs
  funs : X.s₀.heap.FunFrames X.base X.outer
  frf : ∀ b ∈ X.fs,X.H₀ b = none
structure Inv (X : Cx) (pins : List (Addr × Obj)) (σ : List (Option V)) (H : Hp) (s : Shared) : Prop where
  ok : X.Ok
  os : s.os = X.s₀.os
  bare : AllBare s.gens
  base : Un X.fs X.ex X.H₀ H X.s₀.heap s.heap
  loc : ∃ m,s.heap.Ns X.env.locals m∧∀ (i : Nat) (x : Str) (v : V),X.N[i]? = some x→σ[i]? = some (some v)→Vis X.env.scope x→∃ u,RelV v u∧Look X.env s.heap m x u
  cell : ∀ x c,X.env.cells.lookup x = some c→∃ v,s.heap.IsCell c v
  free : H X.env.locals = none
  freeC : ∀ x c,X.env.cells.lookup x = some c→H c = none
  pin : ∀ p ∈ X.pn ++ pins,s.heap.get? p.1 = some p.2∧H p.1 = none∧p.1 ≠ X.env.locals∧p.1 ∉ X.fs∧∀ v,p.2.data ≠ .cell v
  hok : HOk X.prog X.w H s.heap
  len : σ.length = X.N.length
section
variable {X : Cx} {pins : List (Addr × Obj)} {σ : List (Option V)} {H H' : Hp} {s : Shared} {h' : Heap}
theorem Cx.Ok.nofr (ok : X.Ok) {b : Addr} {o : Obj} (e : X.base.get? b = some o) : b ∉ X.fs:= fun hb => by
  have := (ok.funs.mem hb).1
  rw [e] at this; cases this
theorem Inv.bs (I : Inv X pins σ H s) : ∀ b o,X.base.get? b = some o→s.heap.get? b = some o∧H b = none:= fun b o e =>
  ⟨I.base.keep b o (I.ok.bs b o e).1 (I.ok.bs b o e).2 (I.ok.nofr e) (I.ok.noex b o e),I.base.free b o (I.ok.bs b o e).1 (I.ok.bs b o e).2 (I.ok.noex b o e)⟩
theorem Inv.bk (I : Inv X pins σ H s) : ∀ b o,X.base.get? b = some o→s.heap.get? b = some o:= fun b o e => (I.bs b o e).1
theorem Inv.mod (I : Inv X pins σ H s) : Mod X.K X.mg X.base := I.ok.mod
theorem Inv.kIn (I : Inv X pins σ H s) : X.K.In s.heap := I.ok.mod.kin.keeps I.bk
theorem Inv.lt (I : Inv X pins σ H s) : X.env.locals < s.heap.objs.size := let ⟨_,hn,_⟩ := I.loc; hn.lt
theorem Inv.sz (I : Inv X pins σ H s) : X.s₀.heap.objs.size ≤ s.heap.objs.size := Nat.le_trans I.ok.above (Nat.le_of_lt I.lt)
theorem Inv.nofs (I : Inv X pins σ H s) {a : Addr} (h : s.heap.objs.size ≤ a) : a ∉ X.fs:= fun hb => by
  obtain ⟨_,o,ho,_⟩ := I.ok.funs.mem hb
  exact absurd (Nat.lt_of_lt_of_le (Heap.lt_size ho) (Nat.le_trans I.sz h)) (Nat.lt_irrefl _)
theorem Inv.cne (I : Inv X pins σ H s) : ∀ x c,X.env.cells.lookup x = some c→c ≠ X.env.locals:= fun x c e z => by
  obtain ⟨v,o,ho,hd⟩ := I.cell x c e
  obtain ⟨m,⟨o',es,ep,ho',hd',_⟩,_⟩ := I.loc
  rw [z,ho'] at ho; cases ho; rw [hd'] at hd; cases hd
theorem Inv.funs (I : Inv X pins σ H s) : s.heap.FunFrames X.base X.outer:= by
  have all : ∀ (l : List Env),(∀ b ∈ frs l,b ∈ X.fs)→X.s₀.heap.FunFrames X.base l→s.heap.FunFrames X.base l:= by
    intro l
    induction l with
    | nil => intro _ _; trivial
    | cons env r ih =>
      intro hs hl
      obtain ⟨hk,⟨L,o,hf,hn,ho,hd⟩,hr⟩ := hl
      have hL : L ∈ X.fs := hs L (by unfold frs; rw [List.filterMap_cons,hf]; exact List.mem_cons_self)
      obtain ⟨sl,e⟩ := I.base.slot L o ho (I.ok.frf L hL) hL fun z => I.ok.exfs L z hL
      exact ⟨hk,⟨L,_,hf,hn,e,hd⟩,ih (fun b hb => hs b (by unfold frs; rw [List.filterMap_cons,hf]; exact List.mem_cons_of_mem _ hb)) hr⟩
  exact all X.outer (fun _ hb => hb) I.ok.funs
theorem Inv.stack (I : Inv X pins σ H s) : s.heap.FunFrames X.base X.stack:= by
  rcases I.ok.stk with e | ⟨e,hf⟩
  · rw [e]; exact I.funs
  · rw [e]
    obtain ⟨m,hn,_⟩ := I.loc
    refine .cons (by rw [I.ok.kind]; decide) hf hn ?_ I.funs
    exact Heap.get?_none_of_le (Nat.le_trans I.ok.bsz I.ok.above)
theorem Inv.stkSub (I : Inv X pins σ H s) : ∀ b ∈ frs X.stack,b ∈ X.env.locals :: X.fs:= fun b hb => by
  rcases I.ok.stk with e | ⟨e,hf⟩
  · rw [e] at hb; exact List.mem_cons_of_mem _ hb
  · rw [e] at hb
    unfold frs at hb
    rw [List.filterMap_cons,hf] at hb
    exact hb
theorem Inv.stkFree (I : Inv X pins σ H s) : ∀ b ∈ frs X.stack,H b = none:= fun b hb => by
  rcases List.mem_cons.mp (I.stkSub b hb) with e | hb
  · rw [e]; exact I.free
  · obtain ⟨_,o,ho,_⟩ := I.ok.funs.mem hb
    exact I.base.free b o ho (I.ok.frf b hb) fun z => I.ok.exfs b z hb
theorem Inv.step {g' : Array GenState} {t' : Nat} {d' : Drawn} {ch : List Addr} (I : Inv X pins σ H s)
    (hch : ∀ b ∈ ch,(b ∈ X.ex ∨ X.s₀.heap.objs.size ≤ b)∧b ≠ X.env.locals∧(∀ x c,X.env.cells.lookup x = some c→c ≠ b)∧∀ p ∈ X.pn ++ pins,p.1 ≠ b)
    (keep : ∀ b o,b ≠ X.env.locals→b ∉ X.fs→b ∉ ch→s.heap.get? b = some o→H b = none→h'.get? b = some o)
    (slot : ∀ b o,b ≠ X.env.locals→b ∈ X.fs→b ∉ ch→s.heap.get? b = some o→H b = none→∃ sl,h'.get? b = some { o with slots := sl }) (free : ∀ b o,b ∉ ch→s.heap.get? b = some o→H b = none→H' b = none)
    (there : ∀ b o,b ∉ ch→s.heap.get? b = some o→∃ o',h'.get? b = some o')
    (tups : ∀ b xs,H b = some (.tup xs)→H' b = some (.tup xs)) (frzs : ∀ b o u,H b = some (.frz o u)→H' b = some (.frz o u)) (tbls : ∀ b ps,H b = some (.tbl ps)→∃ more,H' b = some (.tbl (ps ++ more)))
    (ns : ∀ m,s.heap.Ns X.env.locals m→h'.Ns X.env.locals m) (hok : HOk X.prog X.w H' h') (hg : AllBare g') :
    Inv X pins σ H' { s with heap := h',gens := g',drawn := d',toks := t' }:= by
  have neL : ∀ b o,X.s₀.heap.get? b = some o→b ≠ X.env.locals:= fun b o e => Nat.ne_of_lt (Nat.lt_of_lt_of_le (Heap.lt_size e) I.ok.above)
  have neC : ∀ b o,X.s₀.heap.get? b = some o→b ∉ X.ex→b ∉ ch:= fun b o e hx hb => by
    rcases (hch b hb).1 with z | z
    · exact hx z
    · exact absurd (Nat.lt_of_lt_of_le (Heap.lt_size e) z) (Nat.lt_irrefl _)
  have cellK : ∀ x c,X.env.cells.lookup x = some c→∀ v,s.heap.IsCell c v→h'.IsCell c v:= fun x c e v ⟨o,ho,hd⟩ => by
    have nch : c ∉ ch:= fun z => (hch c z).2.2.1 x c e rfl
    by_cases hc : c ∈ X.fs
    · obtain ⟨sl,q⟩ := slot c o (I.cne x c e) hc nch ho (I.freeC x c e)
      exact ⟨_,q,hd⟩
    · exact ⟨o,keep c o (I.cne x c e) hc nch ho (I.freeC x c e),hd⟩
  refine ⟨I.ok,I.os,hg,⟨fun b o e n hb hx => ?_,fun b o e n hb hx => ?_,fun b o e n hx => ?_,fun b o e hx => ?_,fun b xs e => tups b xs (I.base.tups b xs e),fun b o xs e => frzs b o xs (I.base.frzs b o xs e),fun b ps e => ?_⟩, ?_,fun x c e => ?_, ?_,fun x c e => ?_,fun p hp => ?_,hok,I.len⟩
  · exact keep b o (neL b o e) hb (neC b o e hx) (I.base.keep b o e n hb hx) (I.base.free b o e n hx)
  · obtain ⟨sl,e1⟩ := I.base.slot b o e n hb hx
    obtain ⟨sl',e2⟩ := slot b _ (neL b o e) hb (neC b o e hx) e1 (I.base.free b o e n hx)
    exact ⟨sl',e2⟩
  · obtain ⟨o',e1⟩ := I.base.there b o e hx
    exact free b o' (neC b o e hx) e1 (I.base.free b o e n hx)
  · obtain ⟨o',e1⟩ := I.base.there b o e hx
    exact there b o' (neC b o e hx) e1
  · obtain ⟨m1,e1⟩ := I.base.tbls b ps e
    obtain ⟨m2,e2⟩ := tbls b _ e1
    exact ⟨m1 ++ m2,by rw [e2,Array.append_assoc]⟩
  · obtain ⟨m,hn,hl⟩ := I.loc
    refine ⟨m,ns m hn,fun i x v e1 e2 e3 => ?_⟩
    obtain ⟨u,r,l⟩ := hl i x v e1 e2 e3
    refine ⟨u,r, ?_⟩
    rcases l with l | ⟨k,c,e,z⟩
    · exact .inl l
    · exact .inr ⟨k,c,e,cellK x c e _ z⟩
  · obtain ⟨v,z⟩ := I.cell x c e
    exact ⟨v,cellK x c e v z⟩
  · obtain ⟨m,⟨o,_,_,ho,_⟩,_⟩ := I.loc
    exact free _ o (fun z => (hch _ z).2.1 rfl) ho I.free
  · obtain ⟨v,o,ho,hd⟩ := I.cell x c e
    exact free c o (fun z => (hch c z).2.2.1 x c e rfl) ho (I.freeC x c e)
  · obtain ⟨e,n,ne,nf,d⟩ := I.pin p hp
    have nch : p.1 ∉ ch:= fun z => (hch p.1 z).2.2.2 p hp rfl
    exact ⟨keep p.1 p.2 ne nf nch e n,free p.1 p.2 nch e n,ne,nf,d⟩
theorem Inv.un {t' : Nat} (I : Inv X pins σ H s) (u : Un X.fs [] H H' s.heap h') (hok : HOk X.prog X.w H' h') : Inv X pins σ H' { s with heap := h',toks := t' }:= by
  obtain ⟨m,⟨o,es,ep,ho,r⟩,_⟩ := id I.loc
  obtain ⟨sl,hL⟩ := u.any ho I.free (by simp)
  exact I.step (g' := s.gens) (d' := s.drawn) (ch := []) (fun _ z => nomatch z) (fun b o _ hb _ e n => u.keep b o e n hb (by simp)) (fun b o _ hb _ e n => u.slot b o e n hb (by simp)) (fun b o _ e n => u.free b o e n (by simp)) (fun b o _ e => u.there b o e (by simp)) u.tups u.frzs u.tbls (fun m' hm => by
    obtain ⟨o',es',ep',ho',r'⟩ := hm
    rw [ho] at ho'; cases ho'
    exact ⟨_,es',ep',hL,r'⟩) hok I.bare
theorem Inv.call {g' : Array GenState} {t' : Nat} {d' : Drawn} {ch : List Addr} (I : Inv X pins σ H s) (u : Un (frs X.stack) ch H H' s.heap h') (hok : HOk X.prog X.w H' h') (hg : AllBare g')
    (hch : ∀ b ∈ ch,(b ∈ X.ex ∨ X.s₀.heap.objs.size ≤ b)∧b ≠ X.env.locals∧(∀ x c,X.env.cells.lookup x = some c→c ≠ b)∧∀ p ∈ X.pn ++ pins,p.1 ≠ b) :
    Inv X pins σ H' { s with heap := h',gens := g',drawn := d',toks := t' }:= by
  obtain ⟨m,⟨o,es,ep,ho,r⟩,_⟩ := id I.loc
  obtain ⟨sl,hL⟩ := u.any ho I.free fun z => (hch _ z).2.1 rfl
  exact I.step (ch := ch) hch (fun b o hL hb hc e n => u.keep b o e n (fun z => (List.mem_cons.mp (I.stkSub b z)).elim hL hb) hc) (fun b o _ _ hc e n => u.any e n hc) (fun b o hc e n => u.free b o e n hc) (fun b o hc e => u.there b o e hc) u.tups u.frzs u.tbls (fun m' hm => by
    obtain ⟨o',es',ep',ho',r'⟩ := hm
    rw [ho] at ho'; cases ho'
    exact ⟨_,es',ep',hL,r'⟩) hok hg
theorem Inv.turned {t' : Nat} {it : Addr} (I : Inv X pins σ H s) (k : ∀ b o,b ≠ it→s.heap.get? b = some o→h'.get? b = some o) (hn : H it = none) (hL : it ≠ X.env.locals)
    (h1 : it ∈ X.ex ∨ X.s₀.heap.objs.size ≤ it) (h2 : ∀ x c,X.env.cells.lookup x = some c→c ≠ it) (h3 : ∀ p ∈ X.pn ++ pins,p.1 ≠ it) : Inv X pins σ H { s with heap := h',toks := t' }:= by
  have nit : ∀ b u,H b = some u→b ≠ it:= fun b u e z => by rw [z,hn] at e; cases e
  refine I.step (g' := s.gens) (d' := s.drawn) (ch := [it]) (fun b hb => ?_) (fun b o _ _ hc e _ => k b o (fun z => hc (by simp [z])) e) (fun b o _ _ hc e _ => ⟨o.slots,k b o (fun z => hc (by simp [z])) e⟩) (fun _ _ _ _ n => n)
    (fun b o hc e => ⟨o,k b o (fun z => hc (by simp [z])) e⟩) (fun _ _ e => e) (fun _ _ _ e => e) (fun b ps e => ⟨#[],by rw [e]; simp⟩) (fun m hm => ?_) (fun b u e => ?_) I.bare
  · have e : b = it := by simpa using hb
    subst e
    exact ⟨h1,hL,h2,h3⟩
  · obtain ⟨o,es,ep,ho,r⟩ := hm
    exact ⟨o,es,ep,k _ o (Ne.symm hL) ho,r⟩
  · refine (I.hok b u e).stay (fun c v hc q => k c v ?_ q) (fun _ q => q) fun _ _ q => q
    rcases hc with z | z
    · rw [z]; exact nit b u e
    · exact nit c _ z
theorem Inv.tok (I : Inv X pins σ H s) (t : Nat) : Inv X pins σ H { s with toks := t } := I.un (h' := s.heap) (t' := t) Un.refl I.hok
theorem Inv.kept {t' : Nat} (I : Inv X pins σ H s) (k : ∀ b u,s.heap.get? b = some u→h'.get? b = some u) : Inv X pins σ H { s with heap := h',toks := t' } := I.un (Un.kept k) (I.hok.kept k)
theorem Inv.laid {a : Addr} {o : HO} {t' : Nat} (I : Inv X pins σ H s) (k : ∀ b u,s.heap.get? b = some u→h'.get? b = some u) (hp : s.heap.objs.size ≤ a) (new : ObjOk X.prog X.w (upd H a o) h' a o) :
    Inv X pins σ (upd H a o) { s with heap := h',toks := t' } := I.un (Un.laid k hp (I.hok.fresh hp)) (I.hok.laid k hp new)
theorem Inv.write {x e : Addr} {o : HO} {t' : Nat} (I : Inv X pins σ H s) (mu : Mut (H x)) (he : e = x ∨ H e = some (.own x)) (k : ∀ b u,b ≠ e→s.heap.get? b = some u→h'.get? b = some u) (heo : ∃ u,h'.get? e = some u)
    (new : ObjOk X.prog X.w (upd H x o) h' x o) : Inv X pins σ (upd H x o) { s with heap := h',toks := t' } := I.un (Un.write mu he k heo) (I.hok.write mu he k heo new)
theorem Inv.pins_of {pins' : List (Addr × Obj)} (I : Inv X pins σ H s) (h : ∀ p ∈ pins',s.heap.get? p.1 = some p.2∧H p.1 = none∧p.1 ≠ X.env.locals∧p.1 ∉ X.fs∧∀ v,p.2.data ≠ .cell v) : Inv X pins' σ H s :=
  ⟨I.ok,I.os,I.bare,I.base,I.loc,I.cell,I.free,I.freeC,fun p hp => (List.mem_append.mp hp).elim (fun z => I.pin p (List.mem_append_left _ z)) (h p),I.hok,I.len⟩
theorem z5s {N : List Str} (hN : N.Nodup) {i j : Nat} {x : Str} (a : N[i]? = some x) (b : N[j]? = some x) : i = j:= by
  obtain ⟨h1,e1⟩ := List.getElem?_eq_some_iff.mp a
  obtain ⟨h2,e2⟩ := List.getElem?_eq_some_iff.mp b
  exact (List.getElem_inj hN).mp (e1.trans e2.symm)
theorem z6m {M : Model} {A : Around} {E : Value→Shared→Prop} {i : Nat} {x : Str} {v : V} {u : Value} {Q : Unit→Shared→Prop} (I : Inv X pins σ H s) (hN : X.N.Nodup) (hi : X.N[i]? = some x) (hx : Loc X.env.scope x) (r : RelV v u)
    (h : ∀ s',Inv X pins (σ.set i (some v)) H s'→(∃ a,Heap.SameBut a s.heap s'.heap∧(a = X.env.locals ∨ X.env.cells.lookup x = some a))→Q () s') (hf : X.fn x = true ∨ X.env.scope.names.lookup x = some .local := by first | exact .inl rfl | exact .inr rfl | assumption) : wpAny M A (storeName X.env x u) Q E s:= by
  obtain ⟨m,hn,hl⟩ := id I.loc
  have hcls : (X.env.scope.kind == .class || (X.env.scope.kind == .module && X.env.locals != X.env.globals)) = false := by rw [I.ok.kind]; rfl
  have hiσ : i < σ.length := by rw [I.len]; exact (List.getElem?_eq_some_iff.mp hi).1
  have cne := I.cne
  have tracked : ∀ {a : Addr} {h' : Heap},(∃ o,s.heap.get? a = some o∧H a = none)→Heap.SameBut a s.heap h'→HOk X.prog X.w H h':= fun {a h'} ha hs b ob e => by
    obtain ⟨_,_,hfree⟩ := ha
    refine (I.hok b ob e).stay (fun c w' hc q => (hs.2 c ?_).trans q) (fun _ q => q) fun _ _ q => q
    rintro rfl
    rcases hc with rfl | hc
    · rw [hfree] at e; cases e
    · rw [hfree] at hc; cases hc
  rcases hx with hk | hk
  · refine wpAny_storeName_local hk hn (fun h' hn' hs => ?_) hcls
    obtain ⟨oL,_,_,hoL,_⟩ := id hn
    refine h _ ⟨I.ok,I.os,I.bare,⟨fun b o e n hb hx => ?_,fun b o e n hb hx => ?_,I.base.free,fun b o e hx => ?_,I.base.tups,I.base.frzs,I.base.tbls⟩,⟨_,hn',fun j y v' e1 e2 e3 => ?_⟩,fun y c e => ?_,I.free,I.freeC,fun p hp => ?_,tracked ⟨oL,hoL,I.free⟩ hs,by simpa using I.len⟩ ⟨_,hs,.inl rfl⟩
    · exact (hs.2 b (Nat.ne_of_lt (Nat.lt_of_lt_of_le (Heap.lt_size e) I.ok.above))).trans (I.base.keep b o e n hb hx)
    · obtain ⟨sl,e1⟩ := I.base.slot b o e n hb hx
      exact ⟨sl,(hs.2 b (Nat.ne_of_lt (Nat.lt_of_lt_of_le (Heap.lt_size e) I.ok.above))).trans e1⟩
    · obtain ⟨o',e1⟩ := I.base.there b o e hx
      exact ⟨o',(hs.2 b (Nat.ne_of_lt (Nat.lt_of_lt_of_le (Heap.lt_size e) I.ok.above))).trans e1⟩
    · by_cases hj : j = i
      · subst hj
        rw [hi] at e1; cases e1
        rw [List.getElem?_set_self hiσ] at e2
        cases e2
        exact ⟨u,r,.inl ⟨hk,by simp⟩⟩
      · rw [List.getElem?_set_ne (Ne.symm hj)] at e2
        obtain ⟨u',r',q⟩ := hl j y v' e1 e2 e3
        refine ⟨u',r', ?_⟩
        rcases q with ⟨k,e⟩ | ⟨k,c,e,z⟩
        · refine .inl ⟨k, ?_⟩
          have : y ≠ x:= fun e => hj (z5s hN e1 (e ▸ hi))
          simp [this,e]
        · exact .inr ⟨k,c,e,z.sameBut hs (cne y c e)⟩
    · obtain ⟨w',z⟩ := I.cell y c e
      exact ⟨w',z.sameBut hs (cne y c e)⟩
    · obtain ⟨e,n,ne,nf,d⟩ := I.pin p hp
      exact ⟨(hs.2 p.1 ne).trans e,n,ne,nf,d⟩
  · have hfn : X.fn x = true:= by
      rcases hf with z | z
      · exact z
      · rw [z] at hk; cases hk
    obtain ⟨c,hc⟩ := I.ok.has x (.inl hk)
    obtain ⟨w',z⟩ := I.cell x c hc
    refine wpAny_storeName_cell I.ok.kind hk hc z (fun h' hc' hs => ?_)
    obtain ⟨oc,hoc,hocd⟩ := id z
    refine h { s with heap := h' } ⟨I.ok,I.os,I.bare,⟨fun b o e n hb hx => ?_,fun b o e n hb hx => ?_,I.base.free,fun b o e hx => ?_,I.base.tups,I.base.frzs,I.base.tbls⟩,⟨m,hn.sameBut hs (Ne.symm (cne x c hc)),fun j y v' e1 e2 e3 => ?_⟩,fun y c' e => ?_,I.free,I.freeC,fun p hp => ?_,tracked ⟨oc,hoc,I.freeC x c hc⟩ hs,by simpa using I.len⟩ ⟨c,hs,.inr hc⟩
    · exact (hs.2 b (Nat.ne_of_lt (Nat.lt_of_lt_of_le (Heap.lt_size e) (I.ok.cab x c hfn hc)))).trans (I.base.keep b o e n hb hx)
    · obtain ⟨sl,e1⟩ := I.base.slot b o e n hb hx
      exact ⟨sl,(hs.2 b (Nat.ne_of_lt (Nat.lt_of_lt_of_le (Heap.lt_size e) (I.ok.cab x c hfn hc)))).trans e1⟩
    · obtain ⟨o',e1⟩ := I.base.there b o e hx
      exact ⟨o',(hs.2 b (Nat.ne_of_lt (Nat.lt_of_lt_of_le (Heap.lt_size e) (I.ok.cab x c hfn hc)))).trans e1⟩
    · by_cases hj : j = i
      · subst hj
        rw [hi] at e1; cases e1
        rw [List.getElem?_set_self hiσ] at e2
        cases e2
        exact ⟨u,r,.inr ⟨.inl hk,c,hc,hc'⟩⟩
      · rw [List.getElem?_set_ne (Ne.symm hj)] at e2
        obtain ⟨u',r',q⟩ := hl j y v' e1 e2 e3
        refine ⟨u',r', ?_⟩
        rcases q with q | ⟨k,c',e,z'⟩
        · exact .inl q
        · refine .inr ⟨k,c',e,z'.sameBut hs ?_⟩
          rintro rfl
          exact hj (z5s hN e1 (I.ok.inj _ _ _ e hc ▸ hi))
    · by_cases hcc : c' = c
      · subst hcc; exact ⟨_,hc'⟩
      · obtain ⟨w2,z2⟩ := I.cell y c' e
        exact ⟨w2,z2.sameBut hs hcc⟩
    · obtain ⟨e,n,ne,nf,d⟩ := I.pin p hp
      refine ⟨(hs.2 p.1 ?_).trans e,n,ne,nf,d⟩
      intro q
      rw [q,hoc] at e
      have q' : oc = p.2 := Option.some.inj e
      exact d w' (by rw [← q']; exact hocd)
theorem z5t {M : Model} {A : Around} {E : Value→Shared→Prop} {i : Nat} {x : Str} {v : V} {u : Value} {Q : Unit→Shared→Prop} (I : Inv X pins σ H s) (hN : X.N.Nodup) (hi : X.N[i]? = some x) (hx : Loc X.env.scope x) (r : RelV v u)
    (h : ∀ s',Inv X pins (σ.set i (some v)) H s'→Q () s') (hf : X.fn x = true ∨ X.env.scope.names.lookup x = some .local := by first | exact .inl rfl | exact .inr rfl | assumption) : wpAny M A (storeName X.env x u) Q E s :=
  z6m I hN hi hx r (fun s' I' _ => h s' I') hf
theorem Inv.call' {s' : Shared} {ch : List Addr} (I : Inv X pins σ H s) (ho : s'.os = s.os) (u : Un (frs X.stack) ch H H' s.heap s'.heap) (hok : HOk X.prog X.w H' s'.heap) (hg : AllBare s'.gens)
    (hch : ∀ b ∈ ch,(b ∈ X.ex ∨ X.s₀.heap.objs.size ≤ b)∧b ≠ X.env.locals∧(∀ x c,X.env.cells.lookup x = some c→c ≠ b)∧∀ p ∈ X.pn ++ pins,p.1 ≠ b) : Inv X pins σ H' s':= by
  obtain ⟨h',g',d',t',o'⟩ := s'
  have e : o' = s.os := ho
  subst e
  exact I.call (g' := g') (t' := t') (d' := d') u hok hg hch
end
abbrev XK := Value→Option Addr→Hp→Prop
abbrev St := List (Option V)
abbrev VK := V→Hp→Prop
abbrev TE := St→Hp→VK→Prop
abbrev TT := St→Hp→(Bool→Hp→Prop)→Prop
abbrev TA := St→Hp→(List V→Hp→Prop)→Prop
structure Ends where
  nx : St→Hp→Prop
  rt : VK
  bk : St→Hp→Prop:= fun _ _ => False
  ct : St→Hp→Prop:= fun _ _ => False
abbrev TS := Ends→St→Hp→Prop
def EP (X : Cx) (pins : List (Addr × Obj)) (σ : St) (Q : VK) (u : Value) (s' : Shared) : Prop := ∃ v H',Inv X pins σ H' s'∧RelV v u∧Q v H'
def TP (X : Cx) (pins : List (Addr × Obj)) (σ : St) (Q : Bool→Hp→Prop) (b : Bool) (s' : Shared) : Prop := ∃ H',Inv X pins σ H' s'∧Q b H'
def AP (X : Cx) (pins : List (Addr × Obj)) (σ : St) (Q : List V→Hp→Prop) (us : List Value) (s' : Shared) : Prop := ∃ vs H',Inv X pins σ H' s'∧Vals vs us∧Q vs H'
def SP (X : Cx) (pins : List (Addr × Obj)) (D : Ends) (f : Flow) (s' : Shared) : Prop :=
  match f with
  | .next => ∃ σ' H',Inv X pins σ' H' s'∧D.nx σ' H'
  | .brk => ∃ σ' H',Inv X pins σ' H' s'∧D.bk σ' H'
  | .cont => ∃ σ' H',Inv X pins σ' H' s'∧D.ct σ' H'
  | .ret u => ∃ v σ' H',Inv X pins σ' H' s'∧RelV v u∧D.rt v H'
def PE (X : Cx) (e : Expr) (t : TE) : Prop :=
  ∀ (pins : List (Addr × Obj)) (s : Shared) (σ : St) (H : Hp) (Q : VK),Inv X pins σ H s→t σ H Q→wpAny (model X.prog X.w) X.A (eval e X.env) (EP X pins σ Q) X.xe s
def PT (X : Cx) (e : Expr) (t : TT) : Prop :=
  ∀ (pins : List (Addr × Obj)) (s : Shared) (σ : St) (H : Hp) (Q : Bool→Hp→Prop),Inv X pins σ H s→t σ H Q→wpAny (model X.prog X.w) X.A (isTrue e X.env (eval e X.env)) (TP X pins σ Q) X.xe s
def PW (X : Cx) (e : Expr) (t : TT) : Prop :=
  ∀ (whole : Sem Value) (pins : List (Addr × Obj)) (s : Shared) (σ : St) (H : Hp) (Q : Bool→Hp→Prop),Inv X pins σ H s→t σ H Q→wpAny (model X.prog X.w) X.A (isTrue e X.env whole) (TP X pins σ Q) X.xe s
theorem PW.pt {X : Cx} {e : Expr} {t : TT} (h : PW X e t) : PT X e t := h _
def PA (X : Cx) (es : List Expr) (t : TA) : Prop :=
  ∀ (pos : Pos) (pins : List (Addr × Obj)) (s : Shared) (σ : St) (H : Hp) (Q : List V→Hp→Prop),Inv X pins σ H s→t σ H Q→wpAny (model X.prog X.w) X.A (spliced (backTo pos (starEach es X.env))) (AP X pins σ Q) X.xe s
def PS (X : Cx) (st : Stmt) (t : TS) : Prop :=
  ∀ (pins : List (Addr × Obj)) (s : Shared) (σ : St) (H : Hp) (D : Ends),Inv X pins σ H s→t D σ H→wpAny (model X.prog X.w) X.A (exec st X.env) (SP X pins D) X.xe s
def PSs (X : Cx) (st : List Stmt) (t : TS) : Prop :=
  ∀ (pins : List (Addr × Obj)) (s : Shared) (σ : St) (H : Hp) (D : Ends),Inv X pins σ H s→t D σ H→wpAny (model X.prog X.w) X.A (execs st X.env) (SP X pins D) X.xe s
theorem thn {α : Type} {t : Sem α} {Q Q' : α→Shared→Prop} {M : Model} {A : Around} {E : Value→Shared→Prop} {s : Shared} (h : wpAny M A t Q E s) (hQ : ∀ a s,Q a s→Q' a s) : wpAny M A t Q' E s := wpAny_mono h hQ fun _ _ x => x
section
variable {X : Cx}
theorem bin {a b : Expr} {ta tb : TE} (ha : PE X a ta) (hb : PE X b tb) {pins : List (Addr × Obj)} {s : Shared} {σ : St} {H : Hp} {R : V→V→Hp→Prop} (I : Inv X pins σ H s) (h : ta σ H fun x H1 => tb σ H1 fun y H2 => R x y H2)
    {α : Type} {Q : α→Shared→Prop} {f : Value→Value→Sem α}
    (hf : ∀ v u s2 x y H2,Inv X pins σ H2 s2→RelV x v→RelV y u→R x y H2→wpAny (model X.prog X.w) X.A (f v u) Q X.xe s2) :
    wpAny (model X.prog X.w) X.A (eval a X.env) (fun v s₁ => wpAny (model X.prog X.w) X.A (eval b X.env) (fun u s₂ => wpAny (model X.prog X.w) X.A (f v u) Q X.xe s₂) X.xe s₁) X.xe s:= by
  refine thn (ha pins s σ H _ I h) fun v s1 ⟨x,H1,I1,r1,q1⟩ => ?_
  refine thn (hb pins s1 σ H1 _ I1 q1) fun u s2 ⟨y,H2,I2,r2,q2⟩ => ?_
  exact hf v u s2 x y H2 I2 r1 r2 q2
def tVar (i : Nat) : TE:= fun σ H Q => ∃ v,σ[i]? = some (some v)∧Q v H
def tC (v : V) : TE:= fun _ H Q => Q v H
theorem za2 {i : Nat} {x : Str} {pos : Pos} (hN : X.N[i]? = some x) (hv : Vis X.env.scope x) (hd : (x == ("__debug__" : Str)) = false := by decide) (hcd : (x == ("__classdict__" : Str)) = false := by decide) : PE X (.Name x pos) (tVar i):= by
  intro pins s σ H Q I h
  obtain ⟨v,e,h⟩ := h
  obtain ⟨m,hn,hl⟩ := I.loc
  obtain ⟨u,r,l⟩ := hl i x v hN e hv
  have fin : EP X pins σ Q u s := ⟨v,H,I,r,h⟩
  rcases l with ⟨hk,hm⟩ | ⟨hk,c,hc,hcell⟩
  · exact wpAny_Name (wpAny_loadName_local I.ok.kind hk hn hm fin) hd
  · rcases hk with hk | hk
    · exact wpAny_Name (wpAny_loadName_cell I.ok.kind hk hc hcell fin) hd
    · exact wpAny_Name (wpAny_loadName_free I.ok.kind hk hc hcell fin hcd) hd
theorem zjm {i j pos} : PE X (.Constant (.int i) j pos) (tC (.int i)):= fun _ _ _ H _ I h => wpAny_Constant_int ⟨.int i,H,I.tok _,⟨_,rfl⟩,h⟩
theorem zmp {b j pos} : PE X (.Constant (.bool b) j pos) (tC (.bl b)):= fun _ _ _ H _ I h => Constant_bool ⟨.bl b,H,I,rfl,h⟩
theorem zf4 {j pos} : PE X (.Constant .none j pos) (tC .non):= fun _ _ _ H _ I h => Constant_none ⟨.non,H,I,rfl,h⟩
theorem zjn {x j pos} : PE X (.Constant (.str x) j pos) (tC (.str x)):= fun _ _ _ H _ I h => Calls.Constant_str ⟨.str x,H,I.tok _,⟨_,rfl⟩,h⟩
def Gl (X : Cx) (x : Str) : Prop := X.env.kindOf x = some .globalImplicit
theorem z47 {E : Value→Shared→Prop} {pins : List (Addr × Obj)} {s : Shared} {σ : St} {H : Hp} {x : Str} {u : Value} {pos : Pos} {Q : Value→Shared→Prop} (I : Inv X pins σ H s) (hg : Gl X x) (hm : X.mg x = some u) (h : Q u s)
    (hd : (x == ("__debug__" : Str)) = false := by decide) : wpAny (model X.prog X.w) X.A (eval (.Name x pos) X.env) Q E s :=
  Calls.Name_function_global I.ok.kind hg (Calls.loadGlobal_global (by rw [I.ok.glob]; exact I.mod.glob.keeps I.bk) hm h) hd
theorem z5a {E : Value→Shared→Prop} {pins : List (Addr × Obj)} {s : Shared} {σ : St} {H : Hp} {x : Str} {u : Value} {pos : Pos} {Q : Value→Shared→Prop} (I : Inv X pins σ H s) (hg : Gl X x) (hm : X.mg x = none) (hv : bootBuiltins x = some u) (h : Q u s)
    (hn : x ≠ "__name__" := by decide) (hd : (x == ("__debug__" : Str)) = false := by decide) : wpAny (model X.prog X.w) X.A (eval (.Name x pos) X.env) Q E s:= by
  obtain ⟨mb,h1,h2⟩ := I.mod.blt
  exact Calls.Name_function_global I.ok.kind hg (Calls.loadGlobal_builtin (by rw [I.ok.glob]; exact I.mod.glob.keeps I.bk) hm (by rw [I.ok.blt]; exact h1.keeps I.bk) ((h2 x hn).trans hv) h) hd
theorem za3 {x : Str} {v : V} {u : Value} {pos : Pos} (hg : Gl X x) (hm : X.mg x = some u) (r : RelV v u) (hd : (x == ("__debug__" : Str)) = false := by decide) : PE X (.Name x pos) (tC v) :=
  fun _ _ _ H _ I h => z47 I hg hm ⟨v,H,I,r,h⟩ hd
variable {a b : Expr} {ta tb : TE} {pos : Pos}
variable {tA tB' : TT} {rest : List Expr}
def tAnd (t u : TT) : TT:= fun σ H Q => t σ H fun c H1 => if c = true then u σ H1 Q else Q false H1
def tOr (t u : TT) : TT:= fun σ H Q => t σ H fun c H1 => if c = true then Q true H1 else u σ H1 Q
def tNot (t : TT) : TT:= fun σ H Q => t σ H fun c H1 => Q (!c) H1
theorem zga (ha : PT X a tA) : PW X (.BoolOp .And [a] pos) tA:= by
  intro wh pins s σ H Q I h
  refine isTrue_and (thn (ha pins s σ H Q I h) fun c s1 e => ?_)
  cases c with
  | true => exact isTrue_and_nil e
  | false => exact e
theorem zjo (ha : PT X a tA) : PW X (.BoolOp .Or [a] pos) tA:= by
  intro wh pins s σ H Q I h
  refine isTrue_or (thn (ha pins s σ H Q I h) fun c s1 e => ?_)
  cases c with
  | false => exact isTrue_or_nil e
  | true => exact e
theorem zjp (ha : PT X a tA) (hb : PW X (.BoolOp .And (b :: rest) pos) tB') : PW X (.BoolOp .And (a :: b :: rest) pos) (tAnd tA tB'):= by
  intro wh pins s σ H Q I h
  refine isTrue_and (thn (ha pins s σ H _ I h) fun c s1 ⟨H1,I1,q1⟩ => ?_)
  cases c with
  | true => exact hb wh pins s1 σ H1 Q I1 q1
  | false => exact ⟨H1,I1,q1⟩
theorem zmq (ha : PT X a tA) (hb : PW X (.BoolOp .Or (b :: rest) pos) tB') : PW X (.BoolOp .Or (a :: b :: rest) pos) (tOr tA tB'):= by
  intro wh pins s σ H Q I h
  refine isTrue_or (thn (ha pins s σ H _ I h) fun c s1 ⟨H1,I1,q1⟩ => ?_)
  cases c with
  | true => exact ⟨H1,I1,q1⟩
  | false => exact hb wh pins s1 σ H1 Q I1 q1
theorem zjq (ha : PT X a tA) : PT X (.UnaryOp .Not a pos) (tNot tA):= by
  intro pins s σ H Q I h
  exact isTrue_not (ha pins s σ H (fun c H1 => Q (!c) H1) I h)
def zmr (ta tb : TE) : TE:= fun σ H Q => ta σ H fun x H1 => ∃ c,x = .bl c∧if c = true then tb σ H1 Q else Q (.bl false) H1
def zms (ta : TE) : TE:= fun σ H Q => ta σ H fun x H1 => ∃ c,x = .bl c∧Q (.bl (!c)) H1
theorem zjr {op} {t : TE} (h : PE X a t) : PE X (.BoolOp op [a] pos) t:= fun pins s σ H Q I hw => BoolOp_one (h pins s σ H Q I hw)
theorem zjs (ha : PE X a ta) (hb : PE X (.BoolOp .And (b :: rest) pos) tb) : PE X (.BoolOp .And (a :: b :: rest) pos) (zmr ta tb):= by
  intro pins s σ H Q I h
  refine BoolOp_and (thn (ha pins s σ H _ I h) fun v s1 ⟨x,H1,I1,r1,q1⟩ => ?_)
  obtain ⟨c,rfl,q1⟩ := q1
  cases r1
  refine wpAny_truthy_bool ?_
  cases c with
  | true => exact hb pins s1 σ H1 Q I1 q1
  | false => exact ⟨.bl false,H1,I1,rfl,q1⟩
theorem zjt (ha : PE X a ta) : PE X (.UnaryOp .Not a pos) (zms ta):= by
  intro pins s σ H Q I h
  refine UnaryOp_ (thn (ha pins s σ H _ I h) fun v s1 ⟨x,H1,I1,r1,q1⟩ => ?_)
  obtain ⟨c,rfl,q1⟩ := q1
  cases r1
  exact not_of (wpAny_truthy_bool ⟨.bl (!c),H1,I1,rfl,q1⟩)
end
def SqL (K : PySem.W.Frag) (H : Hp) (a : Addr) (xs : List V) : Prop :=
  Rd H a (.lst xs) ∨
    ∃ (o : Obj) (its : Array Value) (n : Nat),K.lookup a = some o∧o.cls = .type "list"∧o.dict = none∧o.data = .seq its n∧its.size ≤ sizeLine∧Vals xs its.toList
def SqT (K : PySem.W.Frag) (H : Hp) (a : Addr) (xs : List V) : Prop :=
  Rd H a (.tup xs) ∨
    ∃ (o : Obj) (its : Array Value) (n : Nat),K.lookup a = some o∧o.cls = .type "tuple"∧o.data = .seq its n∧its.size ≤ sizeLine∧Vals xs its.toList
def absV : Value→Option V
  | .none => some .non
  | .bool b => some (.bl b)
  | .int i _ => some (.int i)
  | .str x _ => some (.str x)
  | .bytes b _ => some (.byt b)
  | .float b _ => some (.flt b)
  | .ref a => some (.ref a)
  | .type n => some (.ty n)
  | _ => none
theorem RelV.abs {x : V} {u : Value} (r : RelV x u) : absV u = some x:= by
  cases x with
  | non => cases r; rfl
  | bl _ => cases r; rfl
  | int _ => obtain ⟨t,rfl⟩ := r; rfl
  | str _ => obtain ⟨t,rfl⟩ := r; rfl
  | byt _ => obtain ⟨t,rfl⟩ := r; rfl
  | flt _ => obtain ⟨t,rfl⟩ := r; rfl
  | ref _ => cases r; rfl
  | ty _ => cases r; rfl
theorem RelV.inj {x y : V} {u : Value} (r : RelV x u) (q : RelV y u) : x = y := Option.some.inj (r.abs.symm.trans q.abs)
theorem Vals.inj : ∀ {xs ys : List V} {us : List Value},Vals xs us→Vals ys us→xs = ys
  | _,_,_,.nil,.nil => rfl
  | _,_,_,.cons r t,.cons r' t' => by rw [r.inj r',Vals.inj t t']
section
variable {X : Cx} {pins : List (Addr × Obj)} {σ : St} {H : Hp} {s : Shared} {a : Addr} {xs ys : List V}
theorem SqL.of {K : PySem.W.Frag} (h : H a = some (.lst xs)) : SqL K H a xs := .inl (.inl h)
theorem SqT.of {K : PySem.W.Frag} (h : H a = some (.tup xs)) : SqT K H a xs := .inl (.inl h)
theorem Inv.list (I : Inv X pins σ H s) (h : SqL X.K H a xs) : ∃ its : List Value,Vals xs its∧PlainL s.heap a its.toArray∧xs.length ≤ sizeLine:= by
  rcases h with h | ⟨o,its,n,hk,hc,hd,hs,hz,r⟩
  · obtain ⟨z,its,n,r,e⟩ := h.ok I.hok
    exact ⟨its,r,⟨_,n,e,rfl,rfl,rfl⟩,z⟩
  · refine ⟨its.toList,r,⟨o,n,I.kIn a o hk,hc,hd,by simpa using hs⟩, ?_⟩
    have e := r.length
    simp only [Array.length_toList] at e
    omega
theorem Inv.tuple (I : Inv X pins σ H s) (h : SqT X.K H a xs) : ∃ its : List Value,Vals xs its∧IsTup s.heap a its.toArray∧xs.length ≤ sizeLine:= by
  rcases h with h | ⟨o,its,n,hk,hc,hs,hz,r⟩
  · obtain ⟨z,its,r,p⟩ := h.ok I.hok
    exact ⟨its,r,p.tup,z⟩
  · refine ⟨its.toList,r,⟨o,I.kIn a o hk,hc,n,by simpa using hs⟩, ?_⟩
    have e := r.length
    simp only [Array.length_toList] at e
    omega
theorem Inv.list_inj (I : Inv X pins σ H s) (h : SqL X.K H a xs) (h' : SqL X.K H a ys) : xs = ys:= by
  obtain ⟨its,r,⟨o,n,e,_,_,d⟩,_⟩ := I.list h
  obtain ⟨its',r',⟨o',n',e',_,_,d'⟩,_⟩ := I.list h'
  rw [e] at e'; cases e'
  rw [d] at d'
  injection d' with d1 _
  have : its = its' := by simpa using congrArg Array.toList d1
  subst this
  exact r.inj r'
theorem Inv.tuple_inj (I : Inv X pins σ H s) (h : SqT X.K H a xs) (h' : SqT X.K H a ys) : xs = ys:= by
  obtain ⟨its,r,⟨o,e,_,n,d⟩,_⟩ := I.tuple h
  obtain ⟨its',r',⟨o',e',_,n',d'⟩,_⟩ := I.tuple h'
  rw [e] at e'; cases e'
  rw [d] at d'
  injection d' with d1 _
  have : its = its' := by simpa using congrArg Array.toList d1
  subst this
  exact r.inj r'
end
abbrev Cx.wish (X : Cx) (E : Value→Shared→Prop) : Cx := { X with xe := E }
abbrev Cx.nox (X : Cx) : Cx := X.wish fun _ _ => False
theorem Cx.Ok.wish {X : Cx} (ok : X.Ok) (E : Value→Shared→Prop) : (X.wish E).Ok :=
  ⟨ok.mod,ok.kind,ok.glob,ok.blt,ok.above,ok.inj,ok.has,ok.cab,ok.hd,ok.frames,ok.stk,ok.exf,ok.bs,ok.bsz,ok.noex,ok.exfs,ok.funs,ok.frf⟩
theorem Cx.Ok.unwish {X : Cx} {E : Value→Shared→Prop} (ok : (X.wish E).Ok) : X.Ok :=
  ⟨ok.mod,ok.kind,ok.glob,ok.blt,ok.above,ok.inj,ok.has,ok.cab,ok.hd,ok.frames,ok.stk,ok.exf,ok.bs,ok.bsz,ok.noex,ok.exfs,ok.funs,ok.frf⟩
section
variable {X : Cx} {pins : List (Addr × Obj)} {σ : St} {H : Hp} {s : Shared} {E : Value→Shared→Prop}
theorem Inv.wish (I : Inv X pins σ H s) (E : Value→Shared→Prop) : Inv (X.wish E) pins σ H s := ⟨I.ok.wish E,I.os,I.bare,I.base,I.loc,I.cell,I.free,I.freeC,I.pin,I.hok,I.len⟩
theorem Inv.unwish (I : Inv (X.wish E) pins σ H s) : Inv X pins σ H s := ⟨I.ok.unwish,I.os,I.bare,I.base,I.loc,I.cell,I.free,I.freeC,I.pin,I.hok,I.len⟩
theorem SP.unwish {D : Ends} {f : Flow} {s' : Shared} (h : SP (X.wish E) pins D f s') : SP X pins D f s':= by
  cases f with
  | next => obtain ⟨σ',H',I,q⟩ := h; exact ⟨σ',H',I.unwish,q⟩
  | brk => obtain ⟨σ',H',I,q⟩ := h; exact ⟨σ',H',I.unwish,q⟩
  | cont => obtain ⟨σ',H',I,q⟩ := h; exact ⟨σ',H',I.unwish,q⟩
  | ret u => obtain ⟨v,σ',H',I,r,q⟩ := h; exact ⟨v,σ',H',I.unwish,r,q⟩
theorem PE.nox {e : Expr} {t : TE} (h : PE X.nox e t) : PE X e t:= fun pins s σ H Q I hw =>
  wpAny_mono (h pins s σ H Q (I.wish _) hw) (fun _ _ ⟨v,H',I',r,q⟩ => ⟨v,H',I'.unwish,r,q⟩) fun _ _ z => False.elim z
theorem PT.nox {e : Expr} {t : TT} (h : PT X.nox e t) : PT X e t:= fun pins s σ H Q I hw =>
  wpAny_mono (h pins s σ H Q (I.wish _) hw) (fun _ _ ⟨H',I',q⟩ => ⟨H',I'.unwish,q⟩) fun _ _ z => False.elim z
theorem PSs.nox {st : List Stmt} {t : TS} (h : PSs X.nox st t) : PSs X st t:= fun pins s σ H D I hw =>
  wpAny_mono (h pins s σ H D (I.wish _) hw) (fun _ _ q => q.unwish) fun _ _ z => False.elim z
end
section
variable {X : Cx} {st : Stmt} {rest : List Stmt} {t u : TS} {e : Expr} {te : TE} {pos : Pos}
def zmt : TS:= fun D σ H => D.nx σ H
def tSeq (t u : TS) : TS:= fun D σ H => t { D with nx := u D } σ H
theorem zgb : PSs X [] zmt:= fun _ _ σ H _ I h => wpAny_execs_nil ⟨σ,H,I,h⟩
theorem zcr (h1 : PS X st t) (h2 : PSs X rest u) : PSs X (st :: rest) (tSeq t u):= by
  intro pins s σ H D I h
  refine wpAny_execs_cons (thn (h1 pins s σ H { D with nx := u D } I h) fun f s1 q => ?_)
  cases f with
  | next =>
    obtain ⟨σ',H',I',q⟩ := q
    exact h2 pins s1 σ' H' D I' q
  | ret v => exact q
  | brk => exact q
  | cont => exact q
theorem za4 (h1 : PS X st t) : PSs X [st] t:= by
  intro pins s σ H D I h
  refine wpAny_execs_cons (thn (h1 pins s σ H D I h) fun f s1 q => ?_)
  cases f with
  | next => exact wpAny_execs_nil q
  | ret v => exact q
  | brk => exact q
  | cont => exact q
theorem Inv.quiet {pins : List (Addr × Obj)} {σ : St} {H : Hp} {s : Shared} (I : Inv X pins σ H s) : interactive X.env = false := by simp [interactive,I.ok.kind]
def zmu (te : TE) : TS:= fun D σ H => te σ H fun _ H1 => D.nx σ H1
theorem zgc (he : PE X e te) (hs : swapsWith e none pos.line X.env = pure false := by rfl) : PS X (.Expr e pos) (zmu te):= by
  intro pins s σ H D I h
  exact wpAny_Expr_any (thn (he pins s σ H _ I h) fun v s1 ⟨x,H1,I1,r1,q1⟩ => ⟨σ,H1,I1,q1⟩) I.quiet hs
def tRet (te : TE) : TS:= fun D σ H => te σ H D.rt
theorem zju (he : PE X e te) : PS X (.Return (some e) pos) (tRet te):= by
  intro pins s σ H D I h
  exact wpAny_Return_some (thn (he pins s σ H _ I h) fun v s1 ⟨x,H1,I1,r1,q1⟩ => ⟨x,σ,H1,I1,r1,q1⟩)
def tIfS (c : TT) (t u : TS) : TS:= fun D σ H => c σ H fun b H1 => if b = true then t D σ H1 else u D σ H1
theorem zmv {c : Expr} {a b : List Stmt} {tc : TT} (hc : PT X c tc) (ha : PSs X a t) (hb : PSs X b u) : PS X (.If c a b pos) (tIfS tc t u):= by
  intro pins s σ H D I h
  refine wpAny_If (thn (hc pins s σ H _ I h) fun d s1 ⟨H1,I1,q1⟩ => ?_)
  cases d with
  | true => exact ha pins s1 σ H1 D I1 q1
  | false => exact hb pins s1 σ H1 D I1 q1
end
abbrev TG := V→St→Hp→(St→Hp→Prop)→Prop
abbrev TGs := List V→St→Hp→(St→Hp→Prop)→Prop
def PG (X : Cx) (target : Expr) (t : TG) : Prop :=
  ∀ (pins : List (Addr × Obj)) (s : Shared) (σ : St) (H : Hp) (v : V) (u : Value) (Q : St→Hp→Prop),Inv X pins σ H s→RelV v u→t v σ H Q →
    wpAny (model X.prog X.w) X.A (assign target X.env u) (fun _ s' => ∃ σ' H',Inv X pins σ' H' s'∧Q σ' H') X.xe s
def PGs (X : Cx) (ts : List Expr) (t : TGs) : Prop :=
  ∀ (pins : List (Addr × Obj)) (s : Shared) (σ : St) (H : Hp) (vs : List V) (us : List Value) (Q : St→Hp→Prop),Inv X pins σ H s→Vals vs us→t vs σ H Q →
    wpAny (model X.prog X.w) X.A (assignInOrder ((assignEach ts X.env).map (·.2)) us) (fun _ s' => ∃ σ' H',Inv X pins σ' H' s'∧Q σ' H') X.xe s
abbrev TSet := V→V→V→Hp→(Hp→Prop)→Prop
def PSet (X : Cx) (t : TSet) : Prop :=
  ∀ (pins : List (Addr × Obj)) (s : Shared) (σ : St) (H : Hp) (o i v : V) (ov iv u : Value) (Q : Hp→Prop),Inv X pins σ H s→RelV o ov→RelV i iv→RelV v u→t o i v H Q →
    wpAny (model X.prog X.w) X.A (setItem ov iv u) (fun _ s' => ∃ H',Inv X pins σ H' s'∧Q H') X.xe s
section
variable {X : Cx} {pos : Pos}
def zgd (i : Nat) : TG:= fun v σ H Q => Q (σ.set i (some v)) H
theorem zge {i : Nat} {x : Str} (hN : X.N.Nodup) (hi : X.N[i]? = some x) (hx : Loc X.env.scope x) (hf : X.fn x = true ∨ X.env.scope.names.lookup x = some .local := by first | exact .inl rfl | exact .inr rfl | assumption) : PG X (.Name x pos) (zgd i):= by
  intro pins s σ H v u Q I r h
  exact wpAny_assign_Name (z5t I hN hi hx r (fun s' I' => ⟨_,H,I',h⟩) hf)
def gNil : TGs:= fun vs σ H Q => vs = []∧Q σ H
def zmw (t : TG) (u : TGs) : TGs:= fun vs σ H Q => ∃ v r,vs = v :: r∧t v σ H fun σ' H' => u r σ' H' Q
theorem zgf : PGs X [] gNil:= by
  intro pins s σ H vs us Q I r h
  obtain ⟨e,h⟩ := h
  subst e
  cases r
  exact assignInOrder_nil ⟨σ,H,I,h⟩
theorem zcs {e : Expr} {es : List Expr} {t : TG} {u : TGs} (h1 : PG X e t) (h2 : PGs X es u)
    (hs : (assignEach (e :: es) X.env).map (·.2) = assign e X.env :: (assignEach es X.env).map (·.2) := by rfl) : PGs X (e :: es) (zmw t u):= by
  intro pins s σ H vs us Q I r h
  obtain ⟨v,vr,e1,h⟩ := h
  subst e1
  cases r with
  | cons r rr =>
    rw [hs]
    refine assignInOrder_cons (thn (h1 pins s σ H _ _ _ I r h) fun _ s1 ⟨σ1,H1,I1,q1⟩ => ?_)
    exact h2 pins s1 σ1 H1 _ _ Q I1 rr q1
def gTup (K : PySem.W.Frag) (n : Nat) (t : TGs) : TG:= fun v σ H Q => ∃ a xs,v = .ref a∧SqT K H a xs∧xs.length = n∧t xs σ H Q
theorem zjv {es : List Expr} {k : Nat} {t : TGs} {n : Nat} (hc : X.calm = true) (h : PGs X es t)
    (hn : (assignEach es X.env).length = n := by rfl) (hst : (assignEach es X.env).findIdx? (·.1) = none := by rfl) : PG X (.Tuple es k pos) (gTup X.K n t):= by
  intro pins s σ H v u Q I r hw
  obtain ⟨a,xs,e1,hq,hl,hw⟩ := hw
  subst e1
  cases r
  obtain ⟨its,rv,ht,hz⟩ := I.tuple hq
  refine assign_Tuple_tuple (I.ok.hd hc) ht (by simp [hn,← hl,rv.length]) hst fun h' hx => ?_
  have I1 : Inv X pins σ H { s with heap := h' } := I.kept (t' := s.toks) fun b o e => hx b o (Nat.ne_of_lt (Heap.lt_size e)) e
  exact h pins _ σ H xs _ Q I1 (by simpa using rv) hw
def gSub (to ti : TE) (t : TSet) : TG:= fun v σ H Q => to σ H fun o H1 => ti σ H1 fun i H2 => t o i v H2 fun H3 => Q σ H3
theorem zjw {o i : Expr} {to ti : TE} {t : TSet} (ho : PE X o to) (hi : PE X i ti) (hs : PSet X t)
    (ha : ∀ v,assign (.Subscript o i pos) X.env v = (do
      let ov ← holding [v] (eval o X.env)
      let iv ← holding [v,ov] (eval i X.env)
      standAt pos
      holding [v,ov,iv] (setItem ov iv v)
      release [v,ov,iv] []) := by intro _; rfl) : PG X (.Subscript o i pos) (gSub to ti t):= by
  intro pins s σ H v u Q I r h
  rw [ha]
  refine wpAny_bind (wpAny_holding (thn (ho pins s σ H _ I h) fun ov s1 ⟨x,H1,I1,r1,q1⟩ => ?_))
  refine wpAny_bind (wpAny_holding (thn (hi pins s1 σ H1 _ I1 q1) fun iv s2 ⟨y,H2,I2,r2,q2⟩ => ?_))
  refine wpAny_bind (wpAny_standAt (wpAny_bind (wpAny_holding (thn (hs pins s2 σ H2 x y v ov iv u _ I2 r1 r2 r q2) fun _ s3 ⟨H3,I3,q3⟩ => ?_))))
  exact wpAny_release ⟨σ,H3,I3,q3⟩
def tAsg (te : TE) (g : TG) : TS:= fun D σ H => te σ H fun x H1 => g x σ H1 D.nx
theorem zjx {tg e : Expr} {te : TE} {g : TG} (he : PE X e te) (hg : PG X tg g) (hs : swapsWithSole [tg] e pos.line X.env = pure false := by rfl) (hw : swappedStores [tg] e X.env = pure none := by rfl)
    (h1 : (assignEach [tg] X.env).map (·.2) = [assign tg X.env] := by rfl) : PS X (.Assign [tg] e pos) (tAsg te g):= by
  intro pins s σ H D I h
  refine wpAny_Assign_stores (thn (he pins s σ H _ I h) fun v s1 ⟨x,H1,I1,r1,q1⟩ => ?_) hs hw
  rw [h1]
  exact thn (hg pins s1 σ H1 x v _ I1 r1 q1) fun _ s2 q => q
theorem za5 {i : Nat} {x : Str} {e : Expr} {te : TE} {pos' : Pos} (hN : X.N.Nodup) (hi : X.N[i]? = some x) (hx : Loc X.env.scope x) (he : PE X e te) (hs : swapsWith e (some (.Name x pos')) pos.line X.env = pure false := by rfl) (hf : X.fn x = true ∨ X.env.scope.names.lookup x = some .local := by first | exact .inl rfl | exact .inr rfl | assumption) :
    PS X (.Assign [.Name x pos'] e pos) (tAsg te (zgd i)):= by
  intro pins s σ H D I h
  refine wpAny_Assign_Name (thn (he pins s σ H _ I h) fun v s1 ⟨y,H1,I1,r1,q1⟩ => ?_) hs
  exact z5t I1 hN hi hx r1 (fun s2 I2 => ⟨_,H1,I2,q1⟩) hf
end
section
variable {X : Cx} {pos : Pos}
def zjy (c : TT) (tb : TS) : TS:= fun D σ H => ∃ W : Nat→St→Hp→Prop,(∃ m,W m σ H)∧∀ m σ H,W m σ H →
  c σ H fun b H1 => if b = true then ∃ N : St→Hp→Prop,(∀ σ' H',N σ' H'→∃ m',m' < m∧W m' σ' H')∧tb { D with nx := N,ct := N,bk := D.nx } σ H1 else D.nx σ H1
theorem zct {c : Expr} {body : List Stmt} {tc : TT} {tb : TS} (hp : PassesOwn (model X.prog X.w) X.A X.env X.xe) (hc : PT X c tc) (hb : PSs X body tb) : PS X (.While c body [] pos) (zjy tc tb):= by
  intro pins s σ H D I h
  obtain ⟨W,⟨m0,w0⟩,turn⟩ := h
  refine wpAny_While (codeAny_whileLoop (fun n s' => ∃ σ' H',Inv X pins σ' H' s'∧W n σ' H') ?_ m0 ⟨σ,H,I,w0⟩)
  rintro n s1 ⟨σ1,H1,I1,w1⟩
  refine wpAny_passesOwn hp (thn (hc pins s1 σ1 H1 _ I1 (turn n σ1 H1 w1)) fun b s2 ⟨H2,I2,q2⟩ => ?_)
  cases b with
  | true =>
    obtain ⟨N,hN,q2⟩ := q2
    rw [if_pos rfl]
    refine wpAny_passesOwn hp (thn (hb pins s2 σ1 H2 _ I2 q2) fun f s3 q3 => ?_)
    cases f with
    | next =>
      obtain ⟨σ3,H3,I3,n3⟩ := q3
      obtain ⟨m',hm,w3⟩ := hN σ3 H3 n3
      exact ⟨m',hm,σ3,H3,I3,w3⟩
    | cont =>
      obtain ⟨σ3,H3,I3,n3⟩ := q3
      obtain ⟨m',hm,w3⟩ := hN σ3 H3 n3
      exact ⟨m',hm,σ3,H3,I3,w3⟩
    | brk => exact q3
    | ret v => exact q3
  | false =>
    rw [if_neg Bool.false_ne_true]
    exact wpAny_execs_nil ⟨σ1,H2,I2,q2⟩
end
structure It where
  go : Nat→Hp→Prop
  yld : Nat→Hp→V→Hp→Prop
  stop : Nat→Hp→Prop
def FpOk (X : Cx) (pins : List (Addr × Obj)) (H : Hp) (b : Addr) : Prop :=
  H b = none∧b ≠ X.env.locals∧b ∉ X.fs∧(b ∈ X.ex ∨ X.s₀.heap.objs.size ≤ b)∧(∀ x c,X.env.cells.lookup x = some c→c ≠ b)∧∀ p ∈ X.pn ++ pins,p.1 ≠ b
theorem Inv.fpOk {X : Cx} {pins : List (Addr × Obj)} {σ : St} {H H' : Hp} {s : Shared} {b : Addr} (I : Inv X pins σ H s) (hb : s.heap.objs.size ≤ b) (hn : H' b = none) : FpOk X pins H' b:= by
  refine ⟨hn,Nat.ne_of_gt (Nat.lt_of_lt_of_le I.lt hb),I.nofs hb,.inr (Nat.le_trans I.sz hb),fun x c e z => ?_,fun p hp z => ?_⟩
  · obtain ⟨v,q⟩ := I.cell x c e
    exact absurd (Nat.lt_of_lt_of_le q.lt (by rw [z]; exact hb)) (Nat.lt_irrefl _)
  · exact absurd (Nat.lt_of_lt_of_le (Heap.lt_size (I.pin p hp).1) (by rw [z]; exact hb)) (Nat.lt_irrefl _)
structure Turn (P : Program) (w : World) (K : PySem.W.Frag) (tg : Expr) (J : It) (fp : List Addr) (it : Addr) (tn : Nat→Heap→Prop) : Prop where
  mem : it ∈ fp
  obj : ∀ i h,tn i h→∀ b ∈ fp,∃ o,h.get? b = some o∧∀ v,o.data ≠ .cell v
  keep : ∀ i h h',tn i h→(∀ b ∈ fp,∀ o,h.get? b = some o→h'.get? b = some o)→tn i h'
  item : ∀ (X : Cx),X.prog = P→X.w = w→X.K = K→X.calm = true→∀ (i : Nat) (pins : List (Addr × Obj)) (s : Shared) (σ : St) (H : Hp) (E : Value→Shared→Prop),Inv X pins σ H s→(∀ b ∈ fp,FpOk X pins H b)→tn i s.heap→J.go i H →
    wpAny (model P w) X.A (pyNext (.ref it)) (fun r s1 => ∃ u,r = some u ∧
      wpAny (model P w) X.A (letOwnedTupleGo tg (.ref it) u) (fun _ s2 => ∃ x H',Inv X pins σ H' s2∧RelV x u∧J.yld i H x H'∧tn (i + 1) s2.heap∧∀ b ∈ fp,H' b = none) E s1) E s
  done : ∀ (X : Cx),X.prog = P→X.w = w→X.K = K→X.calm = true→∀ (i : Nat) (pins : List (Addr × Obj)) (s : Shared) (σ : St) (H : Hp) (E : Value→Shared→Prop),Inv X pins σ H s→(∀ b ∈ fp,FpOk X pins H b)→tn i s.heap→J.stop i H →
    wpAny (model P w) X.A (pyNext (.ref it)) (fun r s1 => r = none∧Inv X pins σ H s1) E s
  self : ∀ (A : Around) (i : Nat) (s : Shared) (Q : Value→Shared→Prop) (E : Value→Shared→Prop),tn i s.heap→Q (.ref it) s→wpAny (model P w) A (pyIter (.ref it)) Q E s
abbrev TI := St→Hp→(It→Hp→Prop)→Prop
def PIE (X : Cx) (pins : List (Addr × Obj)) (σ : St) (tg : Expr) (R : It→Hp→Prop) (itv : Value) (s2 : Shared) : Prop :=
  ∃ (it : Addr) (fp : List Addr) (tn : Nat→Heap→Prop) (J : It) (H' : Hp),itv = .ref it∧Inv X pins σ H' s2∧Turn X.prog X.w X.K tg J fp it tn∧tn 0 s2.heap∧(∀ b ∈ fp,FpOk X pins H' b)∧R J H'
def PI (X : Cx) (tg iter : Expr) (wi : TI) : Prop :=
  ∀ (pins : List (Addr × Obj)) (s : Shared) (σ : St) (H : Hp) (R : It→Hp→Prop),Inv X pins σ H s→wi σ H R →
    wpAny (model X.prog X.w) X.A (eval iter X.env) (fun v s1 => wpAny (model X.prog X.w) X.A (pyIter v) (PIE X pins σ tg R) X.xe s1) X.xe s
theorem zgg {M : Model} {A : Around} {E : Value→Shared→Prop} {s : Shared} {tg : Expr} {it : Addr} {u : Value} {o : Obj} {n : String} {vs : Array Value} {Q : Unit→Shared→Prop} (ho : s.heap.get? it = some o) (hc : o.cls = .type n) (hd : o.data = .fields vs)
    (hn : ["enumerate","zip","dict_itemiterator","dict_reverseitemiterator","odict_iterator","itertools.zip_longest","itertools.pairwise"].contains n = false) (hQ : Q () s) : wpAny M A (letOwnedTupleGo tg (.ref it) u) Q E s:= by
  unfold letOwnedTupleGo
  cases tg <;> first
    | exact wpAny_pure hQ
    | (cases u <;> first
        | exact wpAny_pure hQ
        | (refine wpAny_bind (wpAny_load ho ?_)
           rw [hc,hd]
           show wpAny M A (if (["enumerate","zip","dict_itemiterator","dict_reverseitemiterator","odict_iterator","itertools.zip_longest","itertools.pairwise"].contains n && vs[0]? == some (rawInt _)) = true then _ else _) Q E s
           rw [if_neg (by intro h; rw [hn,Bool.false_and] at h; cases h)]
           exact wpAny_pure hQ))
def Itl (K : PySem.W.Frag) (a : Addr) : It :=
  ⟨fun i H => ∃ xs x,SqL K H a xs∧xs[i]? = some x,fun i H x H' => H' = H∧∀ xs,SqL K H a xs→xs[i]? = some x,fun i H => ∃ xs,SqL K H a xs∧xs.length ≤ i⟩
def Itt (K : PySem.W.Frag) (a : Addr) : It :=
  ⟨fun i H => ∃ xs x,SqT K H a xs∧xs[i]? = some x,fun i H x H' => H' = H∧∀ xs,SqT K H a xs→xs[i]? = some x,fun i H => ∃ xs,SqT K H a xs∧xs.length ≤ i⟩
def Itr (lo : Int) (n : Nat) : It := ⟨fun i _ => i < n,fun i H x H' => H' = H∧x = .int (lo + i),fun i _ => n ≤ i⟩
theorem za6 {P : Program} {w : World} {K : PySem.W.Frag} {tg : Expr} (a it : Addr) : Turn P w K tg (Itl K a) [it] it (fun i h => h.IsListIter it a i) where
  mem := by simp
  obj:= fun i h st b hb => by
    have e : b = it := by simpa using hb
    subst e
    obtain ⟨o,e,c,d⟩ := st
    exact ⟨o,e,fun v z => by rw [d] at z; cases z⟩
  keep:= fun i h h' st k => st.at fun o e => k it (by simp) o e
  item:= by
    intro X hP hw hK hc i pins s σ H E I hf st hg
    subst hP hw hK
    obtain ⟨xs,x,hq,hx⟩ := hg
    obtain ⟨its,rv,p,hz⟩ := I.list hq
    obtain ⟨u,hu,ru⟩ := rv.get hx
    obtain ⟨f0,f1,f2,f3,f4,f5⟩ := hf it (by simp)
    refine wpAny_pyNext_list_item st p.isList (x := u) (by simpa using hu) fun h' st' sb => ?_
    have I1 : Inv X pins σ H { s with heap := h' } := I.turned (t' := s.toks) (fun b o hb e => (sb.2 b hb).trans e) f0 f1 f3 f4 f5
    obtain ⟨o,e,c,d⟩ := id st'
    exact ⟨u,rfl,zgg (s := { s with heap := h' }) e c d (by decide) ⟨x,H,I1,ru,⟨rfl,fun ys hy => by rw [I.list_inj hy hq]; exact hx⟩,st',fun b hb => (hf b hb).1⟩⟩
  done:= by
    intro X hP hw hK hc i pins s σ H E I hf st hg
    subst hP hw hK
    obtain ⟨xs,hq,hx⟩ := hg
    obtain ⟨its,rv,p,hz⟩ := I.list hq
    obtain ⟨f0,f1,f2,f3,f4,f5⟩ := hf it (by simp)
    have hl := rv.length
    exact wpAny_pyNext_list_end (I.ok.hd hc) st p.isList (by simp; omega) fun h' eb => ⟨rfl,I.turned (t' := s.toks) (fun b o hb e => eb b o hb e) f0 f1 f3 f4 f5⟩
  self:= fun _ _ _ _ _ st h => wpAny_pyIter_listiter st h
theorem z9e {P : Program} {w : World} {K : PySem.W.Frag} {tg : Expr} (a it : Addr) : Turn P w K tg (Itt K a) [it] it (fun i h => h.IsTupleIter it a i) where
  mem := by simp
  obj:= fun i h st b hb => by
    have e : b = it := by simpa using hb
    subst e
    obtain ⟨o,e,c,d⟩ := st
    exact ⟨o,e,fun v z => by rw [d] at z; cases z⟩
  keep:= fun i h h' st k => st.at fun o e => k it (by simp) o e
  item:= by
    intro X hP hw hK hc i pins s σ H E I hf st hg
    subst hP hw hK
    obtain ⟨xs,x,hq,hx⟩ := hg
    obtain ⟨its,rv,p,hz⟩ := I.tuple hq
    obtain ⟨u,hu,ru⟩ := rv.get hx
    obtain ⟨f0,f1,f2,f3,f4,f5⟩ := hf it (by simp)
    refine wpAny_pyNext_tuple_item st (show s.heap.IsTuple a its.toArray from p) (x := u) (by simpa using hu) fun h' st' sb => ?_
    have I1 : Inv X pins σ H { s with heap := h' } := I.turned (t' := s.toks) (fun b o hb e => (sb.2 b hb).trans e) f0 f1 f3 f4 f5
    obtain ⟨o,e,c,d⟩ := id st'
    exact ⟨u,rfl,zgg (s := { s with heap := h' }) e c d (by decide) ⟨x,H,I1,ru,⟨rfl,fun ys hy => by rw [I.tuple_inj hy hq]; exact hx⟩,st',fun b hb => (hf b hb).1⟩⟩
  done:= by
    intro X hP hw hK hc i pins s σ H E I hf st hg
    subst hP hw hK
    obtain ⟨xs,hq,hx⟩ := hg
    obtain ⟨its,rv,p,hz⟩ := I.tuple hq
    obtain ⟨f0,f1,f2,f3,f4,f5⟩ := hf it (by simp)
    have hl := rv.length
    exact wpAny_pyNext_tuple_end (I.ok.hd hc) st (show s.heap.IsTuple a its.toArray from p) (by simp; omega) fun h' eb => ⟨rfl,I.turned (t' := s.toks) (fun b o hb e => eb b o hb e) f0 f1 f3 f4 f5⟩
  self:= fun _ _ _ _ _ st h => wpAny_pyIter_tupleiter st h
theorem z9f {P : Program} {w : World} {K : PySem.W.Frag} {tg : Expr} (it : Addr) (lo : Int) (n : Nat) : Turn P w K tg (Itr lo n) [it] it (fun i h => IsRangeIter h it (lo + (i : Nat) * 1) ((n : Int) - (i : Nat)) 1) where
  mem := by simp
  obj:= fun i h st b hb => by
    have e : b = it := by simpa using hb
    subst e
    exact ⟨_,st,fun v z => by
      have z' : Data.fields _ = Data.cell v := z
      cases z'⟩
  keep:= fun i h h' st k => k it (by simp) _ st
  item:= by
    intro X hP hw hK hc i pins s σ H E I hf st hg
    subst hP hw hK
    obtain ⟨f0,f1,f2,f3,f4,f5⟩ := hf it (by simp)
    have W := Walks.range (prog := X.prog) (w := X.w) (I.ok.hd hc) it lo 1 n
    refine W.item i s _ _ hg st fun v h' tk hv st' kk => ?_
    obtain ⟨t,rfl⟩ := hv
    have I1 : Inv X pins σ H { s with heap := h',toks := tk } := I.turned (fun b o hb e => kk b o (by simpa using hb) e) f0 f1 f3 f4 f5
    refine ⟨_,rfl,zgg (s := { s with heap := h',toks := tk }) (n := "range_iterator") st' rfl rfl (by decide) ⟨.int (lo + i),H,I1,⟨t, ?_⟩,⟨rfl,rfl⟩,st',fun b hb => (hf b hb).1⟩⟩
    rw [Int.mul_one]
  done:= by
    intro X hP hw hK hc i pins s σ H E I hf st hg
    subst hP hw hK
    obtain ⟨f0,f1,f2,f3,f4,f5⟩ := hf it (by simp)
    exact wpAny_pyNext_range_end (I.ok.hd hc) st (by have : n ≤ i := hg; omega) fun h' eb => ⟨rfl,I.turned (t' := s.toks) (fun b o hb e => eb b o hb e) f0 f1 f3 f4 f5⟩
  self:= fun _ _ _ _ _ st h => wpAny_pyIter_rangeiter st h
section
variable {X : Cx} {tg : Expr}
def zmx (K : PySem.W.Frag) (tl : TE) : TI:= fun σ H R => tl σ H fun x H1 => ∃ a,x = .ref a∧(∃ xs,SqL K H1 a xs)∧R (Itl K a) H1
def iTup (K : PySem.W.Frag) (tl : TE) : TI:= fun σ H R => tl σ H fun x H1 => ∃ a,x = .ref a∧(∃ xs,SqT K H1 a xs)∧R (Itt K a) H1
theorem zgh {l : Expr} {tl : TE} (hl : PE X l tl) : PI X tg l (zmx X.K tl):= by
  intro pins s σ H R I h
  refine thn (hl pins s σ H _ I h) fun v s1 ⟨x,H1,I1,r1,q1⟩ => ?_
  obtain ⟨a,e,⟨xs,hq⟩,q⟩ := q1
  subst e
  cases r1
  obtain ⟨its,rv,p,hz⟩ := I1.list hq
  refine wpAny_pyIter_list p.isList ?_
  refine ⟨s1.heap.objs.size,[s1.heap.objs.size],_,_,H1,rfl,I1.kept (t' := s1.toks) fun b o e => Heap.get?_push_of_some _ e,za6 a _,⟨_,Heap.get?_push_size _ rfl,rfl,rfl⟩,fun b hb => ?_,q⟩
  have e : b = s1.heap.objs.size := by simpa using hb
  subst e
  exact I1.fpOk (Nat.le_refl _) (I1.hok.fresh (Nat.le_refl _))
theorem zjz {l : Expr} {tl : TE} (hl : PE X l tl) : PI X tg l (iTup X.K tl):= by
  intro pins s σ H R I h
  refine thn (hl pins s σ H _ I h) fun v s1 ⟨x,H1,I1,r1,q1⟩ => ?_
  obtain ⟨a,e,⟨xs,hq⟩,q⟩ := q1
  subst e
  cases r1
  obtain ⟨its,rv,p,hz⟩ := I1.tuple hq
  refine wpAny_pyIter_tuple (show s1.heap.IsTuple a its.toArray from p) ?_
  refine ⟨s1.heap.objs.size,[s1.heap.objs.size],_,_,H1,rfl,I1.kept (t' := s1.toks) fun b o e => Heap.get?_push_of_some _ e,z9e a _,⟨_,Heap.get?_push_size _ rfl,rfl,rfl⟩,fun b hb => ?_,q⟩
  have e : b = s1.heap.objs.size := by simpa using hb
  subst e
  exact I1.fpOk (Nat.le_refl _) (I1.hok.fresh (Nat.le_refl _))
theorem z8d {pins : List (Addr × Obj)} {σ : St} {H : Hp} {s : Shared} {R : It→Hp→Prop} {E : Value→Shared→Prop} {lo hi : Int} {t u v : Tok} {tk : Nat} (I : Inv X pins σ H s) (h1 : -(2 ^ 62) ≤ lo) (h2 : lo < 2 ^ 62) (h3 : -(2 ^ 62) ≤ hi) (h4 : hi < 2 ^ 62)
    (q : R (Itr lo (hi - lo).toNat) H) : wpAny (model X.prog X.w) X.A (pyIter (.ref s.heap.objs.size)) (PIE X pins σ tg R) E { s with heap := s.heap.push { cls := .type "range",data := .fields #[.int lo t,.int hi u,.int 1 v] },toks := tk }:= by
  refine wpAny_pyIter_range (IsRange.new ..) (small_one h1 h2 h3 h4) ?_
  have I1 : Inv X pins σ H { s with heap := s.heap.push { cls := .type "range",data := .fields #[.int lo t,.int hi u,.int 1 v] },toks := tk } := I.kept fun b o e => Heap.get?_push_of_some _ e
  refine ⟨(s.heap.push { cls := .type "range",data := .fields #[.int lo t,.int hi u,.int 1 v] }).objs.size,[(s.heap.push { cls := .type "range",data := .fields #[.int lo t,.int hi u,.int 1 v] }).objs.size],_,_,H,rfl,
    I1.kept (t' := tk) fun b o e => Heap.get?_push_of_some _ e,z9f _ lo (hi - lo).toNat, ?_,fun b hb => ?_,q⟩
  · have e1 : lo + ((0 : Nat) : Int) * 1 = lo := by simp
    have e2 : (((hi - lo).toNat : Nat) : Int) - ((0 : Nat) : Int) = Builtin.Range.rangeSize lo hi 1 := by rw [rangeSize_one]; split <;> omega
    show IsRangeIter _ _ (lo + ((0 : Nat) : Int) * 1) ((((hi - lo).toNat : Nat) : Int) - ((0 : Nat) : Int)) 1
    rw [e1,e2]
    exact Heap.get?_push_size _ rfl
  · have e : b = (s.heap.push { cls := .type "range",data := .fields #[.int lo t,.int hi u,.int 1 v] }).objs.size := by simpa using hb
    subst e
    exact I1.fpOk (Nat.le_refl _) (I1.hok.fresh (Nat.le_refl _))
def zmy (ta : TA) : TI:= fun σ H R => ta σ H fun vs H1 => ∃ j : Int,vs = [.int j]∧-(2 ^ 62) ≤ j∧j < 2 ^ 62∧R (Itr 0 j.toNat) H1
def zmz (ta : TA) : TI:= fun σ H R => ta σ H fun vs H1 => ∃ i j : Int,vs = [.int i,.int j]∧(-(2 ^ 62) ≤ i∧i < 2 ^ 62∧-(2 ^ 62) ≤ j∧j < 2 ^ 62)∧R (Itr i (j - i).toNat) H1
theorem za7 {a : Expr} {ta : TA} {p pos : Pos} (hg : Gl X "range") (hm : X.mg "range" = none) (ha : PA X [a] ta) (hs : starEach [a] X.env = [(false,eval a X.env)] := by rfl) : PI X tg (.Call (.Name "range" p) [a] [] pos) (zmy ta):= by
  intro pins s σ H R I h
  refine Call_ (z5a I hg hm boot_range (PyProof.Rows.callWith_type1 (thn (ha pos pins s σ H _ I h) fun us s1 ⟨vs,H1,I1,r1,q1⟩ => ?_) hs rfl))
  obtain ⟨j,e,q1,q2,q⟩ := q1
  subst e
  cases r1 with
  | cons r rr =>
    cases rr
    obtain ⟨t,rfl⟩ := r
    exact call_range_1 (z8d I1 (by omega) (by omega) q1 q2 (by simpa using q))
theorem za8 {a b : Expr} {ta : TA} {p pos : Pos} (hg : Gl X "range") (hm : X.mg "range" = none) (ha : PA X [a,b] ta) (hs : starEach [a,b] X.env = [(false,eval a X.env),(false,eval b X.env)] := by rfl) (hs2 : starEach [b] X.env = [(false,eval b X.env)] := by rfl) :
    PI X tg (.Call (.Name "range" p) [a,b] [] pos) (zmz ta):= by
  intro pins s σ H R I h
  refine Call_ (z5a I hg hm boot_range (PyProof.Rows.callWith_type1 (thn (ha pos pins s σ H _ I h) fun us s1 ⟨vs,H1,I1,r1,q1⟩ => ?_) (by rw [hs,hs2]) (by rw [hs2]; rfl)))
  obtain ⟨i,j,e,⟨q1,q2,q3,q4⟩,q⟩ := q1
  subst e
  cases r1 with
  | cons r rr =>
    cases rr with
    | cons r' rr =>
      cases rr
      obtain ⟨t,rfl⟩ := r
      obtain ⟨t',rfl⟩ := r'
      exact call_range_2 (z8d I1 q1 q2 q3 q4 q)
def tFor (wi : TI) (g : TG) (tb : TS) : TS:= fun D σ H => wi σ H fun J H1 => ∃ W : Nat→Nat→St→Hp→Prop,(∃ m,W 0 m σ H1)∧∀ i m σ H,W i m σ H →
  (J.stop i H∧D.nx σ H) ∨ (J.go i H∧∃ N : St→Hp→Prop,(∀ σ' H',N σ' H'→∃ m',m' < m∧W (i + 1) m' σ' H')∧∀ x H',J.yld i H x H'→g x σ H' fun σ2 H2 => tb { D with nx := N,ct := N,bk := D.nx } σ2 H2)
def z2b (fp : List Addr) (h : Heap) : List (Addr × Obj) := fp.filterMap fun b => (h.get? b).map fun o => (b,o)
theorem z22 {fp : List Addr} {h : Heap} {b : Addr} {o : Obj} (hb : b ∈ fp) (e : h.get? b = some o) : (b,o) ∈ z2b fp h := List.mem_filterMap.mpr ⟨b,hb,by rw [e]; rfl⟩
theorem z48 {fp : List Addr} {h : Heap} {p : Addr × Obj} (hp : p ∈ z2b fp h) : p.1 ∈ fp∧h.get? p.1 = some p.2:= by
  obtain ⟨b,hb,e⟩ := List.mem_filterMap.mp hp
  cases q : h.get? b with
  | none => rw [q] at e; cases e
  | some o =>
    rw [q] at e
    have e' : (b,o) = p := Option.some.inj e
    subst e'
    exact ⟨hb,q⟩
theorem Inv.pinned {pins : List (Addr × Obj)} {σ : St} {H : Hp} {s : Shared} {fp : List Addr} (I : Inv X pins σ H s) (hf : ∀ b ∈ fp,FpOk X pins H b) (ho : ∀ b ∈ fp,∃ o,s.heap.get? b = some o∧∀ v,o.data ≠ .cell v) : Inv X (pins ++ z2b fp s.heap) σ H s :=
  I.pins_of fun p hp => (List.mem_append.mp hp).elim (fun z => I.pin p (List.mem_append_right _ z)) fun z => by
    obtain ⟨hb,e⟩ := z48 z
    obtain ⟨f0,f1,f2,_⟩ := hf p.1 hb
    obtain ⟨o,e',d⟩ := ho p.1 hb
    rw [e] at e'; cases e'
    exact ⟨e,f0,f1,f2,d⟩
theorem Inv.unpinned {pins pl : List (Addr × Obj)} {σ : St} {H : Hp} {s : Shared} (I : Inv X (pins ++ pl) σ H s) : Inv X pins σ H s := I.pins_of fun p hp => I.pin p (List.mem_append_right _ (List.mem_append_left _ hp))
theorem zk0 {iter : Expr} {body : List Stmt} {wi : TI} {g : TG} {tb : TS} {pos : Pos} (hp : PassesOwn (model X.prog X.w) X.A X.env X.xe) (hc : X.calm = true) (hi : PI X tg iter wi) (hg : PG X tg g) (hb : PSs X body tb)
    (hs : ∀ x,foldedSetIterable iter X.env x = pure x := by intro _; rfl) : PS X (.For tg iter body [] pos) (tFor wi g tb):= by
  intro pins s σ H D I h
  refine wpAny_For (thn (hi pins s σ H _ I h) fun v s1 h1 => thn h1 fun itv s2 h2 => ?_) hs
  obtain ⟨it,fp,tn,J,H2,e,I2,T,st2,f2,W,⟨m0,w0⟩,turn⟩ := h2
  subst e
  have stat : ∀ {H' : Hp},(∀ b ∈ fp,H' b = none)→∀ b ∈ fp,FpOk X pins H' b:= fun hn b hb => ⟨hn b hb,(f2 b hb).2⟩
  refine codeAny_forLoop_any (fun n s' => ∃ i σ' H',Inv X pins σ' H' s'∧tn i s'.heap∧(∀ b ∈ fp,H' b = none)∧W i n σ' H') ?_ m0 ⟨0,σ,H2,I2,st2,fun b hb => (f2 b hb).1,w0⟩
  rintro n s3 ⟨i,σ3,H3,I3,st3,fr3,w3⟩
  rcases turn i n σ3 H3 w3 with ⟨stop,qn⟩ | ⟨go,N,hN,step⟩
  · refine wpAny_passesOwn hp (thn (T.done X rfl rfl rfl hc i pins s3 σ3 H3 X.xe I3 (stat fr3) st3 stop) fun r s4 ⟨hr,I4⟩ => ?_)
    subst hr
    exact wpAny_execs_nil ⟨σ3,H3,I4,qn⟩
  · refine wpAny_passesOwn hp (thn (T.item X rfl rfl rfl hc i pins s3 σ3 H3 X.xe I3 (stat fr3) st3 go) fun r s4 ⟨u,hr,h4⟩ => ?_)
    subst hr
    refine wpAny_passesOwn hp (thn h4 fun _ s5 ⟨x,H5,I5,r5,y5,st5,fr5⟩ => ?_)
    have I5' := I5.pinned (stat fr5) (T.obj _ _ st5)
    refine wpAny_passesOwn hp (thn (hg _ s5 σ3 H5 x u _ I5' r5 (step x H5 y5)) fun _ s6 ⟨σ6,H6,I6,q6⟩ => ?_)
    refine wpAny_passesOwn hp (thn (hb _ s6 σ6 H6 _ I6 q6) fun f s7 q7 => ?_)
    have again : ∀ {σ7 : St} {H7 : Hp},Inv X (pins ++ z2b fp s5.heap) σ7 H7 s7→N σ7 H7→∃ m,m < n∧∃ i σ' H',Inv X pins σ' H' s7∧tn i s7.heap∧(∀ b ∈ fp,H' b = none)∧W i m σ' H':= fun {σ7 H7} I7 n7 => by
      obtain ⟨m',hm,w7⟩ := hN σ7 H7 n7
      refine ⟨m',hm,i + 1,σ7,H7,I7.unpinned,T.keep _ _ _ st5 fun b hb o e => (I7.pin (b,o) (List.mem_append_right _ (List.mem_append_right _ (z22 hb e)))).1,fun b hb => ?_,w7⟩
      obtain ⟨o,e,d⟩ := T.obj _ _ st5 b hb
      exact (I7.pin (b,o) (List.mem_append_right _ (List.mem_append_right _ (z22 hb e)))).2.1
    cases f with
    | next => obtain ⟨σ7,H7,I7,n7⟩ := q7; exact again I7 n7
    | cont => obtain ⟨σ7,H7,I7,n7⟩ := q7; exact again I7 n7
    | brk => obtain ⟨σ7,H7,I7,q7⟩ := q7; exact ⟨σ7,H7,I7.unpinned,q7⟩
    | ret v => obtain ⟨x7,σ7,H7,I7,r7,q7⟩ := q7; exact ⟨x7,σ7,H7,I7.unpinned,r7,q7⟩
end
abbrev R2 := V→V→Hp→VK→Prop
def OpR (X : Cx) (f : Value→Value→Sem Value) (r : R2) : Prop :=
  ∀ (pins : List (Addr × Obj)) (s : Shared) (σ : St) (H : Hp) (x y : V) (v u : Value) (Q : VK),Inv X pins σ H s→RelV x v→RelV y u→r x y H Q →
    wpAny (model X.prog X.w) X.A (f v u) (EP X pins σ Q) X.xe s
def UnR (X : Cx) (f : Value→Sem Value) (r : V→Hp→VK→Prop) : Prop :=
  ∀ (pins : List (Addr × Obj)) (s : Shared) (σ : St) (H : Hp) (x : V) (v : Value) (Q : VK),Inv X pins σ H s→RelV x v→r x H Q →
    wpAny (model X.prog X.w) X.A (f v) (EP X pins σ Q) X.xe s
def CallR (X : Cx) (f : Value) (r : List V→Hp→VK→Prop) : Prop :=
  ∀ (pins : List (Addr × Obj)) (s : Shared) (σ : St) (H : Hp) (xs : List V) (us : List Value) (Q : VK),Inv X pins σ H s→Vals xs us→r xs H Q →
    wpAny (model X.prog X.w) X.A (call f us) (EP X pins σ Q) X.xe s
def TruR (X : Cx) (r : V→Hp→(Bool→Hp→Prop)→Prop) : Prop :=
  ∀ (pins : List (Addr × Obj)) (s : Shared) (σ : St) (H : Hp) (x : V) (v : Value) (Q : Bool→Hp→Prop),Inv X pins σ H s→RelV x v→r x H Q →
    wpAny (model X.prog X.w) X.A (truthy v) (TP X pins σ Q) X.xe s
def tOp (r : R2) (ta tb : TE) : TE:= fun σ H Q => ta σ H fun x H1 => tb σ H1 fun y H2 => r x y H2 Q
def tUn (r : V→Hp→VK→Prop) (ta : TE) : TE:= fun σ H Q => ta σ H fun x H1 => r x H1 Q
def rI (C : Int→Int→Prop) (g : Int→Int→V) : R2:= fun x y H Q => ∃ i j,x = .int i∧y = .int j∧C i j∧Q (g i j) H
def rI0 (g : Int→Int→V) : R2:= fun x y H Q => ∃ i j,x = .int i∧y = .int j∧Q (g i j) H
def rU (g : Int→V) : V→Hp→VK→Prop:= fun x H Q => ∃ i,x = .int i∧Q (g i) H
section
variable {X : Cx} {a b c : Expr} {ta tb tc : TE} {pos : Pos}
theorem binT (ha : PE X a ta) (hb : PE X b tb) {pins : List (Addr × Obj)} {s : Shared} {σ : St} {H : Hp} {R : V→V→Hp→Prop} (I : Inv X pins σ H s)
    (h : ta σ H fun x H1 => tb σ H1 fun y H2 => R x y H2) {Q : Value→Shared→Prop} {f : Value→Value→Sem Value}
    (hf : ∀ v u s2 x y H2,Inv X pins σ H2 s2→RelV x v→RelV y u→R x y H2→wpAny (model X.prog X.w) X.A (f v u) Q X.xe s2) :
    wpAny (model X.prog X.w) X.A (eval a X.env) (fun v s₁ => wpAny (model X.prog X.w) X.A (eval b X.env) (fun u s₂ => wpAny (model X.prog X.w) X.A (f v u) Q X.xe s₂) X.xe s₁) X.xe s:= by
  refine thn (ha pins s σ H _ I h) fun v s1 ⟨x,H1,I1,r1,q1⟩ => ?_
  refine thn (hb pins s1 σ H1 _ I1 q1) fun u s2 ⟨y,H2,I2,r2,q2⟩ => ?_
  exact hf v u s2 x y H2 I2 r1 r2 q2
theorem zn0 {op : Operator} {r : R2} (ho : OpR X (binaryOp op) r) (ha : PE X a ta) (hb : PE X b tb) : PE X (.BinOp a op b pos) (tOp r ta tb):= by
  intro pins s σ H Q I h
  exact wpAny_BinOp (binT ha hb I h fun v u s2 x y H2 I2 rx ry q => ho pins s2 σ H2 x y v u Q I2 rx ry q)
theorem zn1 {op : UnaryOp} {r : V→Hp→VK→Prop} (ho : UnR X (unaryOp op) r) (ha : PE X a ta) : PE X (.UnaryOp op a pos) (tUn r ta):= by
  intro pins s σ H Q I h
  exact UnaryOp_ (thn (ha pins s σ H _ I h) fun v s1 ⟨x,H1,I1,r1,q1⟩ => ho pins s1 σ H1 x v Q I1 r1 q1)
theorem opI {f : Value→Value→Sem Value} {C : Int→Int→Prop} {g : Int→Int→Int}
    (rule : ∀ (i j : Int) (t u : Tok) (s : Shared) (Q : Value→Shared→Prop) (E : Value→Shared→Prop),C i j→Q (.int (g i j) s.toks) { s with toks := s.toks + 1 }→wpAny (model X.prog X.w) X.A (f (.int i t) (.int j u)) Q E s) :
    OpR X f (rI C fun i j => .int (g i j)):= by
  intro pins s σ H x y v u Q I rx ry h
  obtain ⟨i,j,rfl,rfl,hc,q⟩ := h
  obtain ⟨t,rfl⟩ := rx
  obtain ⟨t',rfl⟩ := ry
  exact rule i j t t' s _ _ hc ⟨.int (g i j),H,I.tok _,⟨_,rfl⟩,q⟩
theorem opI0 {f : Value→Value→Sem Value} {g : Int→Int→Int}
    (rule : ∀ (i j : Int) (t u : Tok) (s : Shared) (Q : Value→Shared→Prop) (E : Value→Shared→Prop),Q (.int (g i j) s.toks) { s with toks := s.toks + 1 }→wpAny (model X.prog X.w) X.A (f (.int i t) (.int j u)) Q E s) :
    OpR X f (rI0 fun i j => .int (g i j)):= by
  intro pins s σ H x y v u Q I rx ry h
  obtain ⟨i,j,rfl,rfl,q⟩ := h
  obtain ⟨t,rfl⟩ := rx
  obtain ⟨t',rfl⟩ := ry
  exact rule i j t t' s _ _ ⟨.int (g i j),H,I.tok _,⟨_,rfl⟩,q⟩
theorem opB0 {f : Value→Value→Sem Value} {g : Int→Int→Bool}
    (rule : ∀ (i j : Int) (t u : Tok) (s : Shared) (Q : Value→Shared→Prop) (E : Value→Shared→Prop),Q (.bool (g i j)) s→wpAny (model X.prog X.w) X.A (f (.int i t) (.int j u)) Q E s) :
    OpR X f (rI0 fun i j => .bl (g i j)):= by
  intro pins s σ H x y v u Q I rx ry h
  obtain ⟨i,j,rfl,rfl,q⟩ := h
  obtain ⟨t,rfl⟩ := rx
  obtain ⟨t',rfl⟩ := ry
  exact rule i j t t' s _ _ ⟨.bl (g i j),H,I,rfl,q⟩
def CPow (i j : Int) : Prop := 0 ≤ j∧j ≤ 1000000∧i.natAbs < 2 ^ 64
def CMul (i j : Int) : Prop := (-(2 ^ 64) < i∧i < 2 ^ 64) ∨ (-(2 ^ 64) < j∧j < 2 ^ 64)
theorem CMul.ok {i j : Int} (h : CMul i j) : IntMulOk i j:= by
  rcases h with ⟨h1,h2⟩ | ⟨h1,h2⟩
  · exact .of_left (intBits_le_64 h1 h2)
  · exact .of_right (intBits_le_64 h1 h2)
theorem op_add : OpR X (binaryOp .Add) (rI0 fun i j => .int (i + j)) := opI0 fun _ _ _ _ _ _ _ q => add_int q
theorem zk1 : OpR X (binaryOp .Sub) (rI0 fun i j => .int (i - j)) := opI0 fun _ _ _ _ _ _ _ q => sub_int q
theorem zk2 : OpR X (binaryOp .Mult) (rI CMul fun i j => .int (i * j)) := opI fun _ _ _ _ _ _ _ hc q => mul_int q hc.ok
theorem zk3 : OpR X (binaryOp .Mod) (rI (fun _ j => 0 < j) fun i j => .int (i % j)) := opI fun i j _ _ _ _ _ hc q => by
  have h1 : (0 : Int) < j := hc
  exact mod_int' (by omega) (by rw [Int.fmod_eq_emod_of_nonneg i (by omega)]; exact q)
theorem zk4 : OpR X (binaryOp .Pow) (rI CPow fun i j => .int (i ^ j.toNat)) := opI fun _ _ _ _ _ _ _ hc q => pow_int_small hc.1 hc.2.1 hc.2.2 q
theorem unI {f : Value→Sem Value} {g : Int→Int}
    (rule : ∀ (i : Int) (t : Tok) (s : Shared) (Q : Value→Shared→Prop) (E : Value→Shared→Prop),Q (.int (g i) s.toks) { s with toks := s.toks + 1 }→wpAny (model X.prog X.w) X.A (f (.int i t)) Q E s) :
    UnR X f (rU fun i => .int (g i)):= by
  intro pins s σ H x v Q I rx h
  obtain ⟨i,rfl,q⟩ := h
  obtain ⟨t,rfl⟩ := rx
  exact rule i t s _ _ ⟨.int (g i),H,I.tok _,⟨_,rfl⟩,q⟩
theorem zk5 : UnR X (unaryOp .USub) (rU fun i => .int (-i)) := unI fun _ _ _ _ _ q => neg_int q
end
section
variable {X : Cx} {a b c : Expr} {ta tb tc : TE} {pos : Pos}
theorem zk6 {pins : List (Addr × Obj)} {σ : St} {H : Hp} {s : Shared} {Q : VK} {k k' : Bool} (I : Inv X pins σ H s) (q : Q (.bl k) H) (e : k = k') : EP X pins σ Q (.bool k') s:= by
  subst e
  exact ⟨.bl k,H,I,rfl,q⟩
theorem zn2 : OpR X (compareOp .Lt) (rI0 fun i j => .bl (decide (i < j))) := opB0 fun _ _ _ _ _ _ _ q => lt_int q
theorem zgi : OpR X (compareOp .LtE) (rI0 fun i j => .bl (decide (i ≤ j))) := opB0 fun _ _ _ _ _ _ _ q => le_int q
theorem zk7 : OpR X (compareOp .GtE) (rI0 fun i j => .bl (decide (j ≤ i))) := opB0 fun _ _ _ _ _ _ _ q => ge_int q
theorem zk8 : OpR X (compareOp .Is) (fun x y H Q => y = .non∧Q (.bl (decide (x = .non))) H):= by
  intro pins s σ H x y v u Q I rx ry h
  obtain ⟨rfl,q⟩ := h
  cases ry
  refine is_none_gen (zk6 I q ?_)
  cases x <;> first
    | (cases rx; rfl)
    | (obtain ⟨t,rfl⟩ := rx; rfl)
theorem OpR.or {f : Value→Value→Sem Value} {r r' : R2} (h : OpR X f r) (h' : OpR X f r') : OpR X f (fun x y H Q => r x y H Q ∨ r' x y H Q):= by
  intro pins s σ H x y v u Q I rx ry q
  rcases q with q | q
  · exact h pins s σ H x y v u Q I rx ry q
  · exact h' pins s σ H x y v u Q I rx ry q
theorem z3r (b : Expr) {op : CmpOp} (h : op ≠ .In := by decide) (h2 : op ≠ .NotIn := by decide) : behindInMarks op b = false:= by
  have e1 : (op == CmpOp.In) = false := by cases op <;> first | rfl | exact absurd rfl h
  have e2 : (op == CmpOp.NotIn) = false := by cases op <;> first | rfl | exact absurd rfl h2
  cases b <;> simp [behindInMarks,e1,e2]
theorem zgj {op : CmpOp} {r : R2} (ho : OpR X (compareOp op) r) (ha : PE X a ta) (hb : PE X b tb) (hm : behindInMarks op b = false) : PE X (.Compare a [op] [b] pos) (tOp r ta tb):= by
  intro pins s σ H Q I h
  exact wpAny_Compare1 (binT ha hb I h fun v u s2 x y H2 I2 rx ry q => ho pins s2 σ H2 x y v u Q I2 rx ry q) hm
def zk9 (t : TE) : TT:= fun σ H Q => t σ H fun x H' => ∃ k,x = .bl k∧Q k H'
theorem zgk {op : CmpOp} {r : R2} (ho : OpR X (compareOp op) r) (ha : PE X a ta) (hb : PE X b tb) (hm : behindInMarks op b = false) : PT X (.Compare a [op] [b] pos) (zk9 (tOp r ta tb)):= by
  intro pins s σ H Q I h
  refine wpAny_isTrue_Compare1 (thn (ha pins s σ H _ I h) fun v s1 ⟨x,H1,I1,r1,q1⟩ => thn (hb pins s1 σ H1 _ I1 q1) fun u s2 ⟨y,H2,I2,r2,q2⟩ =>
    thn (ho pins s2 σ H2 x y v u _ I2 r1 r2 q2) fun c s3 ⟨z,H3,I3,r3,k,e,q3⟩ => ?_) hm
  subst e
  cases r3
  exact wpAny_truthy_bool ⟨H3,I3,q3⟩
def zf5 (r r' : R2) (ta tb tc : TE) : TE:= fun σ H Q => ta σ H fun x H1 => tb σ H1 fun y H2 => r x y H2 fun z H3 => ∃ k,z = .bl k ∧
  (if k = true then tc σ H3 fun w' H4 => r' y w' H4 Q else Q (.bl false) H3)
theorem zcu {op op' : CmpOp} {r r' : R2} (ho : OpR X (compareOp op) r) (ho' : OpR X (compareOp op') r') (ha : PE X a ta) (hb : PE X b tb) (hc : PE X c tc)
    (hm : lastMarks [op,op'] [b,c] = false := by with_unfolding_all rfl) : PT X (.Compare a [op,op'] [b,c] pos) (zk9 (zf5 r r' ta tb tc)):= by
  intro pins s σ H Q I h
  refine isTrue_chain (thn (ha pins s σ H _ I h) fun v s1 ⟨x,H1,I1,r1,q1⟩ => test_link (thn (hb pins s1 σ H1 _ I1 q1) fun u s2 ⟨y,H2,I2,r2,q2⟩ =>
    thn (ho pins s2 σ H2 x y v u _ I2 r1 r2 q2) fun d s3 ⟨z,H3,I3,r3,k,e,q3⟩ => ?_)) hm
  subst e
  cases r3
  refine wpAny_truthy_bool ?_
  cases k with
  | false =>
    obtain ⟨k',e',q'⟩ := q3
    cases e'
    exact ite_ff ⟨H3,I3,q'⟩
  | true =>
    refine ite_tt (test_last (thn (hc pins s3 σ H3 _ I3 q3) fun w' s4 ⟨z',H4,I4,r4,q4⟩ => thn (ho' pins s4 σ H4 y z' u w' _ I4 r2 r4 q4) fun d' s5 ⟨z2,H5,I5,r5,k2,e2,q5⟩ => ?_))
    subst e2
    cases r5
    exact wpAny_truthy_bool ⟨H5,I5,q5⟩
def TruV (K : PySem.W.Frag) (x : V) (H : Hp) (k : Bool) : Prop :=
  match x with
  | .non => k = false
  | .bl b => k = b
  | .int i => k = (i != 0)
  | .str y => y.length ≤ sizeLine∧k = ((y.length : Int) != 0)
  | .byt y => y.size ≤ sizeLine∧k = ((y.size : Int) != 0)
  | .ref p => (∃ xs,SqL K H p xs∧k = !xs.isEmpty) ∨ (∃ xs,SqT K H p xs∧k = !xs.isEmpty) ∨ ∃ kvs,H p = some (.dK kvs)∧k = !kvs.isEmpty
  | _ => False
theorem z9g {κ : Type} {kvs : List (κ × V)} {vs : List (κ × Value)} (r : KV kvs vs) : (!vs.isEmpty) = !kvs.isEmpty:= by
  cases r <;> rfl
theorem z5b {xs : List V} {its : List Value} (r : Vals xs its) : (!its.toArray.isEmpty) = !xs.isEmpty:= by
  cases r <;> simp
theorem z5c : (sizeLine : Nat) < 2 ^ 63 := by rw [sizeLine_eq]; decide
theorem zka : TruR X (fun x H Q => ∃ k,TruV X.K x H k∧Q k H):= by
  intro pins s σ H x v Q I rx h
  obtain ⟨k,e,q⟩ := h
  have hl := z5c
  have hs : sizeLine = 16777216 := sizeLine_eq
  cases x with
  | non =>
    cases rx
    have e' : k = false := e
    subst e'
    exact truthy_none ⟨H,I,q⟩
  | bl b =>
    cases rx
    have e' : k = b := e
    subst e'
    exact wpAny_truthy_bool ⟨H,I,q⟩
  | int i =>
    obtain ⟨t,rfl⟩ := rx
    have e' : k = (i != 0) := e
    subst e'
    exact PySem.P.truthy_int ⟨H,I,q⟩
  | str y =>
    obtain ⟨t,rfl⟩ := rx
    obtain ⟨hy,e'⟩ : y.length ≤ sizeLine∧k = ((y.length : Int) != 0) := e
    subst e'
    exact PySem.P.truthy_str (by omega) ⟨H,I.tok _,q⟩
  | byt y =>
    obtain ⟨t,rfl⟩ := rx
    obtain ⟨hy,e'⟩ : y.size ≤ sizeLine∧k = ((y.size : Int) != 0) := e
    subst e'
    exact PySem.W.truthy_bytes (by omega) ⟨H,I.tok _,q⟩
  | ref p =>
    cases rx
    have e' : (∃ xs,SqL X.K H p xs∧k = !xs.isEmpty) ∨ (∃ xs,SqT X.K H p xs∧k = !xs.isEmpty) ∨ ∃ kvs,H p = some (.dK kvs)∧k = !kvs.isEmpty := e
    rcases e' with ⟨xs,hx,e'⟩ | ⟨xs,hx,e'⟩ | ⟨kvs,hx,e'⟩
    · subst e'
      obtain ⟨its,r,pl,hz⟩ := I.list hx
      have hlen := r.length
      exact wpAny_truthy_list pl.isList (by simp only [List.size_toArray]; omega) ⟨H,I.tok _,by rw [z5b r]; exact q⟩
    · subst e'
      obtain ⟨its,r,pl,hz⟩ := I.tuple hx
      have hlen := r.length
      exact truthy_tuple pl (by simp only [List.size_toArray]; omega) ⟨H,I.tok _,by rw [z5b r]; exact q⟩
    · subst e'
      obtain ⟨hz,hS,vs,r,m⟩ : kvs.length ≤ sizeLine∧(p == sysModules) = false∧∃ vs,KV kvs vs∧s.heap.DictOf (z7n X.prog X.w) p vs := I.hok p _ hx
      have hlen : kvs.length = vs.length := Paired.length r
      exact wpAny_truthy_dict hS m (by omega) ⟨H,I.tok _,by rw [z9g r]; exact q⟩
  | _ => exact (show False from e).elim
theorem zcv (ha : PE X a ta) (he : ∀ whole,isTrue a X.env whole = (do let v ← whole; standAt a.pos; holding [v] (truthy v))) :
    PT X a (fun σ H Q => ta σ H fun x H' => ∃ k,TruV X.K x H' k∧Q k H'):= by
  intro pins s σ H Q I h
  exact isTrue_plain (thn (ha pins s σ H _ I h) fun v s1 ⟨x,H1,I1,r1,q1⟩ => zka pins s1 σ H1 x v Q I1 r1 q1) (he _)
theorem z5u {x : V} {us : List Value} (r : Vals [x] us) : ∃ u,us = [u]∧RelV x u:= by
  cases r with
  | cons r1 r2 => cases r2; exact ⟨_,rfl,r1⟩
theorem za9 {x y : V} {us : List Value} (r : Vals [x,y] us) : ∃ u w',us = [u,w']∧RelV x u∧RelV y w':= by
  cases r with
  | cons r1 r2 =>
    cases r2 with
    | cons r3 r4 => cases r4; exact ⟨_,_,rfl,r1,r3⟩
theorem zcw : CallR X (.builtin "abs") (fun xs H Q => ∃ i,xs = [.int i]∧Q (.int (if i < 0 then -i else i)) H):= by
  intro pins s σ H xs us Q I r h
  obtain ⟨i,rfl,q⟩ := h
  obtain ⟨u,rfl,t,rfl⟩ := z5u r
  exact call_abs_int fun u tk => ⟨.int (if i < 0 then -i else i),H,I.tok _,⟨_,rfl⟩,q⟩
theorem zaa (hc : X.calm = true) : CallR X (.builtin "max") (fun xs H Q => ∃ i j,xs = [.int i,.int j]∧Q (.int (if j > i then j else i)) H):= by
  intro pins s σ H xs us Q I r h
  obtain ⟨i,j,rfl,q⟩ := h
  obtain ⟨u,w',rfl,⟨t,rfl⟩,⟨t',rfl⟩⟩ := za9 r
  refine max_two_ints (I.ok.hd hc) fun h' tk k => ⟨_,H,I.kept k, ?_,q⟩
  by_cases hj : j > i
  · rw [if_pos hj,if_pos hj]; exact ⟨_,rfl⟩
  · rw [if_neg hj,if_neg hj]; exact ⟨_,rfl⟩
theorem zab (hc : X.calm = true) : CallR X (.builtin "min") (fun xs H Q => ∃ i j,xs = [.int i,.int j]∧Q (.int (if j < i then j else i)) H):= by
  intro pins s σ H xs us Q I r h
  obtain ⟨i,j,rfl,q⟩ := h
  obtain ⟨u,w',rfl,⟨t,rfl⟩,⟨t',rfl⟩⟩ := za9 r
  refine min_two_ints (I.ok.hd hc) fun h' tk k => ⟨_,H,I.kept k, ?_,q⟩
  by_cases hj : j < i
  · rw [if_pos hj,if_pos hj]; exact ⟨_,rfl⟩
  · rw [if_neg hj,if_neg hj]; exact ⟨_,rfl⟩
end
section
variable {prog : Program} {w : World} {A : Around} {E : Value→Shared→Prop} {s : Shared} {K : PySem.W.Frag} {x dx C f : Addr} {mA : Str→Option Value} {name : Str} {v : Value}
end
section
variable {P : Program} {w : World} {H H' : Hp} {h h' : Heap} {a C dx : Addr} {fs fs' : List (Str × V)}
end
section
variable {X : Cx} {pins : List (Addr × Obj)} {σ : St} {H : Hp} {s : Shared} {a C dx : Addr} {fs : List (Str × V)} {f : Str} {v : V} {A : Around} {E : Value→Shared→Prop}
end
section
variable {X : Cx} {o e value : Expr} {f : Str} {pos pos' tpos : Pos} {ta tv : TE}
end
section
variable {X : Cx} {pins : List (Addr × Obj)} {σ : St} {H : Hp} {s : Shared} {A : Around} {E : Value→Shared→Prop} {Q : Value→Shared→Prop} {c : Value} {b : Bool}
end
structure Room (k : Nat) (A : Around) : Prop where
  hd : A.handled = none
  dp : A.depth + 3 * k + 5 < recursionLimit
  un : A.units + 16 * k + 200 < cLine
theorem Room.mono {j k : Nat} {A : Around} (r : Room k A) (h : j ≤ k) : Room j A := ⟨r.hd,by have := r.dp; omega,by have := r.un; omega⟩
theorem Room.deeper {k : Nat} {A : Around} (r : Room (k + 1) A) (env : Env) : Room k (A.deeper env) :=
  ⟨r.hd,by have := r.dp; show A.depth + 1 + 3 * k + 5 < _; omega,by have := r.un; show A.units + 3 + 16 * k + 200 < _; omega⟩
theorem Room.depth {k : Nat} {A : Around} (r : Room k A) : A.depth < recursionLimit := by have := r.dp; omega
theorem Room.units {k : Nat} {A : Around} (r : Room k A) : A.units + 64 < cLine := by have := r.un; omega
def tNil : TA:= fun _ H Q => Q [] H
def zkb (ta : TE) (tr : TA) : TA:= fun σ H Q => ta σ H fun x H1 => tr σ H1 fun xs H2 => Q (x :: xs) H2
section
variable {X : Cx} {e : Expr} {es : List Expr} {te : TE} {t : TA} {pos : Pos}
theorem z3s : PA X [] tNil:= fun _ _ _ _ H Q I h => Calls.spliced_nil ⟨[],H,I,.nil,h⟩
theorem z1r (ha : PE X e te) (hr : PA X es t) (hs : starEach (e :: es) X.env = (false,eval e X.env) :: starEach es X.env := by rfl) : PA X (e :: es) (zkb te t):= by
  intro pos pins s σ H Q I h
  rw [hs]
  show wpAny _ _ (spliced ((false,eval e X.env) :: backTo pos (starEach es X.env))) _ _ s
  refine Calls.spliced_cons (thn (ha pins s σ H _ I h) fun u s1 ⟨x,H1,I1,r1,q1⟩ => ?_)
  exact thn (hr pos pins s1 σ H1 _ I1 q1) fun us s2 ⟨xs,H2,I2,r2,q2⟩ => ⟨x :: xs,H2,I2,.cons r1 r2,q2⟩
def tTup (t : TA) : TE:= fun σ H Q => t σ H fun xs H1 => xs.length ≤ sizeLine∧∀ p,H1 p = none→Q (.ref p) (upd H1 p (.tup xs))
def tLst (t : TA) : TE:= fun σ H Q => t σ H fun xs H1 => xs.length ≤ sizeLine∧∀ p,H1 p = none→Q (.ref p) (upd H1 p (.lst xs))
theorem zf6 {x1} (h : PA X es t) : PE X (.Tuple es x1 pos) (tTup t):= by
  intro pins s σ H Q I hq
  refine wpAny_Tuple_spliced (thn (h pos pins s σ H _ I hq) fun us s1 ⟨xs,H1,I1,r,z,q⟩ => ⟨by rw [← r.length]; exact z, ?_⟩)
  have hf : H1 s1.heap.objs.size = none := I1.hok.fresh (Nat.le_refl _)
  refine ⟨.ref s1.heap.objs.size,upd H1 s1.heap.objs.size (.tup xs),I1.laid (t' := s1.toks) (fun b u e => Heap.get?_push_of_some _ e) (Nat.le_refl _) ?_,rfl,q _ hf⟩
  exact ⟨z,us,r,⟨_,Heap.get?_push_size _ rfl,rfl,rfl,_,rfl⟩⟩
theorem zkc (h : PA X es t) : PE X (.List es pos) (tLst t):= by
  intro pins s σ H Q I hq
  refine wpAny_List_spliced (thn (h pos pins s σ H _ I hq) fun us s1 ⟨xs,H1,I1,r,z,q⟩ => ⟨by rw [← r.length]; exact z, ?_⟩)
  have hf : H1 s1.heap.objs.size = none := I1.hok.fresh (Nat.le_refl _)
  refine ⟨.ref s1.heap.objs.size,upd H1 s1.heap.objs.size (.lst xs),I1.laid (t' := s1.toks) (fun b u e => Heap.get?_push_of_some _ e) (Nat.le_refl _) ?_,rfl,q _ hf⟩
  exact ⟨z,us,0,r,Heap.get?_push_size _ rfl⟩
end
abbrev Sp := List V→Hp→VK→XK→Prop
abbrev CXT := List Env→Hp→Shared→XK→Value→Shared→Prop
structure Env0 (P : Program) (w : World) (K : PySem.W.Frag) (mg : Str→Option Value) (base : Heap) (A : Around) (outer : List Env) (s : Shared) (H : Hp) : Prop where
  frames : A.frames = some outer
  mod : Mod K mg base
  bs : ∀ b o,base.get? b = some o→s.heap.get? b = some o∧H b = none
  bsz : base.objs.size ≤ s.heap.objs.size
  funs : s.heap.FunFrames base outer
  frf : ∀ b ∈ frs outer,H b = none
  hok : HOk P w H s.heap
  bare : AllBare s.gens
def CE (outer : List Env) (P : Program) (w : World) (H : Hp) (s : Shared) (Q : VK) (u : Value) (s' : Shared) : Prop :=
  ∃ v H',s'.os = s.os∧AllBare s'.gens∧Un (frs outer) [] H H' s.heap s'.heap∧HOk P w H' s'.heap∧RelV v u∧Q v H'
def CR (CX : CXT) (outer : List Env) (P : Program) (w : World) (H : Hp) (s : Shared) (Q : VK) (E : XK) (r : Result) (s' : Shared) : Prop :=
  match r with
  | .ok (.ret u) => CE outer P w H s Q u s'
  | .ok _ => False
  | .error e => CX outer H s E e s'
structure FnOk (P : Program) (w : World) (K : PySem.W.Frag) (mg : Str→Option Value) (base : Heap) (CX : CXT) (k : Nat) (f : Addr) (fd : FuncData) (ps : List Str) (sp : Sp) : Prop where
  len : ∀ vs H Q E,sp vs H Q E→vs.length = ps.length
  run : ∀ (A : Around) (outer : List Env) (s : Shared) (H : Hp) (args : Args) (us : List Value) (vs : List V) (Q : VK) (E : XK),Room k A→Env0 P w K mg base A outer s H→BindsTo s fd args (ps.zip us)→Vals vs us→sp vs H Q E →
    codeAny (model P w) A (.call (.ref f) args) (CR CX outer P w H s Q E) s
theorem FnOk.mono {P : Program} {w : World} {K : PySem.W.Frag} {mg : Str→Option Value} {base : Heap} {CX : CXT} {j k : Nat} {f : Addr} {fd : FuncData} {ps : List Str} {sp : Sp} (F : FnOk P w K mg base CX j f fd ps sp) (h : j ≤ k) :
    FnOk P w K mg base CX k f fd ps sp := ⟨F.len,fun A outer s H args us vs Q E hr => F.run A outer s H args us vs Q E (hr.mono h)⟩
section
variable {X : Cx} {pins : List (Addr × Obj)} {σ : St} {H : Hp} {s s' : Shared}
theorem Inv.env0 (I : Inv X pins σ H s) : Env0 X.prog X.w X.K X.mg X.base X.A X.stack s H :=
  ⟨I.ok.frames,I.ok.mod,I.bs,Nat.le_trans I.ok.bsz I.sz,I.stack,I.stkFree,I.hok,I.bare⟩
theorem Inv.after {Q : VK} {u : Value} (I : Inv X pins σ H s) (h : CE X.stack X.prog X.w H s Q u s') : EP X pins σ Q u s':= by
  obtain ⟨v,H',os,bare,un,hok,r,q⟩ := h
  obtain ⟨hh,g,d,t,os'⟩ := s'
  obtain rfl : os' = s.os := os
  exact ⟨v,H',I.call (h' := hh) (g' := g) (d' := d) (t' := t) (ch := []) un hok bare (fun b z => absurd z (by simp)),r,q⟩
end
def zn3 (sp : Sp) (dvs : List V) (E : XK) (t : TA) : TE:= fun σ H Q => t σ H fun vs H1 => sp (vs ++ dvs) H1 Q E
def Binds (K : PySem.W.Frag) (fd : FuncData) (ps : List Str) (ds : List Value) : Prop :=
  ∀ (s : Shared) (us : List Value),K.In s.heap→(us ++ ds).length = ps.length→BindsTo s fd ⟨us,[]⟩ (ps.zip (us ++ ds))
theorem Binds.all {K : PySem.W.Frag} {fd : FuncData} {ps : List Str} (h : ∀ us : List Value,us.length = ps.length→bindArgs fd ⟨us,[]⟩ = pure (ps.zip us)) : Binds K fd ps []:= fun s us _ hl => by
  rw [List.append_nil] at hl ⊢
  exact .of_eq (h us hl)
def zac (CX : CXT) (X : Cx) (E : XK) : Prop := ∀ (pins : List (Addr × Obj)) (σ : St) (H : Hp) (s : Shared) (e : Value) (s' : Shared),Inv X pins σ H s→CX X.stack H s E e s'→X.xe e s'
section
variable {X : Cx} {CX : CXT} {k : Nat} {f C : Addr} {fd : FuncData} {ps : List Str} {sp : Sp} {dvs : List V} {ds : List Value} {E : XK} {x m : Str} {p pos apos : Pos} {e o : Expr} {es : List Expr} {ta : TE} {t : TA}
theorem zkd {pins : List (Addr × Obj)} {σ : St} {H : Hp} {s : Shared} {Q : VK} {us : List Value} {vs : List V} (F : FnOk X.prog X.w X.K X.mg X.base CX k f fd ps sp) (hr : Room k X.A) (hb : Binds X.K fd ps ds) (hd : Vals dvs ds) (hx : zac CX X E)
    (I : Inv X pins σ H s) (r : Vals vs us) (h : sp (vs ++ dvs) H Q E) : wpAny (model X.prog X.w) X.A (call (.ref f) us) (EP X pins σ Q) X.xe s:= by
  have r2 : Vals (vs ++ dvs) (us ++ ds) := r.append hd
  have hl : (us ++ ds).length = ps.length := by rw [← r2.length]; exact F.len _ _ _ _ h
  refine wpAny_call (codeAny_mono (F.run X.A X.stack s H ⟨us,[]⟩ (us ++ ds) (vs ++ dvs) Q E hr I.env0 (hb s us I.kIn hl) r2 h) fun r s' hq => ?_)
  cases r with
  | error e => exact hx pins σ H s e s' I hq
  | ok fl =>
    cases fl with
    | ret u => exact I.after hq
    | next => exact False.elim hq
    | brk => exact False.elim hq
    | cont => exact False.elim hq
theorem zgl (F : FnOk X.prog X.w X.K X.mg X.base CX k f fd ps sp) (hr : Room k X.A) (hg : Gl X x) (hm : X.mg x = some (.ref f)) (hk : PySem.W.keepIn X.K (.ref f) = true) (hb : Binds X.K fd ps ds) (hd : Vals dvs ds) (hx : zac CX X E)
    (ha : PA X (e :: es) t) (hdb : (x == ("__debug__" : Str)) = false := by decide) (he : starEach (e :: es) X.env = (false,eval e X.env) :: starEach es X.env := by rfl) (hpl : (backTo pos (starEach es X.env)).any (·.1) = false := by rfl) :
    PE X (.Call (.Name x p) (e :: es) [] pos) (zn3 sp dvs E t):= by
  intro pins s σ H Q I h
  refine wpAny_Call_Name_kw (z47 I hg hm ?_ hdb)
  refine PySem.W.callWith_K (h₀ := X.base) I.ok.mod.kin hk (thn (ha pos pins s σ H _ I h) fun us s1 ⟨vs,H1,I1,r,q⟩ => ⟨I1.kIn, ?_⟩) he hpl
  exact zkd F hr hb hd hx I1 r q
end
section
variable {X : Cx} {CX : CXT} {k : Nat} {f C : Addr} {fd : FuncData} {ps ks : List Str} {sp : Sp} {E : XK} {x m : Str} {p pos apos kpos : Pos} {e o : Expr} {es : List Expr} {kws : List Keyword} {te ta : TE} {t tk : TA} {nm : Option Str}
variable {g : List Value→List Value→List Value} {gV : List V→List V→List V}
end
structure FnScope (N P : List Str) (sc : Scope) : Prop where
  kind : sc.kind = .function
  co : sc.isCoroutine = false
  gen : sc.isGenerator = false
  nd : N.Nodup
  pre : N.take P.length = P
  par : ∀ x ∈ P,sc.names.lookup x = some .local ∨ sc.names.lookup x = some .cell
  nofree : ∀ y ∈ sc.names,y.2 ≠ .free
theorem z6n {kindOf : Str→Option NameKind} {x : Str} : ∀ {binds : List (Str × Value)} {m : Str→Option Value},(∀ v,(x,v) ∉ binds)→bindL kindOf binds m x = m x
  | [],_,_ => rfl
  | (n,v) :: r,m,h => by
    unfold bindL
    rw [z6n fun w hw => h w (List.mem_cons_of_mem _ hw)]
    split
    · have : x ≠ n := by rintro rfl; exact h v List.mem_cons_self
      simp [this]
    · rfl
theorem z6o {kindOf : Str→Option NameKind} {x : Str} : ∀ {binds : List (Str × Value)} {m : Str→Option Value},(∀ v,(x,v) ∉ binds)→bindC kindOf binds m x = m x
  | [],_,_ => rfl
  | (n,v) :: r,m,h => by
    unfold bindC
    rw [z6o fun w hw => h w (List.mem_cons_of_mem _ hw)]
    split
    · rfl
    · have : x ≠ n := by rintro rfl; exact h v List.mem_cons_self
      simp [this]
theorem z6p {kindOf : Str→Option NameKind} {x : Str} {v : Value} : ∀ {P : List Str} {vs : List Value} {i : Nat} {m : Str→Option Value},P.Nodup→P[i]? = some x→vs[i]? = some v→kindOf x = some .local →
    bindL kindOf (P.zip vs) m x = some v
  | [],_,_,_,_,h,_,_ => by simp at h
  | _ :: _,[],_,_,_,_,h,_ => by simp at h
  | p :: P,w :: vs,0,m,nd,h1,h2,hk => by
    simp at h1 h2; subst h1; subst h2
    show bindL kindOf ((p,w) :: P.zip vs) m p = _
    unfold bindL
    rw [z6n fun v hv => (List.nodup_cons.mp nd).1 (List.of_mem_zip hv).1,if_pos hk]
    simp
  | p :: P,w :: vs,i + 1,m,nd,h1,h2,hk => by
    show bindL kindOf ((p,w) :: P.zip vs) m x = _
    unfold bindL
    exact z6p (i := i) (List.nodup_cons.mp nd).2 (by simpa using h1) (by simpa using h2) hk
theorem z6q {kindOf : Str→Option NameKind} {x : Str} {v : Value} : ∀ {P : List Str} {vs : List Value} {i : Nat} {m : Str→Option Value},P.Nodup→P[i]? = some x→vs[i]? = some v→kindOf x ≠ some .local →
    bindC kindOf (P.zip vs) m x = some v
  | [],_,_,_,_,h,_,_ => by simp at h
  | _ :: _,[],_,_,_,_,h,_ => by simp at h
  | p :: P,w :: vs,0,m,nd,h1,h2,hk => by
    simp at h1 h2; subst h1; subst h2
    show bindC kindOf ((p,w) :: P.zip vs) m p = _
    unfold bindC
    rw [z6o fun v hv => (List.nodup_cons.mp nd).1 (List.of_mem_zip hv).1,if_neg hk]
    simp
  | p :: P,w :: vs,i + 1,m,nd,h1,h2,hk => by
    show bindC kindOf ((p,w) :: P.zip vs) m x = _
    unfold bindC
    exact z6q (i := i) (List.nodup_cons.mp nd).2 (by simpa using h1) (by simpa using h2) hk
def start (N : List Str) (vs : List V) : St := vs.map some ++ List.replicate (N.length - vs.length) none
def cxOf (CX : CXT) (P : Program) (w : World) (K : PySem.W.Frag) (mg : Str→Option Value) (base : Heap) (N : List Str) (qual : Str) (scope : Scope) (f : Addr) (cd : Value) (A : Around) (outer : List Env) (s : Shared) (H : Hp) (E : XK) : Cx where
  prog := P
  w := w
  K := K
  mg := mg
  base := base
  A := A.deeper (envOfC qual scope s.heap.objs.size f cd)
  N := N
  s₀ := s
  H₀ := H
  env := envOfC qual scope s.heap.objs.size f cd
  outer := outer
  stack := envOfC qual scope s.heap.objs.size f cd :: outer
  ex := []
  calm := true
  fn:= fun _ => true
  pn := []
  xe:= fun e s' => wpAny (model P w) (A.deeper (envOfC qual scope s.heap.objs.size f cd)) (leaving (envOfC qual scope s.heap.objs.size f cd) e) (fun _ s'' => CX outer H s E e s'') (fun e' s'' => CX outer H s E e' s'') s'
theorem z8e {sc : Scope} {n : Nat} {x : Str} (h : sc.names.lookup x = some .cell) : ∃ c,(cellsFrom n sc.names []).lookup x = some c:= by
  have q := PySem.W.cellsFrom_some sc.names n [] (.inl h)
  exact Option.isSome_iff_exists.mp q
theorem zad {CX : CXT} {P : Program} {w : World} {K : PySem.W.Frag} {mg : Str→Option Value} {base : Heap} {N ps : List Str} {qual : Str} {scope : Scope} {f : Addr} {cd : Value} {A : Around} {outer : List Env} {s s1 : Shared} {H : Hp} {E : XK} {us : List Value} {vs : List V}
    (S : FnScope N ps scope) (hd : A.handled = none) (e0 : Env0 P w K mg base A outer s H) (hl : vs.length = ps.length) (r : Vals vs us)
    (x : InCallC s s.heap.objs.size (bindL (envOfC qual scope s.heap.objs.size f cd).kindOf (ps.zip us) fun _ => none) (cellsFrom (s.heap.objs.size + 1) scope.names []) (bindC (envOfC qual scope s.heap.objs.size f cd).kindOf (ps.zip us) fun _ => none) s1) :
    Inv (cxOf CX P w K mg base N qual scope f cd A outer s H E) [] (start N vs) H s1:= by
  have hpl : ps.length ≤ N.length := by have := congrArg List.length S.pre; rw [List.length_take] at this; omega
  obtain ⟨h1,tk,rfl,hk⟩ := x.done
  have noA : ∀ b : Addr,b ∉ (cxOf CX P w K mg base N qual scope f cd A outer s H E).ex:= fun b z => absurd (show b ∈ ([] : List Addr) from z) (by simp)
  refine ⟨⟨e0.mod,S.kind,rfl,rfl,Nat.le_refl _,fun y z c h1 h2 => ?_,fun y hy => ?_,fun y c _ h => ?_,fun _ => hd,Around.frames_deeper e0.frames,.inr ⟨rfl,rfl⟩,fun b z => absurd z (noA b),e0.bs,e0.bsz,fun b _ _ => noA b,fun b z => absurd z (noA b),e0.funs,e0.frf⟩,
    rfl,e0.bare,Un.kept hk,⟨_,x.toInCall.ns,fun i y v h1 h2 h3 => ?_⟩,fun y c h => ⟨_,x.cell y c h⟩,e0.hok.fresh (Nat.le_refl _),fun y c h => ?_,fun p hp => absurd (show p ∈ ([] : List (Addr × Obj)) from hp) (by simp),e0.hok.kept hk, ?_⟩
  · exact name_of_addr x.apart (PySem.mem_of_lookup h1) (PySem.mem_of_lookup h2)
  · have hy : scope.names.lookup y = some .cell ∨ scope.names.lookup y = some .free := hy
    rcases hy with hy | hy
    · exact z8e hy
    · exact absurd rfl (S.nofree _ (PySem.mem_of_lookup hy))
  · exact Nat.le_of_lt (x.above y c (PySem.mem_of_lookup h))
  · have hi : i < vs.length:= by
      unfold start at h2
      by_cases hi : i < vs.length
      · exact hi
      · rw [List.getElem?_append_right (by simpa using hi)] at h2
        rw [List.getElem?_replicate] at h2
        split at h2 <;> cases h2
    have ha : vs[i]? = some v:= by
      unfold start at h2
      rw [List.getElem?_append_left (by simpa using hi),List.getElem?_map] at h2
      cases e : vs[i]? with
      | none => rw [e] at h2; cases h2
      | some a => rw [e] at h2; cases h2; rfl
    obtain ⟨u,hu,rv⟩ := r.get ha
    have hp : ps[i]? = some y:= by
      rw [← S.pre,List.getElem?_take_of_lt (by omega)]; exact h1
    have ndP : ps.Nodup := by rw [← S.pre]; exact S.nd.sublist (List.take_sublist _ _)
    refine ⟨u,rv, ?_⟩
    rcases S.par y (List.mem_of_getElem? hp) with k | k
    · exact .inl ⟨k,z6p ndP hp hu k⟩
    · obtain ⟨c,e⟩ := z8e (n := s.heap.objs.size + 1) k
      refine .inr ⟨.inl k,c,e, ?_⟩
      have q := x.cell y c e
      rw [z6q ndP hp hu (by show scope.names.lookup y ≠ _; rw [k]; decide)] at q
      exact q
  · exact e0.hok.fresh (Nat.le_of_lt (x.above y c (PySem.mem_of_lookup h)))
  · unfold start
    show _ = N.length
    rw [List.length_append,List.length_map,List.length_replicate]
    omega
theorem zcx {CX : CXT} {P : Program} {w : World} {K : PySem.W.Frag} {mg : Str→Option Value} {base : Heap} {k : Nat} {f : Addr} {name qual : Str} {params : Arguments} {body : List Stmt} {scope : Scope} {dV kV doc pm cdv ct oc : Value} {an od : Option Addr}
    {osl : Array (Option Value)} {N ps : List Str} {sp : Sp} (lk : K.lookup f = some ⟨oc,od,.func (PySem.W.fnOf name qual params body scope dV kV doc pm an cdv ct),osl⟩) (hcd : PySem.W.codeIn K cdv qual = true) (S : FnScope N ps scope)
    (len : ∀ vs H Q E,sp vs H Q E→vs.length = ps.length)
    (hbody : ∀ (A : Around) (outer : List Env) (s : Shared) (H : Hp) (vs : List V) (Q : VK) (E : XK),Room k (A.deeper (envOfC qual scope s.heap.objs.size f cdv))→sp vs H Q E →
      ∃ t,PSs (cxOf CX P w K mg base N qual scope f cdv A outer s H E) body t∧t { nx:= fun _ H' => Q .non H',rt := Q } (start N vs) H) :
    FnOk P w K mg base CX (k + 1) f (PySem.W.fnOf name qual params body scope dV kV doc pm an cdv ct) ps sp:= by
  refine ⟨len,fun A outer s H args us vs Q E hr e0 hb r hsp => ?_⟩
  have hl := len _ _ _ _ hsp
  have KX : K.In s.heap := e0.mod.kin.keeps fun b o e => (e0.bs b o e).1
  have lim : s.heap.NoLimit := e0.mod.nolimit.keeps fun b o e => (e0.bs b o e).1
  have hkind : ∀ y ∈ ps.zip us,scope.names.lookup y.1 = some .local ∨ (scope.names.lookup y.1 = some .cell∧((cellsFrom (s.heap.objs.size + 1) scope.names []).lookup y.1).isSome = true):= fun ⟨n,v⟩ hy => by
    rcases S.par n (List.of_mem_zip hy).1 with q | q
    · exact .inl q
    · exact .inr ⟨q,PySem.W.cellsFrom_some _ _ _ (.inl q)⟩
  refine codeAny_call_function hr.depth (KX _ _ lk) rfl S.co S.gen rfl (PySem.W.codeRec_of KX hcd) (hb _ _ _ _ ?_)
  refine wpAny_newFunctionEnv_cells S.kind hkind fun env he s1 x => ?_
  subst he
  refine ⟨lim.keeps x.toInCall.keep,codeAny_func ?_⟩
  obtain ⟨t,ht,hq⟩ := hbody A outer s H vs Q E (hr.deeper _) hsp
  have I : Inv (cxOf CX P w K mg base N qual scope f cdv A outer s H E) [] (start N vs) H s1 := zad S hr.hd e0 hl r x
  refine wpAny_mono (ht [] s1 (start N vs) H _ I hq) (fun fl s' hs => ?_) fun e s' hs => hs
  have fin : ∀ {σ' : St} {H' : Hp} {v : V} {u : Value},Inv (cxOf CX P w K mg base N qual scope f cdv A outer s H E) [] σ' H' s'→RelV v u→Q v H'→CE outer P w H s Q u s' :=
    fun {σ' H' v u} J rv q => ⟨v,H',J.os,J.bare,J.base,J.hok,rv,q⟩
  cases fl with
  | ret u =>
    obtain ⟨v,σ',H',J,rv,q⟩ := hs
    exact fin J rv q
  | next =>
    obtain ⟨σ',H',J,q⟩ := hs
    exact fin (v := V.non) (u := Value.none) J rfl q
  | brk =>
    obtain ⟨_,_,_,q⟩ := hs
    exact False.elim q
  | cont =>
    obtain ⟨_,_,_,q⟩ := hs
    exact False.elim q
section
variable {X : Cx} {x : Str} {p pos : Pos} {e : Expr} {es : List Expr} {t : TA} {id T : String} {r : List V→Hp→VK→Prop}
def tCB (r : List V→Hp→VK→Prop) (t : TA) : TE:= fun σ H Q => t σ H fun vs H1 => r vs H1 Q
theorem z3z (hc : CallR X (.builtin id) r) (hg : Gl X x) (hm : X.mg x = none) (hv : bootBuiltins x = some (.builtin id)) (ha : PA X (e :: es) t) (hn : x ≠ "__name__" := by decide) (hdb : (x == ("__debug__" : Str)) = false := by decide)
    (he : starEach (e :: es) X.env = (false,eval e X.env) :: starEach es X.env := by rfl) (hpl : (backTo pos (starEach es X.env)).any (·.1) = false := by rfl) : PE X (.Call (.Name x p) (e :: es) [] pos) (tCB r t):= by
  intro pins s σ H Q I h
  refine wpAny_Call_Name_kw (z5a I hg hm hv ?_ hn hdb)
  exact PyProof.Rows.callWith_builtin1 (thn (ha pos pins s σ H _ I h) fun us s1 ⟨vs,H1,I1,r1,q1⟩ => hc pins s1 σ H1 vs us Q I1 r1 q1) he hpl
theorem zae (hc : CallR X (.type T) r) (hg : Gl X x) (hm : X.mg x = none) (hv : bootBuiltins x = some (.type T)) (ha : PA X (e :: es) t) (hn : x ≠ "__name__" := by decide) (hdb : (x == ("__debug__" : Str)) = false := by decide)
    (he : starEach (e :: es) X.env = (false,eval e X.env) :: starEach es X.env := by rfl) (hpl : (backTo pos (starEach es X.env)).any (·.1) = false := by rfl) : PE X (.Call (.Name x p) (e :: es) [] pos) (tCB r t):= by
  intro pins s σ H Q I h
  refine wpAny_Call_Name_kw (z5a I hg hm hv ?_ hn hdb)
  exact PyProof.Rows.callWith_type1 (thn (ha pos pins s σ H _ I h) fun us s1 ⟨vs,H1,I1,r1,q1⟩ => hc pins s1 σ H1 vs us Q I1 r1 q1) he hpl
end
end L2
namespace HT
open PySem PyProof.Rows
section
open PySem.SeqAt
open PySem.AutoSeq1 (wpAny_loadPart')
open PySem.MeetsSeq PySem.MeetsSeq2 PySem.MeetsSeq3
end
section
variable {prog : Program} {w : World} {A : Around} {E : Value→Shared→Prop} {s : Shared}
theorem cat_tup {t b : Addr} {vs ws : List Value} {Q : Value→Shared→Prop} (ht : IsTup s.heap t vs.toArray) (hb : IsTup s.heap b ws.toArray) (hv : vs ≠ [])
    (h1 : ws = []→Q (.ref t) s) (h2 : ws ≠ []→Q (.ref s.heap.objs.size) { s with heap := s.heap.push { cls := .type "tuple",data := .seq (vs ++ ws).toArray } })
    (hsz : vs.length + ws.length ≤ sizeLine) : wpAny (model prog w) A (binaryOp .Add (.ref t) (.ref b)) Q E s:= by
  obtain ⟨⟨cls,dd,data,sl⟩,ho,hc,n,hd⟩ := id ht
  obtain ⟨⟨cls2,dd2,data2,sl2⟩,ho2,hc2,n2,hd2⟩ := id hb
  simp only at hc hd hc2 hd2
  subst hc hd hc2 hd2
  have e : vs.toArray ++ ws.toArray = (vs ++ ws).toArray := by simp
  by_cases hw : ws = []
  · exact concat_meets ⟨_,ho,rfl⟩ ⟨_,ho2,rfl⟩ noFill_tuple_add seq_tuple_add PySem.F.slot_tuple_add PySem.F.entry_tuple_add (PySem.F.args_tuple_add_2 _ _)
      (tuple_addW1 t b vs.toArray ws.toArray n n2 dd dd2 sl sl2 (by simpa using hv) (by simp [hw])) ⟨ho,ho2,h1 hw⟩
  · refine concat_meets ⟨_,ho,rfl⟩ ⟨_,ho2,rfl⟩ noFill_tuple_add seq_tuple_add PySem.F.slot_tuple_add PySem.F.entry_tuple_add (PySem.F.args_tuple_add_2 _ _)
      (tuple_addW2 t b vs.toArray ws.toArray n n2 dd dd2 sl sl2 (by simpa using hv) (by simpa using hw) (by rw [List.size_toArray,List.size_toArray]; exact hsz)) ⟨ho,ho2, ?_⟩
    rw [e]
    exact h2 hw
def sIx (n d : Nat) : Option Int→Nat
  | none => d
  | some v => if v < 0 then (v + (n : Int)).toNat else min v.toNat n
theorem sIx_none (n d : Nat) : sIx n d none = d := rfl
theorem zke (n d : Nat) (hd : d ≤ n) (o : Option Int) : sIx n d o ≤ n:= by
  cases o with
  | none => exact hd
  | some v =>
    show (if v < 0 then (v + (n : Int)).toNat else min v.toNat n) ≤ n
    by_cases hv : v < 0
    · rw [if_pos hv]; omega
    · rw [if_neg hv]; exact Nat.min_le_right _ _
theorem zaf (v : Int) (n d : Nat) : (if v < 0 then max (v + (n : Int)) 0 else min v (n : Int)) = ((sIx n d (some v) : Nat) : Int):= by
  show (if v < 0 then max (v + (n : Int)) 0 else min v (n : Int)) = (((if v < 0 then (v + (n : Int)).toNat else min v.toNat n) : Nat) : Int)
  by_cases hv : v < 0
  · simp only [if_pos hv]; omega
  · simp only [if_neg hv]; omega
theorem z9h (lo hi : Option Int) (n : Nat) : Builtin.Slice.sliceAdjust lo hi 1 (n : Int) = (((sIx n 0 lo : Nat) : Int),((sIx n n hi : Nat) : Int)):= by
  have h1 : ¬ ((1 : Int) < 0) := by omega
  unfold Builtin.Slice.sliceAdjust
  simp only [h1,if_false]
  refine Prod.ext ?_ ?_
  · cases lo with
    | none => rfl
    | some v => exact zaf v n 0
  · cases hi with
    | none => rfl
    | some v => exact zaf v n n
theorem z9i (i j : Nat) : Builtin.Slice.slicePlaces (i : Int) (j : Int) 1 = j - i:= by
  unfold Builtin.Slice.slicePlaces
  have h1 : (1 : Int) > 0 := by omega
  simp only [h1,if_true,Int.ediv_one]
  split <;> omega
theorem z5d {v : Value} {o : Option Int} {Q : Option Int→Shared→Prop} (p : IsPart v o) (h : Q o s) : wpAny (model prog w) A (Builtin.Slice.slicePartIndex v) Q E s:= by
  cases p with
  | none => exact slicePart_none h
  | int i t => exact slicePart_int h
theorem z3v {sl : Addr} {vl vu : Value} {lo hi : Option Int} {n : Nat} {Q : Int × Int × Nat→Shared→Prop} (hs : s.heap.IsSliceOf sl vl vu .none) (pl : IsPart vl lo) (pu : IsPart vu hi)
    (h : Q (((sIx n 0 lo : Nat) : Int),1,sIx n n hi - sIx n 0 lo) s) : wpAny (model prog w) A (Builtin.Slice.sliceApplied (.ref sl) (pure (n : Int))) Q E s:= by
  obtain ⟨os,hos,hcs,hds⟩ := id hs
  unfold Builtin.Slice.sliceApplied Builtin.Slice.sliceFields
  refine wpAny_bind (wpAny_bind (wpAny_field hos hds (x := vl) rfl (wpAny_bind (wpAny_field hos hds (x := vu) rfl (wpAny_bind (wpAny_field hos hds (x := .none) rfl (wpAny_pure ?_)))))))
  refine wpAny_bind (slicePart_none ?_)
  show wpAny _ _ (if ((1 : Int) == 0) = true then _ else _) _ _ s
  rw [if_neg (by decide)]
  refine wpAny_bind (z5d pl (wpAny_bind (z5d pu (wpAny_bind (wpAny_pure ?_)))))
  show wpAny _ _ (match Builtin.Slice.sliceAdjust lo hi 1 (n : Int) with | (lo,hi) => pure (lo,(1 : Int),Builtin.Slice.slicePlaces lo hi 1)) _ _ s
  rw [z9h lo hi n]
  show wpAny _ _ (pure (((sIx n 0 lo : Nat) : Int),(1 : Int),Builtin.Slice.slicePlaces ((sIx n 0 lo : Nat) : Int) ((sIx n n hi : Nat) : Int) 1)) _ _ s
  rw [z9i]
  exact wpAny_pure h
theorem zcy (xs : Array Value) (i k : Nat) : ((List.range k).filterMap fun (m : Nat) => xs[((i : Int) + (m : Int) * 1).toNat]?).toArray = ((xs.toList.drop i).take k).toArray:= by
  have e : (fun (m : Nat) => xs[((i : Int) + (m : Int) * 1).toNat]?) = fun m => xs[i + m]?:= by
    funext m
    have : ((i : Int) + (m : Int) * 1).toNat = i + m := by omega
    rw [this]
  rw [e]
  have := pick_run xs i k
  rw [List.filterMap_map] at this
  have e2 : ((fun x => xs[x]?) ∘ fun x => i + x) = fun m => xs[i + m]? := rfl
  rw [e2] at this
  rw [this]
theorem getItem_tuple_cut {t sl : Addr} {items : Array Value} {vl vu : Value} {lo hi : Option Int} {Q : Value→Shared→Prop} (ht : IsTup s.heap t items) (hs : s.heap.IsSliceOf sl vl vu .none) (pl : IsPart vl lo) (pu : IsPart vu hi)
    (hw : ¬ (sIx items.size 0 lo = 0∧sIx items.size items.size hi = items.size))
    (h : Q (.ref s.heap.objs.size) { s with heap := s.heap.push { cls := .type "tuple",data := .seq ((items.toList.drop (sIx items.size 0 lo)).take (sIx items.size items.size hi - sIx items.size 0 lo)).toArray } })
    (hsz : items.size ≤ sizeLine) : wpAny (model prog w) A (getItem (.ref t) (.ref sl)) Q E s:= by
  have htake : sizeOk (.seq ((items.toList.drop (sIx items.size 0 lo)).take (sIx items.size items.size hi - sIx items.size 0 lo)).toArray):= by
    show ((items.toList.drop (sIx items.size 0 lo)).take (sIx items.size items.size hi - sIx items.size 0 lo)).toArray.size ≤ sizeLine
    rw [List.size_toArray,List.length_take,List.length_drop,Array.length_toList]
    omega
  have hj : sIx items.size items.size hi ≤ items.size := zke _ _ (Nat.le_refl _) hi
  obtain ⟨os,hos,hcs,hds⟩ := id hs
  have hTs : s.TypeIs (.ref sl) "slice" := ⟨os,hos,hcs⟩
  unfold getItem
  try with_reducible refine wpAny_holding ?_
  first | refine wpAny_bind (wpAny_pure ?_) | skip
  refine wpAny_bind (wpAny_sequenceKey ht.typeIs (by decide) ?_)
  refine wpAny_bind (wpAny_callSpecial?_slot (name := Str.ofString "__getitem__") ht.typeIs PyProof.Rows.slot_tuple_getitem
    (wpAny_call_entry PyProof.Rows.slot_tuple_getitem ht.typeIs entry_tuple_getitem ?_ (args_tuple_getitem _ _)))
  show wpAny _ _ (Builtin.Tuple.tupleItemsOf (.ref t) >>= _) _ _ s
  refine wpAny_bind (tupleItemsOf_ ht ?_)
  refine wpAny_bind (wpAny_typeOf hTs ?_)
  rw [if_pos (by decide)]
  refine wpAny_bind (z3v hs pl pu ?_)
  have hno : ¬ ((((sIx items.size 0 lo : Nat) : Int) == 0 && (1 : Int) == 1 && (sIx items.size items.size hi - sIx items.size 0 lo) == items.size) = true):= by
    intro q
    rw [Bool.and_eq_true,Bool.and_eq_true] at q
    have q1 : ((sIx items.size 0 lo : Nat) : Int) = 0 := eq_of_beq q.1.1
    have q2 : sIx items.size items.size hi - sIx items.size 0 lo = items.size := eq_of_beq q.2
    exact hw ⟨by omega,by omega⟩
  show wpAny _ _ (if (((sIx items.size 0 lo : Nat) : Int) == 0 && (1 : Int) == 1 && (sIx items.size items.size hi - sIx items.size 0 lo) == items.size) = true then _ else _) _ _ s
  rw [if_neg hno,zcy]
  first
    | exact wpAny_bind (m := Builtin.Tuple.tupleExact _) (wpAny_newObj_type (wpAny_pure ⟨_,rfl,wpAny_pure h⟩) htake)
    | exact wpAny_bind (m := Builtin.Tuple.tupleExact _) (wpAny_newObj_type (wpAny_bind (wpAny_pure (wpAny_pure ⟨_,rfl,wpAny_pure h⟩))) htake)
    | exact wpAny_bind (wpAny_bind (m := Builtin.Tuple.tupleExact _) (wpAny_newObj_type (wpAny_pure (wpAny_pure ⟨_,rfl,wpAny_pure h⟩)) htake))
    | exact wpAny_bind (wpAny_bind (m := Builtin.Tuple.tupleExact _) (wpAny_newObj_type (wpAny_pure ⟨_,rfl,wpAny_pure h⟩) htake))
end
end HT
namespace L2
open PySem PySem.Spec PyProof.Rows
abbrev TO := St→Hp→(Option Int→Hp→Prop)→Prop
def PO (X : Cx) (e : Option Expr) (t : TO) : Prop :=
  ∀ (pins : List (Addr × Obj)) (s : Shared) (σ : St) (H : Hp) (Q : Option Int→Hp→Prop),Inv X pins σ H s→t σ H Q →
    wpAny (model X.prog X.w) X.A (evalPart e X.env) (fun u s' => ∃ o H',Inv X pins σ H' s'∧IsPart u o∧Q o H') X.xe s
def zgm : TO:= fun _ H Q => Q none H
def zn4 (t : TE) : TO:= fun σ H Q => t σ H fun x H1 => ∃ i,x = .int i∧Q (some i) H1
section
variable {X : Cx} {e : Expr} {te : TE} {lo hi : Option Expr} {tl th : TO} {pos p2 : Pos}
theorem zgn : PO X none zgm:= by
  intro pins s σ H Q I h
  rw [evalPart_none]
  exact wpAny_pure ⟨none,H,I,.none,h⟩
theorem zgo (h : PE X e te) : PO X (some e) (zn4 te):= by
  intro pins s σ H Q I hw
  rw [evalPart_some]
  refine thn (h pins s σ H _ I hw) fun u s1 ⟨x,H1,I1,r1,q1⟩ => ?_
  obtain ⟨i,rfl,q⟩ := q1
  obtain ⟨t,rfl⟩ := r1
  exact ⟨some i,H1,I1,.int i t,q⟩
def SlR (X : Cx) (r : V→Option Int→Option Int→Hp→VK→Prop) : Prop :=
  ∀ (pins : List (Addr × Obj)) (s : Shared) (σ : St) (H : Hp) (x : V) (v vl vu : Value) (lo hi : Option Int) (sl : Addr) (Q : VK),Inv X pins σ H s→RelV x v→s.heap.IsSliceOf sl vl vu .none→IsPart vl lo→IsPart vu hi→r x lo hi H Q →
    ∃ T id,typeLookup (.type T) "__getitem__" = pure (some (.builtin id))∧s.TypeIs v T∧wpAny (model X.prog X.w) X.A (getItem v (.ref sl)) (EP X pins σ Q) X.xe s
theorem SlR.or {r r' : V→Option Int→Option Int→Hp→VK→Prop} (h : SlR X r) (h' : SlR X r') : SlR X (fun x lo hi H Q => r x lo hi H Q ∨ r' x lo hi H Q):= by
  intro pins s σ H x v vl vu lo hi sl Q I rx hs pl pu q
  rcases q with q | q
  · exact h pins s σ H x v vl vu lo hi sl Q I rx hs pl pu q
  · exact h' pins s σ H x v vl vu lo hi sl Q I rx hs pl pu q
def tSl (r : V→Option Int→Option Int→Hp→VK→Prop) (te : TE) (tl th : TO) : TE:= fun σ H Q => te σ H fun x H1 => tl σ H1 fun l H2 => th σ H2 fun u H3 => r x l u H3 Q
theorem zcz {r : V→Option Int→Option Int→Hp→VK→Prop} (hr : SlR X r) (he : PE X e te) (hl : PO X lo tl) (hu : PO X hi th) : PE X (.Subscript e (.Slice lo hi none p2) pos) (tSl r te tl th):= by
  intro pins s σ H Q I h
  refine Subscript_ (thn (he pins s σ H _ I h) fun v s1 ⟨x,H1,I1,r1,q1⟩ => ?_)
  refine wpAny_Slice (thn (hl pins s1 σ H1 _ I1 q1) fun vl s2 ⟨l,H2,I2,pl,q2⟩ => thn (hu pins s2 σ H2 _ I2 q2) fun vu s3 ⟨u,H3,I3,pu,q3⟩ => ?_)
  rw [evalPart_none]
  refine wpAny_pure ?_
  have I4 : Inv X pins σ H3 { s3 with heap := s3.heap.push { cls := .type "slice",data := .fields #[vl,vu,.none] } } := I3.kept (t' := s3.toks) fun b ob q => Heap.get?_push_of_some _ q
  obtain ⟨T,id,hT,ht,hg⟩ := hr pins { s3 with heap := s3.heap.push { cls := .type "slice",data := .fields #[vl,vu,.none] } } σ H3 x v vl vu l u s3.heap.objs.size Q I4 r1 (Heap.IsSliceOf.new ..) pl pu q3
  show wpAny (model X.prog X.w) X.A (subscriptTail e (.Slice lo hi none p2) v (.ref s3.heap.objs.size)) (EP X pins σ Q) X.xe { s3 with heap := s3.heap.push { cls := .type "slice",data := .fields #[vl,vu,.none] } }
  exact tail_any (ops := [.ref s3.heap.objs.size,v]) ht hT hg (by with_unfolding_all rfl)
def cutV (xs : List V) (lo hi : Option Int) : List V := (xs.drop (HT.sIx xs.length 0 lo)).take (HT.sIx xs.length xs.length hi - HT.sIx xs.length 0 lo)
theorem z49 (xs : List V) (lo hi : Option Int) : (cutV xs lo hi).length ≤ xs.length:= by
  unfold cutV
  rw [List.length_take,List.length_drop]
  omega
def rSlT (K : PySem.W.Frag) : V→Option Int→Option Int→Hp→VK→Prop:= fun x lo hi H Q => ∃ a xs,x = .ref a∧SqT K H a xs ∧
  ¬ (HT.sIx xs.length 0 lo = 0∧HT.sIx xs.length xs.length hi = xs.length)∧∀ p,H p = none→Q (.ref p) (upd H p (.tup (cutV xs lo hi)))
theorem zkf : SlR X (rSlT X.K):= by
  intro pins s σ H x v vl vu lo hi sl Q I rx hs pl pu h
  obtain ⟨a,xs,rfl,hx,hw,q⟩ := h
  cases rx
  obtain ⟨its,r,ht,hz⟩ := I.tuple hx
  have hlen : its.toArray.size = xs.length := by rw [List.size_toArray]; exact r.length.symm
  refine ⟨"tuple",_,PyProof.Rows.slot_tuple_getitem.lookup,ht.typeIs, ?_⟩
  refine HT.getItem_tuple_cut ht hs pl pu (by rw [hlen]; exact hw) ?_ (by rw [hlen]; exact hz)
  rw [hlen]
  refine ⟨.ref s.heap.objs.size,_,I.laid (t' := s.toks) (o := .tup (cutV xs lo hi)) (fun b ob q => Heap.get?_push_of_some _ q) (Nat.le_refl _) ?_,rfl,q _ (I.hok.fresh (Nat.le_refl _))⟩
  exact ⟨Nat.le_trans (z49 xs lo hi) hz,_,(r.drop (HT.sIx xs.length 0 lo)).take (HT.sIx xs.length xs.length hi - HT.sIx xs.length 0 lo),IsTupX.new _ _⟩
def zkg (K : PySem.W.Frag) : R2:= fun x y H Q => ∃ a b xs ys,x = .ref a∧y = .ref b∧SqT K H a xs∧SqT K H b ys∧xs ≠ []∧xs.length + ys.length ≤ sizeLine ∧
  (ys = []→Q (.ref a) H)∧(ys ≠ []→∀ p,H p = none→Q (.ref p) (upd H p (.tup (xs ++ ys))))
theorem Vals.nil_iff {xs : List V} {us : List Value} (r : Vals xs us) : us = [] ↔ xs = []:= by
  cases r with
  | nil => simp
  | cons _ _ => simp
theorem zgp : OpR X (binaryOp .Add) (zkg X.K):= by
  intro pins s σ H x y v u Q I rx ry h
  obtain ⟨a,b,xs,ys,rfl,rfl,ha,hb,hx,hz,q1,q2⟩ := h
  cases rx
  cases ry
  obtain ⟨its,r1,p1,_⟩ := I.tuple ha
  obtain ⟨its2,r2,p2,_⟩ := I.tuple hb
  refine HT.cat_tup p1 p2 (fun z => hx (r1.nil_iff.mp z)) (fun z => ⟨.ref a,H,I,rfl,q1 (r2.nil_iff.mp z)⟩) (fun z => ?_) (by rw [← r1.length,← r2.length]; exact hz)
  refine ⟨.ref s.heap.objs.size,_,I.laid (t' := s.toks) (o := .tup (xs ++ ys)) (fun b ob q => Heap.get?_push_of_some _ q) (Nat.le_refl _) ?_,rfl,q2 (fun w => z (r2.nil_iff.mpr w)) _ (I.hok.fresh (Nat.le_refl _))⟩
  exact ⟨by rw [List.length_append]; exact hz,_,r1.append r2,IsTupX.new _ _⟩
end
def ixN (n : Nat) (i : Int) : Option Nat := if 0 ≤ i then (if i < n then some i.toNat else none) else if -(n : Int) ≤ i then some (i + n).toNat else none
def atI {α : Type} (xs : List α) (i : Int) : Option α := (ixN xs.length i).bind fun j => xs[j]?
theorem zag {n : Nat} {i : Int} {j : Nat} (h : ixN n i = some j) : seqIndex? i n = some j∧j < n∧-(n : Int) ≤ i∧i < n:= by
  unfold ixN at h
  by_cases h0 : 0 ≤ i
  · rw [if_pos h0] at h
    by_cases h1 : i < n
    · rw [if_pos h1] at h
      have e : i.toNat = j := Option.some.inj h
      exact ⟨by rw [seqIndex_of h0 h1,e],by omega,by omega,h1⟩
    · rw [if_neg h1] at h; cases h
  · rw [if_neg h0] at h
    by_cases h1 : -(n : Int) ≤ i
    · rw [if_pos h1] at h
      have e : (i + n).toNat = j := Option.some.inj h
      exact ⟨by rw [seqIndex_neg (by omega) h1,e],by omega,h1,by omega⟩
    · rw [if_neg h1] at h; cases h
theorem z7o {α : Type} {xs : List α} {i : Int} {v : α} (h : atI xs i = some v) : ∃ j,seqIndex? i xs.length = some j∧xs[j]? = some v∧j < xs.length∧-(xs.length : Int) ≤ i∧i < xs.length:= by
  unfold atI at h
  cases e : ixN xs.length i with
  | none => rw [e] at h; cases h
  | some j =>
    rw [e] at h
    obtain ⟨h1,h2,h3,h4⟩ := zag e
    exact ⟨j,h1,h,h2,h3,h4⟩
def z7p (b : Expr) : Prop := ∀ o i,subscripted b false o i = operate [o,i] (getItem o i)
def IxR (X : Cx) (r : R2) : Prop :=
  ∀ (value slice : Expr) (pins : List (Addr × Obj)) (s : Shared) (σ : St) (H : Hp) (x y : V) (v u : Value) (Q : VK),Inv X pins σ H s→RelV x v→RelV y u→r x y H Q →
    subscripted slice false v u = operate [v,u] (getItem v u)→wpAny (model X.prog X.w) X.A (subscriptTail value slice v u) (EP X pins σ Q) X.xe s
def MtR (X : Cx) (id : String) (r : V→List V→Hp→VK→Prop) : Prop :=
  ∀ (pins : List (Addr × Obj)) (s : Shared) (σ : St) (H : Hp) (x : V) (xs : List V) (v : Value) (us : List Value) (Q : VK),Inv X pins σ H s→RelV x v→Vals xs us→r x xs H Q →
    wpAny (model X.prog X.w) X.A (call (.builtin id) (v :: us)) (EP X pins σ Q) X.xe s
section
variable {X : Cx} {a b : Expr} {ta tb : TE} {pos : Pos}
theorem IxR.or {r r' : R2} (h : IxR X r) (h' : IxR X r') : IxR X (fun x y H Q => r x y H Q ∨ r' x y H Q):= by
  intro value slice pins s σ H x y v u Q I rx ry q hs
  rcases q with q | q
  · exact h value slice pins s σ H x y v u Q I rx ry q hs
  · exact h' value slice pins s σ H x y v u Q I rx ry q hs
theorem zkh {r : R2} (hr : IxR X r) (ha : PE X a ta) (hb : PE X b tb) (hs : z7p b) : PE X (.Subscript a b pos) (tOp r ta tb):= by
  intro pins s σ H Q I h
  exact Subscript_ (binT ha hb I h fun v u s2 x y H2 I2 rx ry q => hr a b pins s2 σ H2 x y v u Q I2 rx ry q (hs _ _))
def rIxL (K : PySem.W.Frag) : R2:= fun x y H Q => ∃ p xs i v,x = .ref p∧y = .int i∧SqL K H p xs∧atI xs i = some v∧Q v H
def rIxT (K : PySem.W.Frag) : R2:= fun x y H Q => ∃ p xs i v,x = .ref p∧y = .int i∧SqT K H p xs∧atI xs i = some v∧Q v H
def rIxS : R2:= fun x y H Q => ∃ z i c,x = .str z∧y = .int i∧z.length ≤ sizeLine∧atI z.cps.toList i = some c∧Q (.str ⟨#[c]⟩) H
theorem ix_list : IxR X (rIxL X.K):= by
  intro value slice pins s σ H x y v u Q I rx ry h hs
  obtain ⟨p,xs,i,z,rfl,rfl,hq,he,q⟩ := h
  cases rx
  obtain ⟨t,rfl⟩ := ry
  obtain ⟨its,r,pl,hz⟩ := I.list hq
  obtain ⟨j,h1,h2,h3,h4,h5⟩ := z7o he
  obtain ⟨w,ew,rw'⟩ := r.get h2
  have hl := r.length
  have hn := z5c
  have fin : EP X pins σ Q w s := ⟨z,H,I,rw',q⟩
  by_cases h0 : 0 ≤ i
  · have hj : i.toNat = j:= by
      rw [seqIndex_of h0 h5] at h1
      exact Option.some.inj h1
    exact item_listR pl.isList h0 (by omega) (by rw [hj]; simpa using ew) fin hs
  · have hj : (i + (its.toArray.size : Int)).toNat = j:= by
      rw [seqIndex_neg (by omega) h4] at h1
      rw [List.size_toArray,← hl]
      exact Option.some.inj h1
    exact subscriptTail_builtinR (x := w) pl.isList.typeIs slot_list_getitem.lookup
      (wpAny_getItem_list_neg (Q:= fun r s' => r = w∧EP X pins σ Q r s') pl.isList (by omega) (by rw [List.size_toArray] <;> omega) (by omega) (by rw [hj]; simpa using ew) ⟨rfl,fin⟩) hs
theorem ix_tup : IxR X (rIxT X.K):= by
  intro value slice pins s σ H x y v u Q I rx ry h hs
  obtain ⟨p,xs,i,z,rfl,rfl,hq,he,q⟩ := h
  cases rx
  obtain ⟨t,rfl⟩ := ry
  obtain ⟨its,r,pl,hz⟩ := I.tuple hq
  obtain ⟨j,h1,h2,h3,h4,h5⟩ := z7o he
  obtain ⟨w,ew,rw'⟩ := r.get h2
  have hl := r.length
  have hn := z5c
  have fin : EP X pins σ Q w s := ⟨z,H,I,rw',q⟩
  exact subscriptTail_builtinR (x := w) pl.typeIs slot_tuple_getitem.lookup
    (getItem_tuple (j := j) (Q:= fun r s' => r = w∧EP X pins σ Q r s') pl (by omega) (by omega) (by rw [List.size_toArray,← hl]; exact h1) (by simpa using ew) ⟨rfl,fin⟩) hs
theorem zki : IxR X rIxS:= by
  intro value slice pins s σ H x y v u Q I rx ry h hs
  obtain ⟨z,i,c,rfl,rfl,hz,he,q⟩ := h
  obtain ⟨t,rfl⟩ := rx
  obtain ⟨t',rfl⟩ := ry
  obtain ⟨j,h1,h2,h3,h4,h5⟩ := z7o he
  have hl : z.cps.toList.length = z.length := by simp [Str.length]
  rw [hl] at h1 h4 h5
  have hn := z5c
  exact tail_any (typeIs_str s z t) slot_str_getitem.lookup (getItem_str (c := c) (by
    have e1 : decide (i < -(2 ^ 63 : Int)) = false := decide_eq_false (by omega)
    have e2 : decide (i ≥ 2 ^ 63) = false := decide_eq_false (by omega)
    rw [e1,e2,Bool.or_false]) (by rw [h1]; simpa using h2) ⟨.str ⟨#[c]⟩,H,I.tok _,⟨_,rfl⟩,q⟩) hs
def rIx (K : PySem.W.Frag) : R2:= fun x y H Q => rIxL K x y H Q ∨ rIxT K x y H Q ∨ rIxS x y H Q
theorem zf7 : IxR X (rIx X.K) := ix_list.or (ix_tup.or zki)
theorem z9j (its : List Value) (n j : Nat) (u : Value) : Obj.mapSeq (·.setIfInBounds j u) { cls := .type "list",data := .seq its.toArray n } = { cls := .type "list",data := .seq (its.set j u).toArray n }:= by
  simp [Obj.mapSeq]
theorem Inv.lst {pins : List (Addr × Obj)} {σ : St} {H : Hp} {s : Shared} {p : Addr} {xs : List V} (I : Inv X pins σ H s) (h : H p = some (.lst xs)) :
    ∃ (its : List Value) (n : Nat),Vals xs its∧s.heap.get? p = some { cls := .type "list",data := .seq its.toArray n }∧xs.length ≤ sizeLine:= by
  obtain ⟨z,its,n,r,e⟩ := I.hok p _ h
  exact ⟨its,n,r,e,z⟩
theorem Inv.lstUpd {pins : List (Addr × Obj)} {σ : St} {H : Hp} {s : Shared} {p : Addr} {xs ys : List V} {its its' : List Value} {n n' : Nat} {f : Obj→Obj} (I : Inv X pins σ H s) (h : H p = some (.lst xs))
    (ho : s.heap.get? p = some { cls := .type "list",data := .seq its.toArray n }) (hf : f { cls := .type "list",data := .seq its.toArray n } = { cls := .type "list",data := .seq its'.toArray n' }) (r : Vals ys its') (hz : ys.length ≤ sizeLine) (t : Nat) :
    Inv X pins σ (upd H p (.lst ys)) { s with heap := s.heap.update p f,toks := t }:= by
  have e : (s.heap.update p f).get? p = some { cls := .type "list",data := .seq its'.toArray n' }:= by
    rw [Heap.get?_update_self f ho (by rw [hf] <;> rfl),hf]
  refine I.write (x := p) (e := p) (by rw [h]; trivial) (.inl rfl) (fun b u hb q => (Heap.get?_update_other _ _ (Ne.symm hb)).trans q) ⟨_,e⟩ ?_
  exact ⟨hz,its',n',r,e⟩
def zn5 : V→V→V→Hp→(Hp→Prop)→Prop:= fun o i v H Q => ∃ p xs k j,o = .ref p∧i = .int k∧H p = some (.lst xs)∧ixN xs.length k = some j∧Q (upd H p (.lst (xs.set j v)))
theorem zd0 : PSet X zn5:= by
  intro pins s σ H o i v ov iv u Q I ro ri rv h
  obtain ⟨p,xs,k,j,rfl,rfl,hp,hj,q⟩ := h
  cases ro
  obtain ⟨t,rfl⟩ := ri
  obtain ⟨its,n,r,ho,hz⟩ := I.lst hp
  obtain ⟨h1,h2,h3,h4⟩ := zag hj
  have hl := r.length
  have hn := z5c
  have I' : Inv X pins σ (upd H p (.lst (xs.set j v))) { s with heap := s.heap.update p (Obj.mapSeq (·.setIfInBounds j u)) } :=
    I.lstUpd hp ho (z9j its n j u) (r.set rv j) (by rw [List.length_set]; exact hz) s.toks
  by_cases h0 : 0 ≤ k
  · have hk : k.toNat = j:= by
      rw [seqIndex_of h0 h4] at h1
      exact Option.some.inj h1
    exact PySem.W.ki_setAt ho h0 (by omega) (by rw [List.size_toArray,← hl]; exact h4) (by rw [hk]; exact ⟨_,I',q⟩)
  · have hk : (k + (its.toArray.size : Int)).toNat = j:= by
      rw [seqIndex_neg (by omega) h3] at h1
      rw [List.size_toArray,← hl]
      exact Option.some.inj h1
    exact PySem.W.ki_setBack ho (by omega) (by rw [List.size_toArray,← hl]; exact h3) (by omega) (by rw [hk]; exact ⟨_,I',q⟩)
theorem z6r (lo hi : Option Int) (n : Nat) : (sliceBounds lo hi none n).1 = ((HT.sIx n 0 lo : Nat) : Int)∧(sliceBounds lo hi none n).2.1 = ((HT.sIx n n hi : Nat) : Int)∧(sliceBounds lo hi none n).2.2 = 1:= by
  refine ⟨?_, ?_,rfl⟩
  · cases lo with
    | none => simp [sliceBounds,HT.sIx]
    | some i =>
      simp only [sliceBounds,HT.sIx,Option.getD_none,show (1 : Int) > 0 by decide,if_true]
      by_cases h : i < 0
      · simp only [h,if_true] <;> omega
      · simp only [h,if_false] <;> omega
  · cases hi with
    | none => simp [sliceBounds,HT.sIx]
    | some i =>
      simp only [sliceBounds,HT.sIx,Option.getD_none,show (1 : Int) > 0 by decide,if_true]
      by_cases h : i < 0
      · simp only [h,if_true] <;> omega
      · simp only [h,if_false] <;> omega
theorem z5v (its : List Value) (lo hi : Option Int) : slicePick its.toArray lo hi none = ((its.drop (HT.sIx its.length 0 lo)).take (HT.sIx its.length its.length hi - HT.sIx its.length 0 lo)).toArray:= by
  obtain ⟨h1,h2,h3⟩ := z6r lo hi its.toArray.size
  unfold slicePick
  rw [h1,h2,h3]
  simp only [sliceRange_one,pick_run,List.size_toArray] <;> rfl
def rSlL (K : PySem.W.Frag) : V→Option Int→Option Int→Hp→VK→Prop:= fun x lo hi H Q => ∃ a xs,x = .ref a∧SqL K H a xs∧∀ p,H p = none→Q (.ref p) (upd H p (.lst (cutV xs lo hi)))
theorem zgq : SlR X (rSlL X.K):= by
  intro pins s σ H x v vl vu lo hi sl Q I rx hs pl pu h
  obtain ⟨a,xs,rfl,hx,q⟩ := h
  cases rx
  obtain ⟨its,r,ht,hz⟩ := I.list hx
  have hlen := r.length
  refine ⟨"list",_,slot_list_getitem.lookup,ht.isList.typeIs, ?_⟩
  refine wpAny_getItem_list_slice ht.isList hs pl pu .none (by simp) ?_ (by rw [List.size_toArray] <;> omega)
  rw [z5v,← hlen]
  refine ⟨.ref s.heap.objs.size,_,I.laid (t' := s.toks) (o := .lst (cutV xs lo hi)) (fun b ob q => Heap.get?_push_of_some _ q) (Nat.le_refl _) ?_,rfl,q _ (I.hok.fresh (Nat.le_refl _))⟩
  exact ⟨Nat.le_trans (z49 xs lo hi) hz,_,0,(r.drop (HT.sIx xs.length 0 lo)).take (HT.sIx xs.length xs.length hi - HT.sIx xs.length 0 lo),Heap.get?_push_size _ rfl⟩
theorem z3t : CallR X (.builtin "len") (fun xs H Q => ∃ p ys,xs = [.ref p]∧(SqL X.K H p ys ∨ SqT X.K H p ys)∧Q (.int ys.length) H):= by
  intro pins s σ H xs us Q I r h
  obtain ⟨p,ys,rfl,hq,q⟩ := h
  obtain ⟨u,rfl,rx⟩ := z5u r
  cases rx
  have hn := z5c
  rcases hq with hq | hq
  · obtain ⟨its,r',pl,hz⟩ := I.list hq
    have hlen := r'.length
    exact Calls.call_len_list pl.isList (by simp only [List.size_toArray] <;> omega) ⟨.int ys.length,H,I.tok _,⟨s.toks + 1,by rw [List.size_toArray,hlen]⟩,q⟩
  · obtain ⟨its,r',pl,hz⟩ := I.tuple hq
    have hlen := r'.length
    exact len_tuple pl (by simp only [List.size_toArray] <;> omega) ⟨.int ys.length,H,I.tok _,⟨s.toks + 1,by rw [List.size_toArray,hlen]⟩,q⟩
theorem z6s : CallR X (.type "list") (fun xs H Q => ∃ p ys,xs = [.ref p]∧(SqL X.K H p ys ∨ SqT X.K H p ys)∧∀ l,H l = none→Q (.ref l) (upd H l (.lst ys))):= by
  intro pins s σ H xs us Q I r h
  obtain ⟨p,ys,rfl,hq,q⟩ := h
  obtain ⟨u,rfl,rx⟩ := z5u r
  cases rx
  have fin : ∀ (its : List Value),Vals ys its→ys.length ≤ sizeLine→∀ (h' : Heap) (c' : Nat),(∀ b o',s.heap.get? b = some o'→h'.get? b = some o') →
      h'.get? s.heap.objs.size = some { cls := .type "list",dict := none,data := .seq its.toArray c',slots := #[] }→EP X pins σ Q (.ref s.heap.objs.size) { s with heap := h' }:= fun its r' hz h' c' kp e =>
    ⟨.ref s.heap.objs.size,_,I.laid (t' := s.toks) kp (Nat.le_refl _) (show ObjOk X.prog X.w _ h' _ (.lst ys) from ⟨hz,its,c',r',e⟩),rfl,q _ (I.hok.fresh (Nat.le_refl _))⟩
  rcases hq with hq | hq
  · obtain ⟨its,r',pl,hz⟩ := I.list hq
    have hlen := r'.length
    obtain ⟨o,ho,hc,n,hd⟩ := pl.isList
    exact call_list_seq p (.inl rfl) ho hc hd (fun h' c' kp e => fin its r' hz h' c' kp e) (by simp only [List.size_toArray] <;> omega)
  · obtain ⟨its,r',pl,hz⟩ := I.tuple hq
    have hlen := r'.length
    obtain ⟨o,ho,hc,n,hd⟩ := pl
    exact call_list_seq p (.inr rfl) ho hc hd (fun h' c' kp e => fin its r' hz h' c' kp e) (by simp only [List.size_toArray] <;> omega)
theorem z5w : CallR X (.type "tuple") (fun xs H Q => ∃ p ys,xs = [.ref p]∧((SqL X.K H p ys∧∀ l,H l = none→Q (.ref l) (upd H l (.tup ys))) ∨ (SqT X.K H p ys∧Q (.ref p) H))):= by
  intro pins s σ H xs us Q I r h
  obtain ⟨p,ys,rfl,h⟩ := h
  obtain ⟨u,rfl,rx⟩ := z5u r
  cases rx
  rcases h with ⟨hq,q⟩ | ⟨hq,q⟩
  · obtain ⟨its,r',pl,hz⟩ := I.list hq
    have hlen := r'.length
    refine call_tuple_list pl.isList (fun h' kp => ?_) (by simp only [List.size_toArray] <;> omega)
    have I1 : Inv X pins σ H { s with heap := h' } := I.kept (t' := s.toks) kp
    have I2 : Inv X pins σ (upd H h'.objs.size (.tup ys)) { s with heap := h'.push { cls := .type "tuple",data := .seq its.toArray } } :=
      I1.laid (t' := s.toks) (fun b o e => Heap.get?_push_of_some _ e) (Nat.le_refl _) (show ObjOk X.prog X.w _ _ _ (.tup ys) from ⟨hz,its,r',IsTupX.new _ _⟩)
    exact ⟨.ref h'.objs.size,_,I2,rfl,q _ (I1.hok.fresh (Nat.le_refl _))⟩
  · obtain ⟨its,r',pl,hz⟩ := I.tuple hq
    exact call_tuple_same pl ⟨.ref p,H,I,rfl,q⟩
def tyV (K : PySem.W.Frag) (T : String) (x : V) (H : Hp) : Prop := match x with
  | .str _ => T = "str"
  | .int _ => T = "int"
  | .ref p => (T = "list"∧∃ xs,SqL K H p xs) ∨ (T = "tuple"∧∃ o,K.lookup p = some o∧o.cls = .type "tuple"∧o.dict = none) ∨
      (T = "dict"∧((∃ kvs,H p = some (.dK kvs)) ∨ ∃ kvs,H p = some (.dT kvs))) ∨ (T = "set"∧∃ S n,H p = some (.set S n))
  | _ => False
theorem zkj {pins : List (Addr × Obj)} {σ : St} {H : Hp} {s : Shared} {T : String} {x : V} {v : Value} (I : Inv X pins σ H s) (r : RelV x v) (ty : tyV X.K T x H) :
    s.TypeIs v T∧∀ a,v = .ref a→∃ ob,s.heap.get? a = some ob∧ob.dict = none:= by
  cases x with
  | str z =>
    obtain ⟨t,rfl⟩ := r
    cases (show T = "str" from ty)
    exact ⟨typeIs_str s z t,fun _ e => nomatch e⟩
  | int i =>
    obtain ⟨t,rfl⟩ := r
    cases (show T = "int" from ty)
    exact ⟨typeIs_int s i t,fun _ e => nomatch e⟩
  | ref p =>
    cases r
    rcases ty with ⟨rfl,xs,hq⟩ | ⟨rfl,o,hk,hc,hd⟩ | ⟨rfl,hk⟩ | ⟨rfl,S,n,hk⟩
    · obtain ⟨its,_,pl,_⟩ := I.list hq
      refine ⟨pl.isList.typeIs,fun a e => ?_⟩
      cases e
      obtain ⟨o,n,e,c,hd,_⟩ := pl
      exact ⟨o,e,hd⟩
    · refine ⟨⟨o,I.kIn p o hk,hc⟩,fun a e => ?_⟩
      cases e
      exact ⟨o,I.kIn _ o hk,hd⟩
    · have z : ∃ o,s.heap.get? p = some o∧o.ExactDict:= by
        rcases hk with ⟨kvs,hk⟩ | ⟨kvs,hk⟩
        · obtain ⟨_,_,_,_,o,_,_,e,ex,_⟩ := I.hok p _ hk
          exact ⟨o,e,ex⟩
        · obtain ⟨_,_,_,_,o,_,_,e,ex,_⟩ := I.hok p _ hk
          exact ⟨o,e,ex⟩
      obtain ⟨o,e,ex⟩ := z
      refine ⟨⟨o,e,ex.1⟩,fun a e2 => ?_⟩
      cases e2
      exact ⟨o,e,ex.2.1⟩
    · obtain ⟨o,_,_,_,e,ex,_⟩ := I.hok p _ hk
      refine ⟨⟨o,e,ex.1⟩,fun a e2 => ?_⟩
      cases e2
      exact ⟨o,e,ex.2.1⟩
  | _ => exact False.elim ty
def tBM (K : PySem.W.Frag) (T : String) (r : V→List V→Hp→VK→Prop) (to : TE) (t : TA) : TE:= fun σ H Q => to σ H fun x H1 => tyV K T x H1∧t σ H1 fun xs H2 => r x xs H2 Q
variable {o e : Expr} {es : List Expr} {to : TE} {t : TA} {name : Str} {apos cpos : Pos} {T id : String} {r : V→List V→Hp→VK→Prop}
theorem zn6 (pa : PlainAttrs T) (slot : Slot T name id) (hty : typeOf (.builtin id) = pure (.type "method_descriptor")) (hm : MtR X id r) (ho : PE X o to) (ha : PA X (e :: es) t)
    (hbase : attributeBase o name X.env (eval o X.env) = eval o X.env := by rfl)
    (hfew : ((backTo cpos (starEach (e :: es) X.env)).all (fun x => !x.1) && (backToKw cpos (keywordEach [] X.env)).all (fun x => x.1.isSome)
      && decide ((e :: es).length + ([] : List Keyword).length + (if ([] : List Keyword).isEmpty then 0 else 1) < 30)) = true := by rfl)
    (hline : (apos.endLine == cpos.line) = true := by rfl) (hs : starEach (e :: es) X.env = (false,eval e X.env) :: starEach es X.env := by rfl) (hplain : (backTo cpos (starEach es X.env)).any (·.1) = false := by rfl) :
    PE X (.Call (.Attribute o name apos) (e :: es) [] cpos) (tBM X.K T r to t):= by
  intro pins s σ H Q I h
  refine wpAny_Call_method_late hbase hfew hline rfl (thn (ho pins s σ H _ I h) fun v s1 ⟨x,H1,I1,r1,ty,q1⟩ => ?_)
  obtain ⟨h1,h2⟩ := zkj I1 r1 ty
  refine ⟨T,id,pa,slot,hty,h1,h2, ?_⟩
  have hA := ha cpos pins s1 σ H1 _ I1 q1
  rw [hs] at hA ⊢
  refine Calls.callWith_builtin (by show (false || (backTo cpos (starEach es X.env)).any (·.1)) = false; rw [hplain] <;> rfl) (Calls.evalArgs_plain ?_)
  exact thn hA fun us s2 ⟨vs,H2,I2,r2,q2⟩ => hm pins s2 σ H2 x vs v us Q I2 r1 r2 q2
end
def MtM (X : Cx) (id : String) (r : V→List V→Hp→VK→Prop) : Prop :=
  ∀ (pins : List (Addr × Obj)) (s : Shared) (σ : St) (H : Hp) (x : V) (xs : List V) (v : Value) (us : List Value) (Q : VK),Inv X pins σ H s→RelV x v→Vals xs us→r x xs H Q →
    wpAny (model X.prog X.w) X.A (call (.builtin id) (v :: us)) (EP X pins σ Q) X.xe s
theorem Vals.one : ∀ {x : V} {us : List Value},Vals [x] us→∃ u,us = [u]∧RelV x u
  | _,_,.cons r .nil => ⟨_,rfl,r⟩
theorem Vals.two : ∀ {x y : V} {us : List Value},Vals [x,y] us→∃ u v,us = [u,v]∧RelV x u∧RelV y v
  | _,_,_,.cons r (.cons q .nil) => ⟨_,_,rfl,r,q⟩
theorem Vals.eraseIdx : ∀ {xs : List V} {us : List Value} (i : Nat),Vals xs us→Vals (xs.eraseIdx i) (us.eraseIdx i)
  | _,_,_,.nil => .nil
  | _,_,0,.cons _ t => t
  | _,_,i + 1,.cons r t => .cons r (Vals.eraseIdx i t)
theorem Vals.rep {xs : List V} {us : List Value} (h : Vals xs us) : ∀ k : Nat,Vals (List.replicate k xs).flatten (List.replicate k us).flatten
  | 0 => .nil
  | k + 1 => by
    rw [List.replicate_succ,List.replicate_succ,List.flatten_cons,List.flatten_cons]
    exact Vals.append h (Vals.rep h k)
theorem z6t (its : List Value) : ∀ (k : Nat) (acc : List Value),
    List.foldl (fun x1 x2 => x1 ++ x2) acc.toArray (List.replicate k its.toArray) = (acc ++ (List.replicate k its).flatten).toArray
  | 0,acc => by simp
  | k + 1,acc => by
    have e : acc.toArray ++ its.toArray = (acc ++ its).toArray := by simp
    have e2 : (acc ++ its) ++ (List.replicate k its).flatten = acc ++ (List.replicate (k + 1) its).flatten:= by
      rw [List.replicate_succ,List.flatten_cons,List.append_assoc]
    rw [← e2,← z6t its k (acc ++ its),← e,List.replicate_succ,List.foldl_cons]
section
variable {X : Cx} {pins : List (Addr × Obj)} {σ : St} {H : Hp} {s : Shared} {l b : Addr} {xs ys zs : List V}
theorem Inv.lset {its its' : List Value} {n : Nat} {f : Array Value→Array Value} {t' : Nat} (I : Inv X pins σ H s) (hH : H l = some (.lst xs))
    (e : s.heap.get? l = some { cls := .type "list",data := .seq its.toArray n }) (hf : f its.toArray = its'.toArray) (hv : Vals ys its') (hz : ys.length ≤ sizeLine) :
    Inv X pins σ (upd H l (.lst ys)) { s with heap := s.heap.update l (Obj.mapSeq f),toks := t' }:= by
  have q := PySem.IsL.update e f
  rw [hf] at q
  refine I.write (x := l) (e := l) (by rw [hH]; exact trivial) (.inl rfl) (fun b' u hb hu => (Heap.get?_update_other s.heap (Obj.mapSeq f) (Ne.symm hb)).trans hu) ⟨_,q⟩ ?_
  exact ⟨hz,its',_,hv,q⟩
theorem Inv.lnew {its : List Value} {t' : Nat} (I : Inv X pins σ H s) (hv : Vals ys its) (hz : ys.length ≤ sizeLine) :
    Inv X pins σ (upd H s.heap.objs.size (.lst ys)) { s with heap := s.heap.push { cls := .type "list",data := .seq its.toArray },toks := t' } :=
  I.laid (fun _ _ q => Heap.get?_push_of_some _ q) (Nat.le_refl _) ⟨hz,its,0,hv,Heap.get?_push_size _ rfl⟩
theorem Inv.fresh (I : Inv X pins σ H s) : H s.heap.objs.size = none := I.hok.fresh (Nat.le_refl _)
theorem Inv.lstM (I : Inv X pins σ H s) (hH : H l = some (.lst xs)) : xs.length ≤ sizeLine∧∃ (its : List Value) (n : Nat),Vals xs its∧xs.length = its.length∧s.heap.get? l = some { cls := .type "list",data := .seq its.toArray n }:= by
  obtain ⟨z,its,n,r,e⟩ := I.hok l _ hH
  exact ⟨z,its,n,r,r.length,e⟩
theorem z8f {n : Nat} (h : n ≤ sizeLine) : Builtin.List.listTooLong n = false:= by
  unfold Builtin.List.listTooLong
  exact decide_eq_false (by omega)
end
section
variable {X : Cx}
def zgr : V→List V→Hp→VK→Prop:= fun x vs H Q => ∃ l xs y,x = .ref l∧vs = [y]∧H l = some (.lst xs)∧xs.length < sizeLine∧Q .non (upd H l (.lst (xs ++ [y])))
theorem zah : MtM X "list.append" zgr:= by
  intro pins s σ H x vs v us Q I rx rv h
  obtain ⟨l,xs,y,rfl,rfl,hH,hz,q⟩ := h
  cases rx
  obtain ⟨u,rfl,ru⟩ := rv.one
  obtain ⟨z,its,n,r,hl,e⟩ := I.lstM hH
  refine call_meets F.slot_list_append ⟨_,e,rfl⟩ F.entry_list_append (F.args_list_append_2 _ _) (PySem.list_append l its.toArray n u (by rw [List.size_toArray]; omega)) ⟨e, ?_⟩
  refine ⟨.non,_,I.lset (its' := its ++ [u]) hH e (by simp) (r.append (.cons ru .nil)) ?_,rfl,q⟩
  rw [List.length_append,List.length_singleton]
  omega
def zgs : V→List V→Hp→VK→Prop:= fun x vs H Q => ∃ l b xs zs,x = .ref l∧vs = [.ref b]∧H l = some (.lst xs)∧H b = some (.lst zs)∧xs.length + zs.length ≤ sizeLine∧Q .non (upd H l (.lst (xs ++ zs)))
theorem zkk : MtM X "list.extend" zgs:= by
  intro pins s σ H x vs v us Q I rx rv h
  obtain ⟨l,b,xs,zs,rfl,rfl,hH,hB,hz,q⟩ := h
  cases rx
  obtain ⟨u,rfl,ru⟩ := rv.one
  cases ru
  obtain ⟨z,its,n,r,hl,e⟩ := I.lstM hH
  obtain ⟨z2,its2,n2,r2,hl2,e2⟩ := I.lstM hB
  have hsz : its.toArray.size + its2.toArray.size ≤ sizeLine := by rw [List.size_toArray,List.size_toArray]; omega
  have hlong : ¬ (!its.toArray.isEmpty && Builtin.List.listTooLong (its.toArray.size + its2.toArray.size)) = true:= by
    rw [z8f hsz,Bool.and_false]
    exact Bool.false_ne_true
  refine call_meets F.slot_list_extend ⟨_,e,rfl⟩ F.entry_list_extend (F.args_list_extend_2 _ _)
    (AutoSeq1.list_extend_list_list_0 l its.toArray n b its2.toArray n2 hlong (by rw [List.size_toArray]; omega) (by omega)) ⟨e,e2, ?_⟩
  refine ⟨.non,_,I.lset (its' := its ++ its2) hH e (by simp) (r.append r2) ?_,rfl,q⟩
  rw [List.length_append]
  omega
def rCat : R2:= fun x y H Q => ∃ l b xs zs,x = .ref l∧y = .ref b∧H l = some (.lst xs)∧H b = some (.lst zs)∧xs.length + zs.length ≤ sizeLine∧∀ p,H p = none→Q (.ref p) (upd H p (.lst (xs ++ zs)))
theorem op_cat : OpR X (binaryOp .Add) rCat:= by
  intro pins s σ H x y v u Q I rx ry h
  obtain ⟨l,b,xs,zs,rfl,rfl,hH,hB,hz,q⟩ := h
  cases rx
  cases ry
  obtain ⟨z,its,n,r,hl,e⟩ := I.lstM hH
  obtain ⟨z2,its2,n2,r2,hl2,e2⟩ := I.lstM hB
  refine PySem.P.add_list e e2 ?_ (by rw [List.size_toArray,List.size_toArray]; omega)
  have ea : its.toArray ++ its2.toArray = (its ++ its2).toArray := by simp
  rw [ea]
  exact ⟨.ref _,_,I.lnew (t' := s.toks) (r.append r2) (by rw [List.length_append]; omega),rfl,q _ I.fresh⟩
def rRep : R2:= fun x y H Q => ∃ l k xs,x = .ref l∧y = .int k∧H l = some (.lst xs)∧-(2 ^ 63) ≤ k∧k < 2 ^ 63∧xs.length * k.toNat ≤ sizeLine ∧
  ∀ p,H p = none→Q (.ref p) (upd H p (.lst (List.replicate k.toNat xs).flatten))
theorem zgt {α : Type} (xs : List α) (k : Nat) : (List.replicate k xs).flatten.length = k * xs.length:= by
  induction k with
  | zero => simp
  | succ k ih => rw [List.replicate_succ,List.flatten_cons,List.length_append,ih,Nat.succ_mul,Nat.add_comm]
theorem zkl : OpR X (binaryOp .Mult) rRep:= by
  intro pins s σ H x y v u Q I rx ry h
  obtain ⟨l,k,xs,rfl,rfl,hH,h1,h2,hz,q⟩ := h
  cases rx
  obtain ⟨t,rfl⟩ := ry
  obtain ⟨z,its,n,r,hl,e⟩ := I.lstM hH
  have hlen : its.toArray.size * k.toNat ≤ sizeLine := by rw [List.size_toArray,← hl]; exact hz
  have hcap : ¬ its.toArray.size * k.toNat > (2 ^ 63 - 1) / 8:= by
    have : (sizeLine : Nat) ≤ (2 ^ 63 - 1) / 8 := by decide
    omega
  have hfit : ¬ (!Builtin.List.listFitsIndex k) = true:= by
    rw [fitsIndex_both h1 h2]
    exact Bool.false_ne_true
  have hlong : ¬ Builtin.List.listTooLong (its.toArray.size * k.toNat) = true:= by
    rw [z8f hlen]
    exact Bool.false_ne_true
  have hnew : List.foldl (fun x1 x2 => x1 ++ x2) #[] (List.replicate (if its.toArray.isEmpty = true then 0 else k.toNat) its.toArray) = (List.replicate k.toNat its).flatten.toArray:= by
    have f0 : ∀ m : Nat,List.foldl (fun x1 x2 => x1 ++ x2) #[] (List.replicate m its.toArray) = (List.replicate m its).flatten.toArray:= fun m => by
      have := z6t its m []
      rw [List.nil_append] at this
      exact this
    rw [f0]
    cases its with
    | nil => simp
    | cons a r' => rw [if_neg (by simp)]
  refine wpAny_binaryOp_repeat_ref (T := "list") (U := "int") (by decide) ⟨_,e,rfl⟩ (fun s' => typeIs_int s' k t) noFill_list_mul F.fills_int_mul F.slot_int_rmul repeat_list F.slot_int_index.lookup
    (call_meets F.slot_int_rmul (typeIs_int s k t) F.entry_int_rmul (F.args_int_rmul_2 _ _) (int___rmul___int_list k t l its.toArray n)
      ⟨e,rfl,⟨_,e,rfl⟩,call_meets F.slot_list_mul ⟨_,e,rfl⟩ F.entry_list_mul (F.args_list_mul_2 _ _) (AutoListH.list___mul___list_int_3 l its.toArray n k t hfit hcap hlong) ⟨e, ?_⟩⟩)
  rw [hnew]
  exact ⟨.ref _,_,I.lnew (t' := s.toks) (r.rep k.toNat) (by rw [zgt,Nat.mul_comm]; exact hz),rfl,q _ I.fresh⟩
end
section
variable {prog : Program} {w : World} {A : Around} {E : Value→Shared→Prop} {s : Shared}
set_option maxRecDepth 100000 in
end
section
variable {X : Cx}
end
end L2
namespace Att
open PySem PySem.W PySem.Calls PyProof.Rows
theorem z4a {P : Params} {h : Heap} : ∀ (ns : List Int) (vs : List Value),WellAll P h vs (ns.map WData.int)→IntsAre vs ns:= by
  intro ns
  induction ns with
  | nil =>
    intro vs w
    rw [List.map_nil] at w
    cases w
    exact .nil
  | cons n ns ih =>
    intro vs w
    rw [List.map_cons] at w
    cases w with
    | cons a b =>
      cases a
      exact .cons _ _ (ih _ b)
theorem zai {l : OpenLaw} {n : Nat} (hn : l.most = some n) {P : Params} {h : Heap} {args : List WData} {vals : List Value}
    (hpre : l.row.toRowW.claim.pre args = true) (hwl : WellAll P h vals args) :
    ∃ a vs ns,vals = [Value.ref a]∧args = [WData.list (ns.map WData.int)]∧h.get? a = some { cls := .type "list",data := .seq vs.toArray }∧IntsAre vs ns∧ns.length ≤ n:= by
  have hsh : WShape.hasAll [] args [.list .int] = true := (pre_splitW hpre).1
  have hc : l.pre.holds [] { args := args } = true := (pre_splitW hpre).2
  obtain ⟨d,r,rfl,h1,h2⟩ := hasAllW_cons hsh
  obtain rfl := hasAllW_nil h2
  obtain ⟨xs,rfl,h3⟩ := hasW_list h1
  obtain ⟨ns,rfl⟩ := items_int h3
  have hlen : ns.length ≤ n:= by
    unfold OpenLaw.pre at hc
    have h4 : (WTm.not (.lt (.lit (.int (n : Int))) (.len (.arg 0)))).holds [] { args := [.list (ns.map .int)] } = true:= by
      have h4 := (holds_andW hc).1
      rw [hn] at h4
      exact h4
    have h5 := condW_of h4 (w_not (w_lt w_lit (w_len_list (w_arg rfl))))
    rw [List.length_map] at h5
    refine Nat.le_of_not_lt fun q => ?_
    have q' : (n : Int) < ((ns.length : Nat) : Int) := by omega
    first
      | (rw [decide_eq_true q'] at h5; exact absurd h5 (by decide))
      | (simp at h5; omega)
  cases hwl with
  | cons w1 w2 =>
    cases w2
    cases w1 with
    | list ho hall => exact ⟨_,_,ns,rfl,rfl,ho,z4a ns _ hall,hlen⟩
theorem zaj (l : OpenLaw) (args : List WData) : l.row.toRowW.claim.post args (.bool true) args = true :=
  postW_of (r := l.row.toRowW) (X := (true == true))
    (show WShape.has [] (.bool true) .bool = true by first | rfl | decide | simp [WShape.has,WShape.arms,WShape.armsAll])
    (show (WTm.eq .res (.lit (.bool true))).value [] { args := args,res := some (.bool true),after := args } = some (.bool (true == true)) from w_eq_bool (w_res rfl) w_lit) rfl
theorem attach_call {l : OpenLaw} {n : Nat} {q : Program} {z2r : List Str} {XP : (Str→Option Value)→Heap→Prop} {YP : World→Heap→Prop} {d : DefRec}
    (hn : l.most = some n) (hdf : d.params.defaults = [])
    (call : ∀ (w : World) (s₀ s₁ : Shared) (mg mb : Str→Option Value) (fa : Addr) (o : Obj) (pm cd doc : Value) (a : Addr) (vs : List Value) (ns : List Int),
      Ground q z2r [] XP w s₀ mg mb s₁.heap→YP w s₁.heap →
      s₁.heap.get? fa = some o→o.data = .func (docDef d.name d.params d.body d.scope pm cd doc)→s₁.heap.CodeRec cd d.name→mg d.name = some (.ref fa) →
      s₁.heap.get? a = some { cls := .type "list",data := .seq vs.toArray }→IntsAre vs ns→ns.length ≤ n→s₁.gens = #[] →
      codeAny (model l.prog w) callerA (.call (.ref fa) ⟨[.ref a],[]⟩) (fun r s' => r = .ok (.ret (.bool true))∧OldK s₁.heap s'.heap∧s'.os = s₁.os∧AllBare s'.gens) s₁) :
    WalkO q z2r XP YP l.row.toRowW d [] (fun f vs => PySem.call f vs):= by
  intro w s₀ s₁ mg mb G Y fa o pm cd doc dV kV ho hd hcd hD hmg hg args vals as hpre hlay hrd hwl hlo
  obtain rfl : dV = .none := Dflts.none hD hdf
  obtain rfl : kV = .none := Dflts.noKw hD
  obtain ⟨a,vs,ns,rfl,rfl,hobj,hints,hlen⟩ := zai hn hpre hwl
  refine enter_call (codeAny_mono (call w s₀ s₁ mg mb fa o pm cd doc a vs ns G Y ho (fd_plain hd) hcd hmg hobj hints hlen hg) fun r s' hq => ?_)
  obtain ⟨rfl,h2,h3,h4⟩ := hq
  exact ⟨.inl ⟨.bool true,.bool true,[],rfl,fun _ => rfl,.bool true,zaj l _,fun _ => ⟨List.Pairwise.nil,fun _ hm => (nomatch hm)⟩⟩,h2,h3,h4⟩
section
variable {prog : Program} {w : World} {A : Around} {E : Value→Shared→Prop} {s : Shared} {K : Frag}
end
end Att
namespace L2
open PySem PySem.Spec PyProof.Rows
theorem z2e : ∀ {vs : List Value} {ns : List Int},IntsAre vs ns→Vals (ns.map V.int) vs
  | _,_,.nil => .nil
  | _,_,.cons n t h => .cons ⟨t,rfl⟩ (z2e h)
def z09 (s : Stmt) : Arguments := match s with
  | .FunctionDef _ a _ _ _ _ _ _ _ _ => a
  | _ => { posonlyargs := [],args := [],vararg := none,kwonlyargs := [],kw_defaults := [],kwarg := none,defaults := [] }
def z07 (s : Stmt) : List Stmt := match s with
  | .FunctionDef _ _ b _ _ _ _ _ _ _ => b
  | _ => []
def z03 (s : Stmt) : Scope := match s with
  | .FunctionDef _ _ _ _ _ _ sc _ _ _ => sc
  | _ => { kind := .function,names := [],isGenerator := false,isCoroutine := false }
abbrev CX0 : CXT:= fun _ _ _ _ _ _ => False
abbrev E0 : XK:= fun _ _ _ => False
structure Fun (K : PySem.W.Frag) (x qual : Str) (st : Stmt) (f : Addr) (fd : FuncData) : Prop where
  ex : ∃ (oc : Value) (od : Option Addr) (kV doc pm : Value) (an : Option Addr) (cdv ct : Value) (osl : Array (Option Value)),
    fd = PySem.W.fnOf x qual (z09 st) (z07 st) (z03 st) .none kV doc pm an cdv ct∧K.lookup f = some ⟨oc,od,.func fd,osl⟩∧PySem.W.codeIn K cdv qual = true
  kp : PySem.W.keepIn K (.ref f) = true
section
variable {P : Program} {w : World} {K : PySem.W.Frag} {mg : Str→Option Value} {base : Heap}
theorem Fun.ok {x qual : Str} {st : Stmt} {f : Addr} {fd : FuncData} {N ps : List Str} {k : Nat} {sp : Sp} (F : Fun K x qual st f fd) (S : FnScope N ps (z03 st)) (len : ∀ vs H Q E,sp vs H Q E→vs.length = ps.length)
    (hbody : ∀ (cdv : Value) (A : Around) (outer : List Env) (s : Shared) (H : Hp) (vs : List V) (Q : VK) (E : XK),Room k (A.deeper (envOfC qual (z03 st) s.heap.objs.size f cdv))→sp vs H Q E →
      ∃ t,PSs (cxOf CX0 P w K mg base N qual (z03 st) f cdv A outer s H E).nox (z07 st) t∧t { nx:= fun _ H' => Q .non H',rt := Q } (start N vs) H) : FnOk P w K mg base CX0 (k + 1) f fd ps sp:= by
  obtain ⟨oc,od,kV,doc,pm,an,cdv,ct,osl,rfl,lk,hcd⟩ := F.ex
  refine zcx lk hcd S len fun A outer s H vs Q E hr hsp => ?_
  obtain ⟨t,h,q⟩ := hbody cdv A outer s H vs Q E hr hsp
  exact ⟨t,h.nox,q⟩
theorem Fun.binds {x qual : Str} {st : Stmt} {f : Addr} {fd : FuncData} {ps : List Str} (F : Fun K x qual st f fd)
    (h : ∀ (kV doc pm : Value) (an : Option Addr) (cdv ct : Value) (us : List Value),us.length = ps.length→bindArgs (PySem.W.fnOf x qual (z09 st) (z07 st) (z03 st) .none kV doc pm an cdv ct) ⟨us,[]⟩ = pure (ps.zip us)) : Binds K fd ps []:= by
  obtain ⟨oc,od,kV,doc,pm,an,cdv,ct,osl,rfl,lk,hcd⟩ := F.ex
  exact .all (h kV doc pm an cdv ct)
theorem z1a {x qual : Str} {st : Stmt} {f : Addr} {oc : Value} {od an : Option Addr} {osl : Array (Option Value)} {kV doc pm cdv ct : Value} (l : K.lookup f = some ⟨oc,od,.func (PySem.W.fnOf x qual (z09 st) (z07 st) (z03 st) .none kV doc pm an cdv ct),osl⟩)
    (c : PySem.W.codeIn K cdv qual = true) (k : PySem.W.keepIn K (.ref f) = true) : Fun K x qual st f (PySem.W.fnOf x qual (z09 st) (z07 st) (z03 st) .none kV doc pm an cdv ct) := ⟨⟨oc,od,kV,doc,pm,an,cdv,ct,osl,rfl,l,c⟩,k⟩
end
section
variable {X : Cx}
end
theorem iteF {A B : Prop} (h : B) : if false = true then A else B:= by
  rw [if_neg Bool.false_ne_true]
  exact h
theorem iteT {A B : Prop} (h : A) : if true = true then A else B:= by
  rw [if_pos rfl]
  exact h
def Same (H H' : Hp) : Prop := ∀ b o,H b = some o→H' b = some o
theorem Same.refl (H : Hp) : Same H H:= fun _ _ h => h
theorem Same.free {H H' : Hp} (e : Same H H') {l : Addr} (h : H' l = Option.none) : H l = Option.none:= by
  cases q : H l with
  | none => rfl
  | some o =>
    rw [e l o q] at h
    cases h
theorem z31 {β : Type} (x y : Str) (c : β) (acc : List (Str × β)) : ((y,c) :: acc).lookup x = if x = y then some c else acc.lookup x:= by
  rw [List.lookup_cons]
  by_cases e : x = y
  · have hb : (x == y) = true := beq_iff_eq.mpr e
    rw [hb,if_pos e]
  · have hb : (x == y) = false := beq_eq_false_iff_ne.mpr e
    rw [hb,if_neg e]
def z1b (env : Env) : List (Str × NameKind)→List (Str × Addr)→List (Str × Addr)
  | [],acc => acc
  | (x,k) :: r,acc => z1b env r (if k == .free then (x,(env.cells.lookup x).getD 0) :: acc else acc)
theorem z5x {env : Env} : ∀ (l : List (Str × NameKind)) (acc : List (Str × Addr)),(∀ x,(x,NameKind.free) ∈ l→∃ c,env.cells.lookup x = some c) →
    (forIn l acc (fun (x : Str × NameKind) (r : List (Str × Addr)) => match x with
      | (name,kind) => if (kind == NameKind.free) = true then (do let a ← cellOf env name; pure (ForInStep.yield ((name,a) :: r))) else (pure (ForInStep.yield r) : Sem (ForInStep (List (Str × Addr)))))) = (pure (z1b env l acc) : Sem (List (Str × Addr)))
  | [],acc,_ => rfl
  | (x,k) :: l,acc,h => by
    rw [List.forIn_cons]
    dsimp only
    cases hk : k == NameKind.free with
    | true =>
      have e : k = .free := by cases k <;> first | rfl | cases hk
      subst e
      obtain ⟨c,hc⟩ := h x (List.mem_cons_self ..)
      rw [if_pos rfl,show z1b env ((x,NameKind.free) :: l) acc = z1b env l ((x,c) :: acc) by rw [z1b,if_pos hk,hc]; rfl,← z5x l ((x,c) :: acc) fun y hy => h y (List.mem_cons_of_mem _ hy)]
      unfold cellOf
      rw [hc]
      rfl
    | false =>
      rw [if_neg (by simp),show z1b env ((x,k) :: l) acc = z1b env l acc by rw [z1b,hk]; rfl,← z5x l acc fun y hy => h y (List.mem_cons_of_mem _ hy)]
      rfl
theorem z25 {env : Env} {scope : Scope} (h : ∀ x,(x,NameKind.free) ∈ scope.names→∃ c,env.cells.lookup x = some c) : closureFor scope env = pure (z1b env scope.names []):= by
  unfold closureFor
  have := z5x (env := env) scope.names [] h
  show (forIn scope.names [] _ >>= fun cs => pure cs) = _
  exact (congrArg (fun (m : Sem (List (Str × Addr))) => m >>= fun cs => pure cs) this)
theorem z2f {env : Env} {x : Str} : ∀ (l : List (Str × NameKind)) (acc : List (Str × Addr)),((x,NameKind.free) ∈ l ∨ acc.lookup x = some ((env.cells.lookup x).getD 0))→(z1b env l acc).lookup x = some ((env.cells.lookup x).getD 0)
  | [],acc,h => h.elim (fun z => nomatch z) id
  | (y,k) :: l,acc,h => by
    rw [z1b]
    cases hk : k == NameKind.free with
    | true =>
      refine z2f l _ ?_
      rw [if_pos rfl]
      by_cases e : x = y
      · subst e
        right
        rw [z31,if_pos rfl]
      · rcases h with h | h
        · rcases List.mem_cons.mp h with h | h
          · cases h; exact absurd rfl e
          · exact .inl h
        · right
          rw [z31,if_neg e]
          exact h
    | false =>
      refine z2f l _ ?_
      rcases h with h | h
      · rcases List.mem_cons.mp h with h | h
        · cases h; simp at hk
        · exact .inl h
      · exact .inr h
structure BlkCells (h h' : Heap) (names : List (Str × NameKind)) (acc cs : List (Str × Addr)) : Prop where
  cases : ∀ x c,cs.lookup x = some c→acc.lookup x = some c ∨ (h.objs.size ≤ c∧h'.IsCell c none∧(x,NameKind.cell) ∈ names)
  own : ∀ x,(x,NameKind.cell) ∈ names→∃ c,cs.lookup x = some c
  old : ∀ x,(x,NameKind.cell) ∉ names→cs.lookup x = acc.lookup x
  inj : (∀ x y c,acc.lookup x = some c→acc.lookup y = some c→x = y)→(∀ x c,acc.lookup x = some c→c < h.objs.size)→∀ x y c,cs.lookup x = some c→cs.lookup y = some c→x = y
theorem z32 : ∀ (names : List (Str × NameKind)) (h : Heap) (acc : List (Str × Addr)),BlkCells h (pushCells h names) names acc (cellsFrom h.objs.size names acc)
  | [],h,acc => { cases:= fun _ _ e => .inl e,own:= fun _ z => (nomatch z),old:= fun _ _ => rfl,inj:= fun a _ => a }
  | (y,k) :: r,h,acc => by
    cases hk : k == NameKind.cell with
    | true =>
      have ek : k = .cell := by cases k <;> first | rfl | cases hk
      subst ek
      have ih := z32 r (h.push { cls := .type "cell",data := .cell none }) ((y,h.objs.size) :: acc)
      have e1 : pushCells h ((y,NameKind.cell) :: r) = pushCells (h.push { cls := .type "cell",data := .cell none }) r := rfl
      have e2 : cellsFrom h.objs.size ((y,NameKind.cell) :: r) acc = cellsFrom (h.push { cls := .type "cell",data := .cell none }).objs.size r ((y,h.objs.size) :: acc):= by
        rw [Heap.size_push]; rfl
      rw [e1,e2]
      have look : ∀ x,((y,h.objs.size) :: acc).lookup x = if x = y then some h.objs.size else acc.lookup x:= fun x => z31 ..
      refine ⟨fun x c e => ?_,fun x hx => ?_,fun x hx => ?_,fun h1 h2 x z c ex ez => ?_⟩
      · rcases ih.cases x c e with q | ⟨q1,q2,q3⟩
        · rw [look] at q
          by_cases exy : x = y
          · rw [if_pos exy] at q
            cases q
            refine .inr ⟨Nat.le_refl _,⟨_,pushCells_keeps r _ _ _ (Heap.get?_push_size _ rfl),rfl⟩,by rw [exy]; exact List.mem_cons_self ..⟩
          · rw [if_neg exy] at q
            exact .inl q
        · rw [Heap.size_push] at q1
          exact .inr ⟨Nat.le_of_succ_le q1,q2,List.mem_cons_of_mem _ q3⟩
      · by_cases hr : (x,NameKind.cell) ∈ r
        · exact ih.own x hr
        · rw [ih.old x hr,look]
          rcases List.mem_cons.mp hx with z | z
          · cases z; exact ⟨_,if_pos rfl⟩
          · exact absurd z hr
      · rw [ih.old x fun z => hx (List.mem_cons_of_mem _ z),look,if_neg]
        rintro rfl
        exact hx (List.mem_cons_self ..)
      · refine ih.inj ?_ ?_ x z c ex ez
        · intro a b c ea eb
          rw [look] at ea eb
          by_cases qa : a = y
          · rw [if_pos qa] at ea
            cases ea
            by_cases qb : b = y
            · exact qa.trans qb.symm
            · rw [if_neg qb] at eb
              exact absurd (h2 b _ eb) (Nat.lt_irrefl _)
          · rw [if_neg qa] at ea
            by_cases qb : b = y
            · rw [if_pos qb] at eb
              cases eb
              exact absurd (h2 a _ ea) (Nat.lt_irrefl _)
            · rw [if_neg qb] at eb
              exact h1 a b c ea eb
        · intro a c ea
          rw [Heap.size_push]
          rw [look] at ea
          by_cases qa : a = y
          · rw [if_pos qa] at ea; cases ea; exact Nat.lt_succ_self _
          · rw [if_neg qa] at ea
            exact Nat.lt_succ_of_lt (h2 a c ea)
    | false =>
      have ih := z32 r h acc
      have e1 : pushCells h ((y,k) :: r) = pushCells h r := by rw [pushCells,hk]; rfl
      have e2 : cellsFrom h.objs.size ((y,k) :: r) acc = cellsFrom h.objs.size r acc := by rw [cellsFrom,hk]; rfl
      rw [e1,e2]
      have nk : ∀ x,(x,NameKind.cell) ∈ (y,k) :: r→(x,NameKind.cell) ∈ r:= fun x z => by
        rcases List.mem_cons.mp z with z | z
        · cases z; simp at hk
        · exact z
      exact ⟨fun x c e => (ih.cases x c e).imp id fun ⟨a,b,c⟩ => ⟨a,b,List.mem_cons_of_mem _ c⟩,fun x hx => ih.own x (nk x hx),fun x hx => ih.old x fun z => hx (List.mem_cons_of_mem _ z),ih.inj⟩
def zf8 (scope : Scope) (env : Env) (L : Addr) : Env :=
  { scope := relabel scope env,locals := L,globals := env.globals,cells := cellsFrom (L + 1) scope.names (z1b env scope.names []),qual := env.qual,func := none,code := env.code,frame := env.frame,builtins := env.builtins }
theorem z9k {M : Model} {A : Around} {E : Value→Shared→Prop} {s : Shared} {scope : Scope} {env : Env} {cl : List (Str × Addr)} {qual : Str} {g : Addr} {Q : Env→Shared→Prop}
    (h : Q { scope := scope,locals := s.heap.objs.size,globals := g,cells := cellsFrom (s.heap.objs.size + 1) scope.names cl,qual := qual,func := none,code := env.code,frame := env.frame,builtins := env.builtins }
      { s with heap := pushCells (s.heap.push { cls := .type "dict",data := .dict #[] }) scope.names }) :
    wpAny M A (newFunctionEnv scope g cl [] qual none .none (some env)) Q E s:= by
  simp only [newFunctionEnv,Option.isSome_some,if_true]
  refine wpAny_bind (wpAny_alloc ?_)
  refine wpAny_bind (wpAny_layCells _ (fun name kind cells => by cases hkc : kind == NameKind.cell <;> simp [hkc]) _ _ _ _ ?_)
  rw [show ({ s with heap := s.heap.push { cls := .type "dict",data := .dict #[] } } : Shared).heap.objs.size = s.heap.objs.size + 1 from Heap.size_push ..]
  exact wpAny_bind (wpAny_pure (wpAny_pure h))
def blk (X : Cx) (scope : Scope) (N : List Str) (s : Shared) (H : Hp) (ex : List Addr) : Cx :=
  { X with N := N,s₀ := s,H₀ := H,env := zf8 scope X.env s.heap.objs.size,outer := X.stack,stack := X.stack,ex := ex,fn:= fun x => scope.names.lookup x == some .cell,xe:= fun _ _ => False }
def z9l (cap : List (Option Nat)) (σ : St) : St := cap.map fun o => match o with | some j => (σ[j]?).getD none | none => none
structure CapOk (X : Cx) (scope : Scope) (N : List Str) (cap : List (Option Nat)) : Prop where
  kind : scope.kind = .function
  nd : ∀ x ∈ scope.names,x.2 = .local→scope.names.lookup x.1 = some .local
  len : cap.length = N.length
  free : ∀ x,(x,NameKind.free) ∈ scope.names→X.env.kindOf x = some .cell ∨ X.env.kindOf x = some .free
  apart : ∀ x,(x,NameKind.free) ∈ scope.names→(x,NameKind.cell) ∉ scope.names
  cap : ∀ (i j : Nat) (x : Str),cap[i]? = some (some j)→N[i]? = some x→X.N[j]? = some x∧(x,NameKind.free) ∈ scope.names∧(relabel scope X.env).names.lookup x ≠ some .local
theorem z1z {scope : Scope} {env : Env} {x : Str} : ∀ {l : List (Str × NameKind)} {k : NameKind},(l.map fun (n,k) => if (k == NameKind.free && env.scope.kind == .function && env.kindOf n == some .cell) then (n,NameKind.cell) else (n,k)).lookup x = some k →
    (x,k) ∈ l ∨ (k = .cell∧(x,NameKind.free) ∈ l)
  | [],_,h => by simp at h
  | (n,q) :: r,k,h => by
    have ih := @z1z scope env x r k
    rw [List.map_cons] at h
    by_cases hc : (q == NameKind.free && env.scope.kind == .function && env.kindOf n == some .cell) = true
    · have hq : q = .free:= by
        have : (q == NameKind.free) = true:= by
          cases z : q == NameKind.free with
          | true => rfl
          | false => rw [z] at hc; simp at hc
        cases q <;> first | rfl | cases this
      dsimp only at h
      rw [if_pos hc,List.lookup_cons] at h
      cases e : x == n with
      | true =>
        rw [e] at h
        have h' : NameKind.cell = k := Option.some.inj h
        subst h'
        have ex := beq_iff_eq.mp e
        subst ex; subst hq
        exact .inr ⟨rfl,List.mem_cons_self ..⟩
      | false =>
        rw [e] at h
        exact (ih h).imp (List.mem_cons_of_mem _) fun ⟨a,b⟩ => ⟨a,List.mem_cons_of_mem _ b⟩
    · dsimp only at h
      rw [if_neg hc,List.lookup_cons] at h
      cases e : x == n with
      | true =>
        rw [e] at h
        have h' : q = k := Option.some.inj h
        subst h'
        have ex := beq_iff_eq.mp e
        subst ex
        exact .inl (List.mem_cons_self ..)
      | false =>
        rw [e] at h
        exact (ih h).imp (List.mem_cons_of_mem _) fun ⟨a,b⟩ => ⟨a,List.mem_cons_of_mem _ b⟩
theorem z2n {env : Env} {x : Str} {c : Addr} : ∀ (l : List (Str × NameKind)) (acc : List (Str × Addr)),(z1b env l acc).lookup x = some c→acc.lookup x = some c ∨ ((x,NameKind.free) ∈ l∧c = (env.cells.lookup x).getD 0)
  | [],acc,h => .inl h
  | (y,k) :: l,acc,h => by
    rw [z1b] at h
    cases hk : k == NameKind.free with
    | true =>
      have ek : k = .free := by cases k <;> first | rfl | cases hk
      subst ek
      rw [if_pos hk] at h
      rcases z2n l _ h with q | ⟨q1,q2⟩
      · rw [z31] at q
        by_cases e : x = y
        · rw [if_pos e] at q
          subst e
          exact .inr ⟨List.mem_cons_self ..,(Option.some.inj q).symm⟩
        · rw [if_neg e] at q
          exact .inl q
      · exact .inr ⟨List.mem_cons_of_mem _ q1,q2⟩
    | false =>
      rw [if_neg (by rw [hk]; exact Bool.false_ne_true)] at h
      exact (z2n l _ h).imp id fun ⟨a,b⟩ => ⟨List.mem_cons_of_mem _ a,b⟩
section
variable {X : Cx} {pins : List (Addr × Obj)} {σ : St} {H : Hp} {s : Shared} {scope : Scope} {N : List Str} {cap : List (Option Nat)} {ex : List Addr}
theorem z40 (I : Inv X pins σ H s) (C : CapOk X scope N cap) {x : Str} {c : Addr} (e : (z1b X.env scope.names []).lookup x = some c) : (x,NameKind.free) ∈ scope.names∧X.env.cells.lookup x = some c:= by
  rcases z2n _ _ e with q | ⟨q1,q2⟩
  · cases q
  · obtain ⟨c',h'⟩ := I.ok.has x (C.free x q1)
    rw [h'] at q2
    subst q2
    exact ⟨q1,h'⟩
theorem z41 (I : Inv X pins σ H s) (C : CapOk X scope N cap) {x : Str} {c : Addr} (e : (zf8 scope X.env s.heap.objs.size).cells.lookup x = some c) :
    (X.env.cells.lookup x = some c∧(x,NameKind.free) ∈ scope.names) ∨ (s.heap.objs.size < c∧(pushCells (s.heap.push { cls := .type "dict",data := .dict #[] }) scope.names).IsCell c none∧(x,NameKind.cell) ∈ scope.names):= by
  have B := z32 scope.names (s.heap.push { cls := .type "dict",data := .dict #[] }) (z1b X.env scope.names [])
  rw [Heap.size_push] at B
  rcases B.cases x c e with q | ⟨q1,q2,q3⟩
  · obtain ⟨a,b⟩ := z40 I C q
    exact .inl ⟨b,a⟩
  · rw [Heap.size_push] at q1
    exact .inr ⟨q1,q2,q3⟩
theorem zf9 (I : Inv X pins σ H s) (C : CapOk X scope N cap) (hex : ∀ b ∈ ex,FpOk X pins H b∧b < s.heap.objs.size) : (blk X scope N s H ex).Ok:= by
  have B := z32 scope.names (s.heap.push { cls := .type "dict",data := .dict #[] }) (z1b X.env scope.names [])
  rw [Heap.size_push] at B
  have kf : ∀ x,(x,NameKind.free) ∈ scope.names→∃ c,X.env.cells.lookup x = some c:= fun x hx => I.ok.has x (C.free x hx)
  refine ⟨I.ok.mod,C.kind,I.ok.glob,I.ok.blt,Nat.le_refl _, ?_, ?_, ?_,I.ok.hd,I.ok.frames,.inl rfl, ?_,I.bs,Nat.le_trans I.ok.bsz I.sz, ?_, ?_,I.stack,I.stkFree⟩
  · refine B.inj (fun x y c e1 e2 => ?_) fun x c e => ?_
    · exact I.ok.inj x y c (z40 I C e1).2 (z40 I C e2).2
    · obtain ⟨v,q⟩ := I.cell x c (z40 I C e).2
      rw [Heap.size_push]
      exact Nat.lt_succ_of_lt q.lt
  · intro x hx
    have hx' : (relabel scope X.env).names.lookup x = some .cell ∨ (relabel scope X.env).names.lookup x = some .free := hx
    have mem : (x,NameKind.cell) ∈ scope.names ∨ (x,NameKind.free) ∈ scope.names:= by
      rcases hx' with h | h
      · rcases z1z (scope := scope) h with q | ⟨_,q⟩
        · exact .inl q
        · exact .inr q
      · rcases z1z (scope := scope) h with q | ⟨z,q⟩
        · exact .inr q
        · exact .inr q
    by_cases hc : (x,NameKind.cell) ∈ scope.names
    · exact B.own x hc
    · rcases mem with h | h
      · exact absurd h hc
      · exact ⟨_,(B.old x hc).trans (z2f _ _ (.inl h))⟩
  · intro x c hf e
    have hf' : (scope.names.lookup x == some .cell) = true := hf
    have hm : (x,NameKind.cell) ∈ scope.names := PySem.mem_of_lookup (eq_of_beq hf')
    rcases z41 I C e with ⟨_,q⟩ | ⟨q,_⟩
    · exact absurd hm (C.apart x q)
    · exact Nat.le_of_lt q
  · intro b hb
    obtain ⟨⟨f0,f1,f2,f3,f4,f5⟩,hlt⟩ := hex b hb
    refine ⟨Nat.ne_of_lt hlt,fun x c e z => ?_⟩
    rcases z41 I C e with ⟨q,_⟩ | ⟨q,_⟩
    · exact f4 x c q z
    · subst z; exact Nat.lt_irrefl _ (Nat.lt_trans q hlt)
  · intro b o e hb
    obtain ⟨⟨f0,f1,f2,f3,f4,f5⟩,hlt⟩ := hex b hb
    rcases f3 with q | q
    · exact I.ok.noex b o e q
    · exact Nat.lt_irrefl _ (Nat.lt_of_lt_of_le (Heap.lt_size e) (Nat.le_trans I.ok.bsz q))
  · intro b hb z
    obtain ⟨⟨f0,f1,f2,f3,f4,f5⟩,hlt⟩ := hex b hb
    rcases List.mem_cons.mp (I.stkSub b z) with q | q
    · exact f1 q
    · exact f2 q
theorem zgu (I : Inv X pins σ H s) (C : CapOk X scope N cap) (hex : ∀ b ∈ ex,FpOk X pins H b∧b < s.heap.objs.size) :
    Inv (blk X scope N s H ex) pins (z9l cap σ) H { s with heap := pushCells (s.heap.push { cls := .type "dict",data := .dict #[] }) scope.names }:= by
  have B := z32 scope.names (s.heap.push { cls := .type "dict",data := .dict #[] }) (z1b X.env scope.names [])
  rw [Heap.size_push] at B
  have kp : ∀ b o,s.heap.get? b = some o→(pushCells (s.heap.push { cls := .type "dict",data := .dict #[] }) scope.names).get? b = some o:= fun b o e => pushCells_keeps _ _ _ _ (Heap.get?_push_of_some _ e)
  have ns : (pushCells (s.heap.push { cls := .type "dict",data := .dict #[] }) scope.names).Ns s.heap.objs.size (fun _ => none) :=
    ⟨_,#[],_,pushCells_keeps _ _ _ _ (Heap.get?_push_size _ rfl),rfl,(fun e he => absurd he (by simp)),fun _ => rfl⟩
  obtain ⟨m,hn,hl⟩ := I.loc
  refine ⟨zf9 I C hex,rfl,I.bare,Un.kept kp,⟨_,ns,fun i x v h1 h2 h3 => ?_⟩,fun x c e => ?_,I.hok.fresh (Nat.le_refl _),fun x c e => ?_,fun p hp => ?_,I.hok.kept kp, ?_⟩
  · have h2' : (cap.map fun o => match o with | some j => (σ[j]?).getD none | none => none)[i]? = some (some v) := h2
    rw [List.getElem?_map] at h2'
    cases q : cap[i]? with
    | none => rw [q] at h2'; cases h2'
    | some o =>
      rw [q] at h2'
      cases o with
      | none => cases h2'
      | some j =>
        have e1 : (σ[j]?).getD none = some v := Option.some.inj h2'
        have e2 : σ[j]? = some (some v):= by
          cases z : σ[j]? with
          | none => rw [z] at e1; cases e1
          | some w => rw [z] at e1; exact congrArg some e1
        obtain ⟨c1,c2,c3⟩ := C.cap i j x q h1
        have vis : Vis X.env.scope x:= by
          rcases C.free x c2 with z | z
          · exact .inr (.inl z)
          · exact .inr (.inr z)
        obtain ⟨u,r,l⟩ := hl j x v c1 e2 vis
        refine ⟨u,r, ?_⟩
        rcases l with ⟨hk,hm⟩ | ⟨hk,c,hc,hcell⟩
        · rcases C.free x c2 with z | z
          · rw [z] at hk; cases hk
          · rw [z] at hk; cases hk
        · refine .inr ⟨?_,c, ?_, ?_⟩
          · have h3' : Vis (relabel scope X.env) x := h3
            rcases h3' with z | z | z
            · exact absurd z c3
            · exact .inl z
            · exact .inr z
          · have := (B.old x (C.apart x c2)).trans (z2f _ _ (.inl c2))
            rw [hc] at this
            exact this
          · obtain ⟨o,ho,hd⟩ := hcell
            exact ⟨o,kp _ _ ho,hd⟩
  · rcases z41 I C e with ⟨q,_⟩ | ⟨_,q,_⟩
    · obtain ⟨v,o,ho,hd⟩ := I.cell x c q
      exact ⟨v,o,kp _ _ ho,hd⟩
    · exact ⟨none,q⟩
  · rcases z41 I C e with ⟨q,_⟩ | ⟨q,_⟩
    · exact I.freeC x c q
    · exact I.hok.fresh (Nat.le_of_lt q)
  · obtain ⟨a1,a2,a3,a4,a5⟩ := I.pin p hp
    refine ⟨kp _ _ a1,a2,Nat.ne_of_lt (Heap.lt_size a1),fun z => ?_,a5⟩
    rcases List.mem_cons.mp (I.stkSub _ z) with q | q
    · exact a3 q
    · exact a4 q
  · show (cap.map _).length = N.length
    rw [List.length_map]; exact C.len
theorem zkm (I : Inv X pins σ H s) (C : CapOk X scope N cap) (hex : ∀ b ∈ ex,FpOk X pins H b∧b < s.heap.objs.size) : ∀ b ∈ ex,FpOk (blk X scope N s H ex) pins H b:= by
  intro b hb
  obtain ⟨⟨f0,f1,f2,f3,f4,f5⟩,hlt⟩ := hex b hb
  have ok := zf9 (N := N) I C hex
  exact ⟨f0,(ok.exf b hb).1,ok.exfs b hb,.inl hb,(ok.exf b hb).2,f5⟩
theorem zgv {σ' : St} {H' : Hp} {s' : Shared} {h' : Heap} (I : Inv X pins σ H s) (hex : ∀ b ∈ ex,FpOk X pins H b∧b < s.heap.objs.size) (I' : Inv (blk X scope N s H ex) pins σ' H' s') (hh : Heap.SameBut s.heap.objs.size s'.heap h') :
    Inv X pins σ H' { s' with heap := h' }:= by
  have u : Un (frs X.stack) ex H H' s.heap s'.heap := I'.base
  have up : ∀ b o o',s.heap.get? b = some o→s'.heap.get? b = some o'→h'.get? b = some o':= fun b o o' e e' => (hh.2 b (Nat.ne_of_lt (Heap.lt_size e))).trans e'
  have hL : H' s.heap.objs.size = none := I'.free
  refine I.call' (s' := { s' with heap := h' }) (ch := ex) I'.os ⟨fun b o q n hb hx => up b o o q (u.keep b o q n hb hx),fun b o q n hb hx => ?_,u.free,fun b o q hx => ?_,u.tups,u.frzs,u.tbls⟩ (fun b o e => ?_) I'.bare fun b hb => ?_
  · obtain ⟨sl,e⟩ := u.slot b o q n hb hx
    exact ⟨sl,up b o _ q e⟩
  · obtain ⟨o',e⟩ := u.there b o q hx
    exact ⟨o',up b o _ q e⟩
  · refine (I'.hok b o e).stay (fun c v hc q => (hh.2 c ?_).trans q) (fun _ q => q) fun _ _ q => q
    rcases hc with z | z
    · rw [z]; rintro rfl; rw [hL] at e; cases e
    · rintro rfl; rw [hL] at z; cases z
  · obtain ⟨⟨f0,f1,f2,f3,f4,f5⟩,hlt⟩ := hex b hb
    exact ⟨f3,f1,f4,f5⟩
theorem Inv.adopt {a : Addr} {o : HO} (I : Inv X pins σ H s) (f : FpOk X pins H a) (ha : X.s₀.heap.objs.size ≤ a) (new : ObjOk X.prog X.w (upd H a o) s.heap a o) : Inv X pins σ (upd H a o) s:= by
  obtain ⟨f0,f1,f2,f3,f4,f5⟩ := f
  have ne0 : ∀ b ob,X.s₀.heap.get? b = some ob→b ≠ a:= fun b ob e z => by subst z; exact Nat.lt_irrefl _ (Nat.lt_of_lt_of_le (Heap.lt_size e) ha)
  refine ⟨I.ok,I.os,I.bare,⟨I.base.keep,I.base.slot,fun b ob e n hx => by rw [z0g (ne0 b ob e)]; exact I.base.free b ob e n hx,I.base.there,fun b xs e => ?_,fun b ob u e => ?_,fun b ps e => ?_⟩,I.loc,I.cell,by rw [z0g (Ne.symm f1)]; exact I.free,
    fun x c e => by rw [z0g (f4 x c e)]; exact I.freeC x c e,fun p hp => ?_,fun b u e => ?_,I.len⟩
  · have := I.base.tups b xs e
    rw [z0g (z0j this f0)]; exact this
  · have := I.base.frzs b ob u e
    rw [z0g (z0j this f0)]; exact this
  · obtain ⟨more,this⟩ := I.base.tbls b ps e
    exact ⟨more,by rw [z0g (z0j this f0)]; exact this⟩
  · obtain ⟨a1,a2,a3,a4,a5⟩ := I.pin p hp
    exact ⟨a1,by rw [z0g (f5 p hp)]; exact a2,a3,a4,a5⟩
  · by_cases hb : b = a
    · subst hb; rw [z0i] at e; cases e; exact new
    · rw [z0g hb] at e
      exact (I.hok b u e).stay (fun _ _ _ q => q) (fun c q => by rw [z0g (z0j q f0)]; exact q) fun c xs q => by rw [z0g (z0j q f0)]; exact q
end
def AccAt (s : Shared) (D : Addr) (xs : List V) : Prop := xs.length ≤ sizeLine∧∃ (its : List Value) (n : Nat),Vals xs its∧s.heap.get? D = some { cls := .type "list",data := .seq its.toArray n }
abbrev TC := St→Hp→List V→(St→Hp→List V→Prop)→Prop
def PCl (X : Cx) (D : Addr) (m : Sem Unit) (t : TC) : Prop :=
  ∀ (pins : List (Addr × Obj)) (s : Shared) (σ : St) (H : Hp) (xs : List V) (K : St→Hp→List V→Prop),Inv X pins σ H s→AccAt s D xs→FpOk X pins H D→t σ H xs K →
    wpAny (model X.prog X.w) X.A m (fun _ s' => ∃ σ' H' xs',Inv X pins σ' H' s'∧AccAt s' D xs'∧H' D = none∧K σ' H' xs') X.xe s
section
variable {X : Cx} {D : Addr}
theorem AccAt.obj {s : Shared} {xs : List V} (a : AccAt s D xs) : ∃ o,s.heap.get? D = some o∧∀ v,o.data ≠ .cell v:= by
  obtain ⟨_,its,n,_,e⟩ := a
  exact ⟨_,e,fun v z => nomatch z⟩
theorem Inv.pinD {pins : List (Addr × Obj)} {s : Shared} {σ : St} {H : Hp} {xs : List V} (I : Inv X pins σ H s) (a : AccAt s D xs) (f : FpOk X pins H D) : Inv X (pins ++ z2b [D] s.heap) σ H s :=
  I.pinned (fun b hb => by have e : b = D := by simpa using hb
                           subst e; exact f) fun b hb => by
    have e : b = D := by simpa using hb
    subst e
    exact a.obj
theorem Inv.atD {pins : List (Addr × Obj)} {s s' : Shared} {σ' : St} {H' : Hp} {xs : List V} (a : AccAt s D xs) (I : Inv X (pins ++ z2b [D] s.heap) σ' H' s') : AccAt s' D xs∧H' D = none:= by
  obtain ⟨z,its,n,r,e⟩ := a
  have := I.pin (D,_) (List.mem_append_right _ (List.mem_append_right _ (z22 (by simp) e)))
  exact ⟨⟨z,its,n,r,this.1⟩,this.2.1⟩
def zkn (te : TE) : TC:= fun σ H xs K => te σ H fun v H1 => xs.length < sizeLine∧K σ H1 (xs ++ [v])
theorem z8g {elt : Expr} {te : TE} (he : PE X elt te) : PCl X D (do let x ← eval elt X.env; let _ ← call (.builtin "list.append") [.ref D,x]; pure ()) (zkn te):= by
  intro pins s σ H xs K I a f h
  refine wpAny_bind (thn (he _ s σ H _ (I.pinD a f) h) fun u s1 ⟨v,H1,I1,r1,hz,q1⟩ => ?_)
  obtain ⟨a1,n1⟩ := Inv.atD a I1
  have I1' := I1.unpinned
  obtain ⟨z,its,n,r,e⟩ := a1
  have hl := r.length
  refine wpAny_bind (call_meets F.slot_list_append ⟨_,e,rfl⟩ F.entry_list_append (F.args_list_append_2 _ _) (PySem.list_append D its.toArray n u (by rw [List.size_toArray]; omega)) ⟨e, ?_⟩)
  have q := PySem.IsL.update e (·.push u)
  have e2 : its.toArray.push u = (its ++ [u]).toArray := by simp
  rw [e2] at q
  refine wpAny_pure ⟨σ,H1,xs ++ [v], ?_,⟨by rw [List.length_append,List.length_singleton]; omega,its ++ [u],_,r.append (.cons r1 .nil),q⟩,n1,q1⟩
  obtain ⟨f0,f1,f2,f3,f4,f5⟩ := f
  exact I1'.turned (t' := s1.toks) (fun b o hb z => (Heap.get?_update_other s1.heap _ (Ne.symm hb)).trans z) n1 f1 f3 f4 f5
def z8h (ifs : List Expr) (env : Env) : Sem Bool := forIn ifs true fun c r => if r = true then do let ok ← isTrue c env (eval c env); pure (ForInStep.yield ok) else pure (ForInStep.yield r)
def PTs (X : Cx) (ifs : List Expr) (t : TT) : Prop :=
  ∀ (pins : List (Addr × Obj)) (s : Shared) (σ : St) (H : Hp) (Q : Bool→Hp→Prop),Inv X pins σ H s→t σ H Q→wpAny (model X.prog X.w) X.A (z8h ifs X.env) (TP X pins σ Q) X.xe s
def zgw : TT:= fun _ H Q => Q true H
theorem zgx : PTs X [] zgw:= fun pins s σ H Q I h => wpAny_tests_nil ⟨H,I,h⟩
theorem zgy {c : Expr} {t : TT} (h : PT X c t) : PTs X [c] t:= fun pins s σ H Q I q => wpAny_tests_one (h pins s σ H Q I q)
def z1q (p : Pos) (it : Value) (tg : Expr) (ifs : List Expr) (env : Env) (inner : Sem Unit) (c : Code) : Sem PySem.Fin := do
  standAt p
  match ← pyNext it with
  | none => pure (.done .next)
  | some v => do
    letOwnedTupleGo tg it v
    assign tg env v
    let ok ← z8h ifs env
    if ok = true then do inner; again c
    else again c
def z8i (J : It) (g : TG) (tt : TT) (inner : TC) (K : St→Hp→List V→Prop) (σ : St) (H : Hp) (xs : List V) : Prop :=
  ∃ W : Nat→Nat→St→Hp→List V→Prop,(∃ m,W 0 m σ H xs)∧∀ i m σ H xs,W i m σ H xs →
    (J.stop i H∧K σ H xs) ∨ (J.go i H∧∃ N : St→Hp→List V→Prop,(∀ σ' H' xs',N σ' H' xs'→∃ m',m' < m∧W (i + 1) m' σ' H' xs') ∧
      ∀ x H',J.yld i H x H'→g x σ H' fun σ2 H2 => tt σ2 H2 fun b H3 => if b = true then inner σ2 H3 xs N else N σ2 H3 xs)
theorem zak {elt : Expr} {gens : List Comprehension} {sc : Scope} {ps : Pos} {d : Nat} {it : Addr} {tg : Expr} {ifs : List Expr} {p : Pos} {inner : Sem Unit} {g : TG} {tt : TT} {ti : TC} {J : It} {fp : List Addr} {tn : Nat→Heap→Prop}
    (hx : X.xe = fun _ _ => False) (hc : X.calm = true)
    (ht : compTurn (.ListComp elt gens sc ps) d (.ref it) (.ref D) X.env = z1q p (.ref it) tg ifs X.env inner (.compLoop (.ListComp elt gens sc ps) d (.ref it) (.ref D) X.env))
    (hg : PG X tg g) (htt : PTs X ifs tt) (hi : PCl X D inner ti) (T : Turn X.prog X.w X.K tg J fp it tn)
    {pins : List (Addr × Obj)} {s : Shared} {σ : St} {H : Hp} {xs : List V} {K : St→Hp→List V→Prop} {R : Result→Shared→Prop} (I : Inv X pins σ H s) (a : AccAt s D xs) (f : FpOk X pins H D) (st : tn 0 s.heap) (hf : ∀ b ∈ fp,FpOk X pins H b) (hD : D ∉ fp)
    (h : z8i J g tt ti K σ H xs) (hR : ∀ σ' H' xs' s',Inv X pins σ' H' s'→AccAt s' D xs'→H' D = none→K σ' H' xs'→R (.ok .next) s') :
    codeAny (model X.prog X.w) X.A (.compLoop (.ListComp elt gens sc ps) d (.ref it) (.ref D) X.env) R s:= by
  obtain ⟨W,⟨m0,w0⟩,turn⟩ := h
  have stat : ∀ {H' : Hp},(∀ b ∈ fp,H' b = none)→∀ b ∈ fp,FpOk X pins H' b:= fun hn b hb => ⟨hn b hb,(hf b hb).2⟩
  have statD : ∀ {H' : Hp},H' D = none→FpOk X pins H' D:= fun hn => ⟨hn,f.2⟩
  refine codeAny_loop rfl (fun n s' => ∃ i σ' H' xs',Inv X pins σ' H' s'∧AccAt s' D xs'∧H' D = none∧tn i s'.heap∧(∀ b ∈ fp,H' b = none)∧W i n σ' H' xs') ?_ m0 ⟨0,σ,H,xs,I,a,f.1,st,fun b hb => (hf b hb).1,w0⟩
  rintro n s3 ⟨i,σ3,H3,xs3,I3,a3,n3,st3,fr3,w3⟩
  show wpAny _ X.A ((compTurn (.ListComp elt gens sc ps) d (.ref it) (.ref D) X.env).onRaise (fun x => do noteFrame x X.env; theTreesLotGoes x)) _ _ s3
  rw [ht]
  refine wpAny_onRaise (wpAny_mono (Q:= fun fin s' => match fin with | .done f => R (.ok f) s' | .again c' => c' = .compLoop (.ListComp elt gens sc ps) d (.ref it) (.ref D) X.env∧∃ m,m < n∧∃ i σ' H' xs',Inv X pins σ' H' s'∧AccAt s' D xs'∧H' D = none∧tn i s'.heap∧(∀ b ∈ fp,H' b = none)∧W i m σ' H' xs') (E:= fun _ _ => False) ?_ (fun _ _ z => z) fun _ _ z => z.elim)
  unfold z1q
  refine wpAny_bind (wpAny_standAt (wpAny_bind ?_))
  have xe' : ∀ {α : Type} {m : Sem α} {Q : α→Shared→Prop} {s : Shared},wpAny (model X.prog X.w) X.A m Q X.xe s→wpAny (model X.prog X.w) X.A m Q (fun _ _ => False) s:= fun {α m Q s} z => by rw [hx] at z; exact z
  have I3' := I3.pinD a3 (statD n3)
  have fr3' : ∀ b ∈ fp,FpOk X (pins ++ z2b [D] s3.heap) H3 b:= fun b hb => by
    obtain ⟨g0,g1,g2,g3,g4,g5⟩ := stat fr3 b hb
    refine ⟨g0,g1,g2,g3,g4,fun p hp => ?_⟩
    rcases List.mem_append.mp hp with z | z
    · exact g5 p (List.mem_append_left _ z)
    · rcases List.mem_append.mp z with z | z
      · exact g5 p (List.mem_append_right _ z)
      · have := (z48 z).1
        have e : p.1 = D := by simpa using this
        rw [e]; rintro rfl; exact hD hb
  rcases turn i n σ3 H3 xs3 w3 with ⟨stop,qn⟩ | ⟨go,N,hN,step⟩
  · refine thn (T.done X rfl rfl rfl hc i _ s3 σ3 H3 (fun _ _ => False) I3' fr3' st3 stop) fun r s4 ⟨hr,I4⟩ => ?_
    subst hr
    obtain ⟨a4,n4⟩ := Inv.atD a3 I4
    exact wpAny_pure (hR σ3 H3 xs3 s4 I4.unpinned a4 n4 qn)
  · refine thn (T.item X rfl rfl rfl hc i _ s3 σ3 H3 (fun _ _ => False) I3' fr3' st3 go) fun r s4 ⟨u,hr,h4⟩ => ?_
    subst hr
    refine wpAny_bind (thn h4 fun _ s5 ⟨x,H5,I5,r5,y5,st5,fr5⟩ => ?_)
    obtain ⟨a5,n5⟩ := Inv.atD a3 I5
    have I5u := I5.unpinned
    have I5p := I5u.pinned (stat fr5) (T.obj _ _ st5)
    have fD5 : FpOk X (pins ++ z2b fp s5.heap) H5 D:= by
      obtain ⟨g0,g1,g2,g3,g4,g5⟩ := statD n5
      refine ⟨g0,g1,g2,g3,g4,fun p hp => ?_⟩
      rcases List.mem_append.mp hp with z | z
      · exact g5 p (List.mem_append_left _ z)
      · rcases List.mem_append.mp z with z | z
        · exact g5 p (List.mem_append_right _ z)
        · rintro rfl; exact hD (z48 z).1
    have I5' := I5p.pinD a5 fD5
    refine wpAny_bind (xe' (thn (hg _ s5 σ3 H5 x u _ I5' r5 (step x H5 y5)) fun _ s6 ⟨σ6,H6,I6,q6⟩ => ?_))
    obtain ⟨a6,n6⟩ := Inv.atD a5 I6
    have pin' : ∀ {s σ H},Inv X (pins ++ z2b fp s5.heap) σ H s→tn (i + 1) s.heap∧∀ b ∈ fp,H b = none:= fun {s σ H} J => by
      refine ⟨T.keep _ _ _ st5 fun b hb o e => (J.pin (b,o) (List.mem_append_right _ (List.mem_append_right _ (z22 hb e)))).1,fun b hb => ?_⟩
      obtain ⟨o,e,d⟩ := T.obj _ _ st5 b hb
      exact (J.pin (b,o) (List.mem_append_right _ (List.mem_append_right _ (z22 hb e)))).2.1
    have fD6 : FpOk X (pins ++ z2b fp s5.heap) H6 D := ⟨n6,fD5.2⟩
    have I6u := I6.unpinned
    have I6p := I6u.pinD a6 fD6
    refine wpAny_bind (xe' (thn (htt _ s6 σ6 H6 _ I6p q6) fun b s7 ⟨H7,I7,q7⟩ => ?_))
    obtain ⟨a7,n7⟩ := Inv.atD a6 I7
    have I7u := I7.unpinned
    have fin : ∀ {s8 σ8 H8 xs8},Inv X (pins ++ z2b fp s5.heap) σ8 H8 s8→AccAt s8 D xs8→H8 D = none→N σ8 H8 xs8 →
        ∃ m,m < n∧∃ i σ' H' xs',Inv X pins σ' H' s8∧AccAt s8 D xs'∧H' D = none∧tn i s8.heap∧(∀ b ∈ fp,H' b = none)∧W i m σ' H' xs':= fun {s8 σ8 H8 xs8} J a8 n8 q8 => by
      obtain ⟨m',hm,w8⟩ := hN σ8 H8 xs8 q8
      obtain ⟨t8,fr8⟩ := pin' J
      exact ⟨m',hm,i + 1,σ8,H8,xs8,J.unpinned,a8,n8,t8,fr8,w8⟩
    cases b with
    | true =>
      rw [if_pos rfl] at q7 ⊢
      have fD7 : FpOk X (pins ++ z2b fp s5.heap) H7 D := ⟨n7,fD5.2⟩
      refine wpAny_bind (xe' (thn (hi _ s7 σ6 H7 xs3 N I7u a7 fD7 q7) fun _ s8 ⟨σ8,H8,xs8,I8,a8,n8,q8⟩ => ?_))
      exact wpAny_pure ⟨rfl,fin I8 a8 n8 q8⟩
    | false =>
      rw [if_neg Bool.false_ne_true] at q7 ⊢
      exact wpAny_pure ⟨rfl,fin I7u a7 n7 q7⟩
end
theorem zfa (elt tg iter : Expr) (ifs : List Expr) (sc : Scope) (ps : Pos) (it : Value) (D : Addr) (env : Env) :
    compTurn (.ListComp elt [⟨tg,iter,ifs,0⟩] sc ps) 0 it (.ref D) env =
      z1q iter.pos it tg ifs env (do let x ← eval elt env; let _ ← call (.builtin "list.append") [.ref D,x]; pure ()) (.compLoop (.ListComp elt [⟨tg,iter,ifs,0⟩] sc ps) 0 it (.ref D) env) := by rfl
section
variable {X : Cx} {D : Addr}
theorem z3e {prog : Program} {w : World} {A : Around} {R : Result→Shared→Prop} {s : Shared} {elt : Expr} {gens : List Comprehension} {sc : Scope} {ps : Pos} {d : Nat} {it acc : Value} {env : Env} (ha : ((gens)[d]?).elim false (·.is_async != 0) = false)
    (h0 : codeAny (model prog w) A (.compLoop (.ListComp elt gens sc ps) d it acc env) R s)
    (h : wpAny (model prog w) A (pyIter it) (fun it' s' => codeAny (model prog w) A (.compLoop (.ListComp elt gens sc ps) d it' acc env) R s') (fun _ _ => False) s) :
    codeAny (model prog w) A (.compStart (.ListComp elt gens sc ps) d it acc env) R s:= by
  refine codeAny_of_tree ?_
  show wpAny _ _ ((compStart (.ListComp elt gens sc ps) d it acc env).onRaise (fun x => do noteFrame x env; standAt theWindowsPlace)) _ _ s
  refine wpAny_notedAt (wpAny_mono (E:= fun _ _ => False) ?_ (fun _ _ z => z) fun _ _ z => z.elim)
  unfold compStart
  rw [show ((clausesOf (.ListComp elt gens sc ps))[d]?).elim false (·.is_async != 0) = false from ha]
  simp only [Bool.false_eq_true,if_false]
  refine wpAny_bind (wpAny_askSetting (wpAny_ite ?_))
  split
  · first
      | exact wpAny_bind (wpAny_pure (wpAny_pure (And.intro rfl h0)))
      | exact wpAny_pure (And.intro rfl h0)
  · have fin : ∀ s : Shared,wpAny (model prog w) A (pyIter it) (fun it' s' => codeAny (model prog w) A (.compLoop (.ListComp elt gens sc ps) d it' acc env) R s') (fun _ _ => False) s →
        wpAny (model prog w) A (do let it' ← pyIter it; again (.compLoop (.ListComp elt gens sc ps) d it' acc env)) (fun fin s' => match fin with | .done f => R (.ok f) s' | .again c => c.quiet = true∧codeAny (model prog w) A c R s') (fun _ _ => False) s:= fun s h => wpAny_bind (wpAny_mono h (fun it' s' h' => wpAny_pure ⟨rfl,h'⟩) fun _ _ x => x)
    refine wpAny_bind (wpAny_rule ?_)
    have ec : clausesOf (.ListComp elt gens sc ps) = gens := rfl
    rw [ec]
    cases q : gens[d]? with
    | none => exact fin s h
    | some g => exact wpAny_bind (wpAny_standAt (fin s h))
end
def zgz (wi : TI) (cap : List (Option Nat)) (g : TG) (tt : TT) (inner : TC) : TE:= fun σ H Q => wi σ H fun J H1 => z8i J g tt inner (fun _ H' xs => ∀ p,H' p = none→Q (.ref p) (upd H' p (.lst xs))) (z9l cap σ) H1 []
section
variable {X : Cx}
theorem z6u {elt : Expr} {gens : List Comprehension} {sc : Scope} {ps : Pos} {tg iter : Expr} {ifs : List Expr} {rest : List Comprehension} {inner : Addr→Env→Sem Unit} {g : TG} {tt : TT} {ti : TC} {N : List Str} {cap : List (Option Nat)} {E : Value→Shared→Prop}
    (hc : X.calm = true) (C : CapOk X sc N cap) (eg : gens = ⟨tg,iter,ifs,0⟩ :: rest)
    (ht : ∀ it D env,compTurn (.ListComp elt gens sc ps) 0 (.ref it) (.ref D) env = z1q iter.pos (.ref it) tg ifs env (inner D env) (.compLoop (.ListComp elt gens sc ps) 0 (.ref it) (.ref D) env))
    (hg : ∀ s H ex,PG (blk X sc N s H ex) tg g) (htt : ∀ s H ex,PTs (blk X sc N s H ex) ifs tt) (hin : ∀ s H ex D,PCl (blk X sc N s H ex) D (inner D (blk X sc N s H ex).env) ti)
    {pins : List (Addr × Obj)} {s2 : Shared} {σ : St} {H2 : Hp} {K : St→Hp→List V→Prop} {it : Addr} {fp : List Addr} {tn : Nat→Heap→Prop} {J : It} (I2 : Inv X pins σ H2 s2) (T : Turn X.prog X.w X.K tg J fp it tn) (st2 : tn 0 s2.heap) (f2 : ∀ b ∈ fp,FpOk X pins H2 b)
    (lp : z8i J g tt ti K (z9l cap σ) H2 []) {R : Value→Addr→Result→Shared→Prop}
    (hR : ∀ σ' H' xs (s3 s' : Shared) (C D : Addr),X.s₀.heap.objs.size ≤ D→C = s3.heap.objs.size→(∃ m,s'.heap.Ns C m)→AccAt s' D xs→FpOk X pins H' D→FpOk X pins H' C→D < C→(∀ h',Heap.SameBut C s'.heap h'→Inv X pins σ H' { s' with heap := h' })→K σ' H' xs→R (.ref D) C (.ok .next) s') :
    wpAny (model X.prog X.w) X.A (newList []) (fun acc s3 => wpAny (model X.prog X.w) X.A (newFunctionEnv sc X.env.globals (z1b X.env sc.names []) [] X.env.qual none .none (some X.env)) (fun cenv s4 =>
      codeAny (model X.prog X.w) X.A (.compStart (.ListComp elt gens sc ps) 0 (.ref it) acc { cenv with scope := relabel sc X.env }) (R acc cenv.locals) s4) E s3) E s2:= by
  refine wpAny_newObj_type (z9k ?_)
  dsimp only
  generalize hs3 : ({ s2 with heap := s2.heap.push { cls := .type "list",dict := none,data := .seq ([] : List Value).toArray } } : Shared) = s3
  have kp : ∀ b o,s2.heap.get? b = some o→s3.heap.get? b = some o:= fun b o e => by rw [← hs3]; exact Heap.get?_push_of_some _ e
  have I3 : Inv X pins σ H2 s3 := by rw [← hs3]; exact I2.kept (t' := s2.toks) fun b o e => Heap.get?_push_of_some _ e
  have eD : s3.heap.get? s2.heap.objs.size = some { cls := .type "list",data := .seq ([] : List Value).toArray 0 } := by rw [← hs3]; exact Heap.get?_push_size _ rfl
  have nD : H2 s2.heap.objs.size = none := I2.hok.fresh (Nat.le_refl _)
  have fD : FpOk X pins H2 s2.heap.objs.size := I2.fpOk (Nat.le_refl _) nD
  have hlt : s2.heap.objs.size < s3.heap.objs.size := Heap.lt_size eD
  have hex : ∀ b ∈ s2.heap.objs.size :: fp,FpOk X pins H2 b∧b < s3.heap.objs.size:= fun b hb => by
    rcases List.mem_cons.mp hb with rfl | hb
    · exact ⟨fD,hlt⟩
    · obtain ⟨o,e,_⟩ := T.obj 0 _ st2 b hb
      exact ⟨f2 b hb,Heap.lt_size (kp b o e)⟩
  have hDfp : s2.heap.objs.size ∉ fp:= fun z => by
    obtain ⟨o,e,_⟩ := T.obj 0 _ st2 _ z
    exact Nat.lt_irrefl _ (Heap.lt_size e)
  have I4 := zgu (N := N) (ex := s2.heap.objs.size :: fp) I3 C hex
  have F4 := zkm (N := N) I3 C hex
  have st4 : tn 0 (pushCells (s3.heap.push { cls := .type "dict",data := .dict #[] }) sc.names) := T.keep 0 _ _ st2 fun b hb o e => pushCells_keeps _ _ _ _ (Heap.get?_push_of_some _ (kp b o e))
  have a4 : AccAt { s3 with heap := pushCells (s3.heap.push { cls := .type "dict",data := .dict #[] }) sc.names } s2.heap.objs.size [] := ⟨Nat.zero_le _,[],0,.nil,pushCells_keeps _ _ _ _ (Heap.get?_push_of_some _ eD)⟩
  have loop : codeAny (model X.prog X.w) X.A (.compLoop (.ListComp elt gens sc ps) 0 (.ref it) (.ref s2.heap.objs.size) (blk X sc N s3 H2 (s2.heap.objs.size :: fp)).env) (R (.ref s2.heap.objs.size) s3.heap.objs.size)
      { s3 with heap := pushCells (s3.heap.push { cls := .type "dict",data := .dict #[] }) sc.names }:= by
    refine zak (X := blk X sc N s3 H2 (s2.heap.objs.size :: fp)) rfl hc (ht it _ _) (hg _ _ _) (htt _ _ _) (hin _ _ _ _) T I4 a4 (F4 _ (List.mem_cons_self ..)) st4 (fun b hb => F4 b (List.mem_cons_of_mem _ hb)) hDfp lp fun σ' H' xs' s' I' a' n' k' => ?_
    obtain ⟨m,hn,_⟩ := I'.loc
    exact hR σ' H' xs' s3 s' _ _ (Nat.le_trans I2.sz (Nat.le_refl _)) rfl ⟨m,hn⟩ a' ⟨n',fD.2⟩ (I3.fpOk (Nat.le_refl _) I'.free) hlt (fun h' hh => zgv I3 hex I' hh) k'
  have ha : ((gens)[0]?).elim false (·.is_async != 0) = false := by rw [eg]; rfl
  subst hs3
  exact z3e ha loop (T.self _ 0 _ _ _ st4 loop)
theorem zh0 {elt : Expr} {gens : List Comprehension} {sc : Scope} {ps : Pos} {tg iter : Expr} {ifs : List Expr} {rest : List Comprehension} {inner : Addr→Env→Sem Unit} {wi : TI} {g : TG} {tt : TT} {ti : TC} {N : List Str} {cap : List (Option Nat)}
    (hc : X.calm = true) (C : CapOk X sc N cap) (eg : gens = ⟨tg,iter,ifs,0⟩ :: rest)
    (ht : ∀ it D env,compTurn (.ListComp elt gens sc ps) 0 (.ref it) (.ref D) env = z1q iter.pos (.ref it) tg ifs env (inner D env) (.compLoop (.ListComp elt gens sc ps) 0 (.ref it) (.ref D) env))
    (hi : PI X tg iter wi) (hg : ∀ s H ex,PG (blk X sc N s H ex) tg g) (htt : ∀ s H ex,PTs (blk X sc N s H ex) ifs tt) (hin : ∀ s H ex D,PCl (blk X sc N s H ex) D (inner D (blk X sc N s H ex).env) ti)
    (hs : ∀ x,foldedSetIterable iter X.env x = pure x) : PE X (.ListComp elt gens sc ps) (zgz wi cap g tt ti):= by
  intro pins s σ H Q I h
  rw [eval_ListComp]
  have hcl : closureFor sc X.env = pure (z1b X.env sc.names []) := z25 fun x hx => I.ok.has x (C.free x hx)
  have e1 : firstAsync gens = false := by rw [eg]; rfl
  have e2 : firstIter gens X.env = eval iter X.env := by rw [eg]; rfl
  rw [e1,e2]
  refine wpAny_comprehension_free (use := none) (g := ⟨tg,iter,ifs,0⟩) (gs := rest) (by rw [eg]; rfl) hs hcl C.kind C.nd (thn (hi pins s σ H _ I h) fun v s1 h1 => thn h1 fun itv s2 h2 => ?_)
  obtain ⟨it,fp,tn,J,H2,e,I2,T,st2,f2,lp⟩ := h2
  subst e
  refine z6u (N := N) (inner := inner) (R:= fun acc C => compPost (model X.prog X.w) X.A X.xe none (EP X pins σ Q) acc C) hc C eg ht hg htt hin I2 T st2 f2 lp ?_
  intro σ' H' xs s3 s' C D hD0 hC hn a f fC hDC hout k
  obtain ⟨m,hn⟩ := hn
  refine ⟨m,hn,fun h' hh => ?_⟩
  have I5 := hout h' hh
  obtain ⟨hz,its,n,r,eD⟩ := a
  have eD' : h'.get? D = some { cls := .type "list",data := .seq its.toArray n } := (hh.2 D (Nat.ne_of_lt hDC)).trans eD
  refine ⟨.ref D,upd H' D (.lst xs),I5.adopt f hD0 ⟨hz,its,n,r,eD'⟩,rfl,k D f.1⟩
end
section
variable {X : Cx}
theorem z9m {i : Nat} {x : Str} {px pos : Pos} {elt : Expr} {gens : List Comprehension} {sc : Scope} {ps : Pos} {tg iter : Expr} {ifs : List Expr} {rest : List Comprehension} {inner : Addr→Env→Sem Unit} {wi : TI} {g : TG} {tt : TT} {ti : TC} {N : List Str} {cap : List (Option Nat)}
    (hsw : swapsWith (.ListComp elt gens sc ps) (some (.Name x px)) pos.line X.env = pure true) (hN : X.N.Nodup) (hi' : X.N[i]? = some x) (hx : X.env.scope.names.lookup x = some .local)
    (hc : X.calm = true) (C : CapOk X sc N cap) (eg : gens = ⟨tg,iter,ifs,0⟩ :: rest)
    (ht : ∀ it D env,compTurn (.ListComp elt gens sc ps) 0 (.ref it) (.ref D) env = z1q iter.pos (.ref it) tg ifs env (inner D env) (.compLoop (.ListComp elt gens sc ps) 0 (.ref it) (.ref D) env))
    (hi : PI X tg iter wi) (hg : ∀ s H ex,PG (blk X sc N s H ex) tg g) (htt : ∀ s H ex,PTs (blk X sc N s H ex) ifs tt) (hin : ∀ s H ex D,PCl (blk X sc N s H ex) D (inner D (blk X sc N s H ex).env) ti)
    (hs : ∀ x,foldedSetIterable iter X.env x = pure x) : PS X (.Assign [.Name x px] (.ListComp elt gens sc ps) pos) (tAsg (zgz wi cap g tt ti) (zgd i)):= by
  intro pins s σ H D I h
  rw [exec_Assign_Name_used _ _ _ _ hsw]
  have hcl : closureFor sc X.env = pure (z1b X.env sc.names []) := z25 fun x hx => I.ok.has x (C.free x hx)
  have e1 : firstAsync gens = false := by rw [eg]; rfl
  have e2 : firstIter gens X.env = eval iter X.env := by rw [eg]; rfl
  refine wpAny_bind (wpAny_standAt (wpAny_bind ?_))
  show wpAny _ X.A (do let _ ← comprehension (.ListComp elt gens sc ps) sc X.env (firstIterPos gens ps) (newList []) (firstAsync gens) (firstIter gens X.env) (some (assign (.Name x px) X.env))) _ _ s
  rw [e1,e2]
  refine wpAny_bind (thn (wpAny_comprehension_free (use := some (assign (.Name x px) X.env)) (Q:= fun _ s' => SP X pins D .next s') (g := ⟨tg,iter,ifs,0⟩) (gs := rest) (by rw [eg]; rfl) hs hcl C.kind C.nd (thn (hi pins s σ H _ I h) fun v s1 h1 => thn h1 fun itv s2 h2 => ?_)) fun _ s' hq => wpAny_pure (wpAny_pure hq))
  obtain ⟨it,fp,tn,J,H2,e,I2,T,st2,f2,lp⟩ := h2
  subst e
  refine z6u (N := N) (inner := inner) (R:= fun acc C => compPost (model X.prog X.w) X.A X.xe (some (assign (.Name x px) X.env)) (fun _ s' => SP X pins D .next s') acc C) hc C eg ht hg htt hin I2 T st2 f2 lp ?_
  intro σ' H' xs s3 s' C D' hD0 hC hn a f fC hDC hout k
  obtain ⟨m,hn⟩ := hn
  have I5 : Inv X pins σ H' s' := hout s'.heap (Heap.SameBut.refl ..)
  obtain ⟨hz,its,n,r,eD⟩ := a
  have I6 : Inv X pins σ (upd H' D' (.lst xs)) s' := I5.adopt f hD0 ⟨hz,its,n,r,eD⟩
  show wpAny _ X.A (assign (.Name x px) X.env (.ref D')) _ _ s'
  obtain ⟨c0,c1,c2,c3,c4,c5⟩ := fC
  have nC : upd H' D' (.lst xs) C = none := by rw [z0g (Ne.symm (Nat.ne_of_lt hDC))]; exact c0
  refine wpAny_assign_Name (z6m (v := V.ref D') I6 hN hi' (.inl hx) rfl (fun s'' I7 ⟨a,sb,ha⟩ => ?_) (.inr hx))
  have hCa : C ≠ a:= by
    rcases ha with z | z
    · rw [z]; exact c1
    · exact Ne.symm (c4 x a z)
  refine ⟨m,hn.sameBut sb hCa,fun h' hh => ?_⟩
  have I8 : Inv X pins (σ.set i (some (.ref D'))) (upd H' D' (.lst xs)) { s'' with heap := h' } := I7.turned (t' := s''.toks) (fun b o hb e => (hh.2 b hb).trans e) nC c1 c3 c4 c5
  exact ⟨_,_,I8,k D' f.1⟩
end
inductive Dt where
  | non | bl (b : Bool) | int (i : Int) | str (x : Str) | tup (xs : List Dt) | lst (xs : List Dt) | dct
mutual
def Den (P : Addr→Prop) (H : Hp) : Dt→V→Prop
  | .non,v => v = .non
  | .bl b,v => v = .bl b
  | .int i,v => v = .int i
  | .str x,v => v = .str x
  | .tup ds,v => ∃ a vs,v = .ref a∧H a = some (.tup vs)∧DenL P H ds vs
  | .lst ds,v => ∃ a vs,v = .ref a∧P a∧H a = some (.lst vs)∧DenL P H ds vs
  | .dct,v => ∃ a,v = .ref a∧P a∧H a = some (.dK [])
def DenL (P : Addr→Prop) (H : Hp) : List Dt→List V→Prop
  | [],vs => vs = []
  | d :: ds,vs => ∃ v r,vs = v :: r∧Den P H d v∧DenL P H ds r
end
structure Keep (Q : Addr→Prop) (H H' : Hp) : Prop where
  at_ : ∀ b o,Q b→H b = some o→H' b = some o
  tup : ∀ b xs,H b = some (.tup xs)→H' b = some (.tup xs)
theorem Same.keep {Q : Addr→Prop} {H H' : Hp} (s : Same H H') : Keep Q H H' := ⟨fun b o _ e => s b o e,fun b xs e => s b _ e⟩
theorem Keep.mono {Q Q' : Addr→Prop} {H H' : Hp} (k : Keep Q H H') (h : ∀ b,Q' b→Q b) : Keep Q' H H' := ⟨fun b o q e => k.at_ b o (h b q) e,k.tup⟩
theorem Same.upd {H : Hp} {p : Addr} {o : HO} (h : H p = none) : Same H (upd H p o):= fun b u e => by rw [z0g (z0j e h)]; exact e
mutual
theorem Den.keep {P : Addr→Prop} {H H' : Hp} (k : Keep P H H') : ∀ (d : Dt) (v : V),Den P H d v→Den P H' d v
  | .non,v,h => h
  | .bl b,v,h => h
  | .int i,v,h => h
  | .str x,v,h => h
  | .tup ds,v,h => by
    obtain ⟨a,vs,e,h1,h2⟩ := h
    exact ⟨a,vs,e,k.tup a vs h1,DenL.keep k ds vs h2⟩
  | .lst ds,v,h => by
    obtain ⟨a,vs,e,p,h1,h2⟩ := h
    exact ⟨a,vs,e,p,k.at_ a _ p h1,DenL.keep k ds vs h2⟩
  | .dct,v,h => by
    obtain ⟨a,e,p,h1⟩ := h
    exact ⟨a,e,p,k.at_ a _ p h1⟩
theorem DenL.keep {P : Addr→Prop} {H H' : Hp} (k : Keep P H H') : ∀ (ds : List Dt) (vs : List V),DenL P H ds vs→DenL P H' ds vs
  | [],vs,h => h
  | d :: ds,vs,h => by
    obtain ⟨v,r,e,h1,h2⟩ := h
    exact ⟨v,r,e,Den.keep k d v h1,DenL.keep k ds r h2⟩
end
theorem DenL.length {P : Addr→Prop} {H : Hp} : ∀ {ds : List Dt} {vs : List V},DenL P H ds vs→vs.length = ds.length
  | [],vs,h => by rw [DenL] at h; rw [h]; rfl
  | d :: ds,vs,h => by
    rw [DenL] at h
    obtain ⟨v,r,rfl,_,h2⟩ := h
    simp [DenL.length h2]
theorem DenL.get {P : Addr→Prop} {H : Hp} : ∀ {ds : List Dt} {vs : List V} {i : Nat} {v : V},DenL P H ds vs→vs[i]? = some v→∃ d,ds[i]? = some d∧Den P H d v
  | [],vs,i,v,h,e => by rw [DenL] at h; rw [h] at e; simp at e
  | d :: ds,vs,i,v,h,e => by
    rw [DenL] at h
    obtain ⟨w,r,rfl,h1,h2⟩ := h
    cases i with
    | zero => simp at e; subst e; exact ⟨d,rfl,h1⟩
    | succ i => simp at e; exact DenL.get (i := i) h2 e
theorem DenL.append {P : Addr→Prop} {H : Hp} : ∀ {ds es : List Dt} {vs ws : List V},DenL P H ds vs→DenL P H es ws→DenL P H (ds ++ es) (vs ++ ws)
  | [],es,vs,ws,h,g => by rw [DenL] at h; subst h; exact g
  | d :: ds,es,vs,ws,h,g => by
    rw [DenL] at h
    obtain ⟨v,r,rfl,h1,h2⟩ := h
    exact ⟨v,r ++ ws,rfl,h1,DenL.append h2 g⟩
theorem DenL.nil {P : Addr→Prop} {H : Hp} : DenL P H [] [] := by rw [DenL]
theorem DenL.cons {P : Addr→Prop} {H : Hp} {d : Dt} {v : V} {ds : List Dt} {vs : List V} (h : Den P H d v) (t : DenL P H ds vs) : DenL P H (d :: ds) (v :: vs) := by rw [DenL]; exact ⟨v,vs,rfl,h,t⟩
mutual
def deq : Dt→Dt→Bool
  | .non,.non => true
  | .bl a,.bl b => a == b
  | .bl a,.int j => (if a then 1 else 0) == j
  | .int i,.bl b => i == (if b then 1 else 0)
  | .int i,.int j => i == j
  | .str x,.str y => x == y
  | .tup xs,.tup ys => deqL xs ys
  | .lst xs,.lst ys => deqL xs ys
  | _,_ => false
def deqL : List Dt→List Dt→Bool
  | [],[] => true
  | x :: xs,y :: ys => deq x y && deqL xs ys
  | _,_ => false
end
mutual
def dep : Dt→Nat
  | .tup xs => depL xs + 1
  | .lst xs => depL xs + 1
  | _ => 0
def depL : List Dt→Nat
  | [] => 0
  | x :: xs => max (dep x) (depL xs)
end
mutual
def nod : Dt→Bool
  | .tup xs => nodL xs
  | .lst xs => nodL xs
  | .dct => false
  | _ => true
def nodL : List Dt→Bool
  | [] => true
  | x :: xs => nod x && nodL xs
end
mutual
theorem z5y : ∀ d : Dt,nod d = true→deq d d = true
  | .non,_ => rfl
  | .bl b,_ => by simp [deq]
  | .int i,_ => by simp [deq]
  | .str x,_ => by simp [deq]
  | .tup xs,h => by rw [deq]; exact z4b xs (by rw [nod] at h; exact h)
  | .lst xs,h => by rw [deq]; exact z4b xs (by rw [nod] at h; exact h)
  | .dct,h => by simp [nod] at h
theorem z4b : ∀ l : List Dt,nodL l = true→deqL l l = true
  | [],_ => rfl
  | x :: xs,h => by
    rw [nodL,Bool.and_eq_true] at h
    rw [deqL,z5y x h.1,z4b xs h.2]
    rfl
end
theorem z5z : ∀ {l : List Dt} {d : Dt},d ∈ l→dep d ≤ depL l
  | x :: xs,d,h => by
    rw [depL]
    rcases List.mem_cons.mp h with rfl | h
    · omega
    · have := z5z h; omega
theorem z33 : ∀ {l : List Dt} {d : Dt},nodL l = true→d ∈ l→nod d = true
  | x :: xs,d,h,hd => by
    rw [nodL,Bool.and_eq_true] at h
    rcases List.mem_cons.mp hd with rfl | hd
    · exact h.1
    · exact z33 h.2 hd
theorem z23 : ∀ {xs ys : List Dt},xs.length = ys.length→deqL xs ys = (List.range xs.length).all fun i => deq (xs.getD i .non) (ys.getD i .non)
  | [],[],_ => rfl
  | x :: xs,y :: ys,h => by
    rw [deqL,z23 (xs := xs) (ys := ys) (by simpa using h),List.length_cons,List.range_succ_eq_map,List.all_cons,List.all_map]
    rfl
theorem z34 : ∀ {xs ys : List Dt},xs.length ≠ ys.length→deqL xs ys = false
  | [],[],h => absurd rfl h
  | [],_ :: _,_ => rfl
  | _ :: _,[],_ => rfl
  | x :: xs,y :: ys,h => by
    rw [deqL,z34 (xs := xs) (ys := ys) (by simpa using h),Bool.and_false]
mutual
theorem Den.inj {P : Addr→Prop} {H : Hp} : ∀ (d d' : Dt) (v : V),Den P H d v→Den P H d' v→d = d'
  | .non,d',v,h,h' => by
    rw [Den] at h; subst h
    cases d' <;> rw [Den] at h' <;> first | rfl | (obtain ⟨_,_,e,_⟩ := h'; cases e; done) | (obtain ⟨_,e,_⟩ := h'; cases e; done) | (cases h'; done)
  | .bl b,d',v,h,h' => by
    rw [Den] at h; subst h
    cases d' <;> rw [Den] at h' <;> first | (obtain ⟨_,_,e,_⟩ := h'; cases e; done) | (obtain ⟨_,e,_⟩ := h'; cases e; done) | (cases h'; done) | (cases h'; rfl)
  | .int b,d',v,h,h' => by
    rw [Den] at h; subst h
    cases d' <;> rw [Den] at h' <;> first | (obtain ⟨_,_,e,_⟩ := h'; cases e; done) | (obtain ⟨_,e,_⟩ := h'; cases e; done) | (cases h'; done) | (cases h'; rfl)
  | .str b,d',v,h,h' => by
    rw [Den] at h; subst h
    cases d' <;> rw [Den] at h' <;> first | (obtain ⟨_,_,e,_⟩ := h'; cases e; done) | (obtain ⟨_,e,_⟩ := h'; cases e; done) | (cases h'; done) | (cases h'; rfl)
  | .tup ds,d',v,h,h' => by
    rw [Den] at h
    obtain ⟨a,vs,rfl,h1,h2⟩ := h
    cases d' with
    | tup ds' =>
      rw [Den] at h'
      obtain ⟨a',vs',e,h1',h2'⟩ := h'
      cases e
      rw [h1] at h1'; cases h1'
      rw [DenL.inj ds ds' vs h2 h2']
    | lst ds' =>
      rw [Den] at h'
      obtain ⟨a',vs',e,_,h1',h2'⟩ := h'
      cases e
      rw [h1] at h1'; cases h1'
    | dct =>
      rw [Den] at h'
      obtain ⟨a',e,_,h1'⟩ := h'
      cases e
      rw [h1] at h1'; cases h1'
    | _ => rw [Den] at h'; cases h'
  | .lst ds,d',v,h,h' => by
    rw [Den] at h
    obtain ⟨a,vs,rfl,_,h1,h2⟩ := h
    cases d' with
    | tup ds' =>
      rw [Den] at h'
      obtain ⟨a',vs',e,h1',h2'⟩ := h'
      cases e
      rw [h1] at h1'; cases h1'
    | lst ds' =>
      rw [Den] at h'
      obtain ⟨a',vs',e,_,h1',h2'⟩ := h'
      cases e
      rw [h1] at h1'; cases h1'
      rw [DenL.inj ds ds' vs h2 h2']
    | dct =>
      rw [Den] at h'
      obtain ⟨a',e,_,h1'⟩ := h'
      cases e
      rw [h1] at h1'; cases h1'
    | _ => rw [Den] at h'; cases h'
  | .dct,d',v,h,h' => by
    rw [Den] at h
    obtain ⟨a,rfl,_,h1⟩ := h
    cases d' with
    | tup ds' =>
      rw [Den] at h'
      obtain ⟨a',vs',e,h1',h2'⟩ := h'
      cases e
      rw [h1] at h1'; cases h1'
    | lst ds' =>
      rw [Den] at h'
      obtain ⟨a',vs',e,_,h1',h2'⟩ := h'
      cases e
      rw [h1] at h1'; cases h1'
    | dct => rfl
    | _ => rw [Den] at h'; cases h'
theorem DenL.inj {P : Addr→Prop} {H : Hp} : ∀ (ds ds' : List Dt) (vs : List V),DenL P H ds vs→DenL P H ds' vs→ds = ds'
  | [],ds',vs,h,h' => by
    rw [DenL] at h; subst h
    cases ds' with
    | nil => rfl
    | cons d ds' => rw [DenL] at h'; obtain ⟨_,_,e,_⟩ := h'; cases e
  | d :: ds,ds',vs,h,h' => by
    rw [DenL] at h
    obtain ⟨v,r,rfl,h1,h2⟩ := h
    cases ds' with
    | nil => rw [DenL] at h'; cases h'
    | cons d' ds' =>
      rw [DenL] at h'
      obtain ⟨v',r',e,h1',h2'⟩ := h'
      cases e
      rw [Den.inj d d' v h1 h1',DenL.inj ds ds' r h2 h2']
end
section
variable {Pg : Program} {w : World} {P : Addr→Prop} {H : Hp} {s : Shared}
theorem z12 (hok : HOk Pg w H s.heap) {a : Addr} {vs : List V} (e : H a = some (.tup vs)) : ∃ its : List Value,Vals vs its∧s.heap.IsTuple a its.toArray:= by
  obtain ⟨_,its,r,p⟩ := (show ObjOk Pg w H s.heap a (.tup vs) from hok a _ e)
  exact ⟨its,r,p.tup⟩
theorem z13 (hok : HOk Pg w H s.heap) {a : Addr} {vs : List V} (e : H a = some (.lst vs)) : ∃ its : List Value,Vals vs its∧s.heap.IsList a its.toArray:= by
  obtain ⟨_,its,n,r,p⟩ := (show ObjOk Pg w H s.heap a (.lst vs) from hok a _ e)
  exact ⟨its,r,_,p,rfl,n,rfl⟩
theorem z60 {vs : List V} {its : List Value} (r : Vals vs its) {j : Nat} (h : j < its.toArray.size) : ∃ v,vs[j]? = some v∧RelV v its.toArray[j]:= by
  have hl := r.length
  have h' : j < its.length := by simpa using h
  have hv : j < vs.length := by omega
  obtain ⟨u,e,q⟩ := r.get (i := j) (x := vs[j]) (List.getElem?_eq_getElem hv)
  refine ⟨vs[j],List.getElem?_eq_getElem hv, ?_⟩
  have : its.toArray[j] = u:= by
    have : its[j]? = some its[j] := List.getElem?_eq_getElem h'
    rw [this] at e
    simpa using e
  rw [this]
  exact q
theorem zal (hok : HOk Pg w H s.heap) : ∀ (n : Nat) (A : Around) (d d' : Dt) (v v' : V) (u u' : Value),dep d ≤ n→A.units + n + 1 < cLine→nod d = true→nod d' = true→Den P H d v→Den P H d' v'→RelV v u→RelV v' u' →
    SeqAt.RcAt A s u u' (deq d d')∧SeqAt.EqAt A s u u' (deq d d'):= by
  intro n
  induction n with
  | zero =>
    intro A d d' v v' u u' hn hu n1 n2 h h' r r'
    have hu' : A.units < cLine := by omega
    cases d with
    | non =>
      rw [Den] at h; subst h; cases r
      cases d' with
      | non =>
        rw [Den] at h'; subst h'; cases r'
        exact ⟨SeqAt.RcAt.none_none,SeqAt.EqAt.same _⟩
      | bl b' =>
        rw [Den] at h'; subst h'; cases r'
        exact ⟨SeqAt.RcAt.none_bool _,SeqAt.EqAt.none_bool _⟩
      | int i' =>
        rw [Den] at h'; subst h'; obtain ⟨t2,rfl⟩ := r'
        exact ⟨SeqAt.RcAt.none_int _ _,SeqAt.EqAt.none_int _ _⟩
      | str x' =>
        rw [Den] at h'; subst h'; obtain ⟨t2,rfl⟩ := r'
        exact ⟨SeqAt.RcAt.none_str _ _,SeqAt.EqAt.none_str _ _⟩
      | tup ds' =>
        rw [Den] at h'; obtain ⟨a2,vs2,rfl,e2,g2⟩ := h'; cases r'; obtain ⟨its2,q2,tp2⟩ := z12 hok e2
        exact ⟨SeqAt.RcAt.none_tuple  tp2 hu',SeqAt.EqAt.none_tuple  tp2 hu'⟩
      | lst ds' =>
        rw [Den] at h'; obtain ⟨a2,vs2,rfl,_,e2,g2⟩ := h'; cases r'; obtain ⟨its2,q2,tp2⟩ := z13 hok e2
        exact ⟨SeqAt.RcAt.none_list  tp2 hu',SeqAt.EqAt.none_list  tp2 hu'⟩
      | dct => simp [nod] at n2
    | bl b =>
      rw [Den] at h; subst h; cases r
      cases d' with
      | non =>
        rw [Den] at h'; subst h'; cases r'
        exact ⟨SeqAt.RcAt.bool_none _,SeqAt.EqAt.bool_none _⟩
      | bl b' =>
        rw [Den] at h'; subst h'; cases r'
        exact ⟨SeqAt.RcAt.bool_bool _ _,SeqAt.EqAt.bool_bool _ _⟩
      | int i' =>
        rw [Den] at h'; subst h'; obtain ⟨t2,rfl⟩ := r'
        exact ⟨SeqAt.RcAt.bool_int _ _ _,SeqAt.EqAt.bool_int _ _ _⟩
      | str x' =>
        rw [Den] at h'; subst h'; obtain ⟨t2,rfl⟩ := r'
        exact ⟨SeqAt.RcAt.bool_str _ _ _,SeqAt.EqAt.bool_str _ _ _⟩
      | tup ds' =>
        rw [Den] at h'; obtain ⟨a2,vs2,rfl,e2,g2⟩ := h'; cases r'; obtain ⟨its2,q2,tp2⟩ := z12 hok e2
        exact ⟨SeqAt.RcAt.bool_tuple _ tp2 hu',SeqAt.EqAt.bool_tuple _ tp2 hu'⟩
      | lst ds' =>
        rw [Den] at h'; obtain ⟨a2,vs2,rfl,_,e2,g2⟩ := h'; cases r'; obtain ⟨its2,q2,tp2⟩ := z13 hok e2
        exact ⟨SeqAt.RcAt.bool_list _ tp2 hu',SeqAt.EqAt.bool_list _ tp2 hu'⟩
      | dct => simp [nod] at n2
    | int i =>
      rw [Den] at h; subst h; obtain ⟨t1,rfl⟩ := r
      cases d' with
      | non =>
        rw [Den] at h'; subst h'; cases r'
        exact ⟨SeqAt.RcAt.int_none _ _,SeqAt.EqAt.int_none _ _⟩
      | bl b' =>
        rw [Den] at h'; subst h'; cases r'
        exact ⟨SeqAt.RcAt.int_bool _ _ _,SeqAt.EqAt.int_bool _ _ _⟩
      | int i' =>
        rw [Den] at h'; subst h'; obtain ⟨t2,rfl⟩ := r'
        exact ⟨SeqAt.RcAt.int_int _ _ _ _,SeqAt.EqAt.int_int _ _ _ _⟩
      | str x' =>
        rw [Den] at h'; subst h'; obtain ⟨t2,rfl⟩ := r'
        exact ⟨SeqAt.RcAt.int_str _ _ _ _,SeqAt.EqAt.int_str _ _ _ _⟩
      | tup ds' =>
        rw [Den] at h'; obtain ⟨a2,vs2,rfl,e2,g2⟩ := h'; cases r'; obtain ⟨its2,q2,tp2⟩ := z12 hok e2
        exact ⟨SeqAt.RcAt.int_tuple _ _ tp2 hu',SeqAt.EqAt.int_tuple _ _ tp2 hu'⟩
      | lst ds' =>
        rw [Den] at h'; obtain ⟨a2,vs2,rfl,_,e2,g2⟩ := h'; cases r'; obtain ⟨its2,q2,tp2⟩ := z13 hok e2
        exact ⟨SeqAt.RcAt.int_list _ _ tp2 hu',SeqAt.EqAt.int_list _ _ tp2 hu'⟩
      | dct => simp [nod] at n2
    | str x =>
      rw [Den] at h; subst h; obtain ⟨t1,rfl⟩ := r
      cases d' with
      | non =>
        rw [Den] at h'; subst h'; cases r'
        exact ⟨SeqAt.RcAt.str_none _ _,SeqAt.EqAt.str_none _ _⟩
      | bl b' =>
        rw [Den] at h'; subst h'; cases r'
        exact ⟨SeqAt.RcAt.str_bool _ _ _,SeqAt.EqAt.str_bool _ _ _⟩
      | int i' =>
        rw [Den] at h'; subst h'; obtain ⟨t2,rfl⟩ := r'
        exact ⟨SeqAt.RcAt.str_int _ _ _ _,SeqAt.EqAt.str_int _ _ _ _⟩
      | str x' =>
        rw [Den] at h'; subst h'; obtain ⟨t2,rfl⟩ := r'
        exact ⟨SeqAt.RcAt.str_str _ _ _ _,SeqAt.EqAt.str_str _ _ _ _⟩
      | tup ds' =>
        rw [Den] at h'; obtain ⟨a2,vs2,rfl,e2,g2⟩ := h'; cases r'; obtain ⟨its2,q2,tp2⟩ := z12 hok e2
        exact ⟨SeqAt.RcAt.str_tuple _ _ tp2 hu',SeqAt.EqAt.str_tuple _ _ tp2 hu'⟩
      | lst ds' =>
        rw [Den] at h'; obtain ⟨a2,vs2,rfl,_,e2,g2⟩ := h'; cases r'; obtain ⟨its2,q2,tp2⟩ := z13 hok e2
        exact ⟨SeqAt.RcAt.str_list _ _ tp2 hu',SeqAt.EqAt.str_list _ _ tp2 hu'⟩
      | dct => simp [nod] at n2
    | tup ds => rw [dep] at hn; omega
    | lst ds => rw [dep] at hn; omega
    | dct => simp [nod] at n1
  | succ n ih =>
    intro A d d' v v' u u' hn hu n1 n2 h h' r r'
    have hu' : A.units < cLine := by omega
    have hin : ∀ {vs vs' : List V} {ds ds' : List Dt} {its its' : List Value},depL ds ≤ n→nodL ds = true→nodL ds' = true→DenL P H ds vs→DenL P H ds' vs'→Vals vs its→Vals vs' its' →
        ∀ j (h1 : j < its.toArray.size) (h2 : j < its'.toArray.size),SeqAt.EqAt A.in1 s its.toArray[j] its'.toArray[j] (deq (ds.getD j .non) (ds'.getD j .non)):= by
      intro vs vs' ds ds' its its' hd m1 m2 g g' q q' j h1 h2
      obtain ⟨x,ex,rx⟩ := z60 q h1
      obtain ⟨x',ex',rx'⟩ := z60 q' h2
      obtain ⟨dx,edx,gx⟩ := g.get ex
      obtain ⟨dx',edx',gx'⟩ := g'.get ex'
      have e1 : ds.getD j .non = dx := by simp [List.getD,edx]
      have e2 : ds'.getD j .non = dx' := by simp [List.getD,edx']
      rw [e1,e2]
      have hm := List.mem_of_getElem? edx
      exact (ih A.in1 dx dx' x x' _ _ (Nat.le_trans (z5z hm) hd) (by show A.units + 1 + n + 1 < cLine; omega) (z33 m1 hm) (z33 m2 (List.mem_of_getElem? edx')) gx gx' rx rx').2
    cases d with
    | non =>
      rw [Den] at h; subst h; cases r
      cases d' with
      | non =>
        rw [Den] at h'; subst h'; cases r'
        exact ⟨SeqAt.RcAt.none_none,SeqAt.EqAt.same _⟩
      | bl b' =>
        rw [Den] at h'; subst h'; cases r'
        exact ⟨SeqAt.RcAt.none_bool _,SeqAt.EqAt.none_bool _⟩
      | int i' =>
        rw [Den] at h'; subst h'; obtain ⟨t2,rfl⟩ := r'
        exact ⟨SeqAt.RcAt.none_int _ _,SeqAt.EqAt.none_int _ _⟩
      | str x' =>
        rw [Den] at h'; subst h'; obtain ⟨t2,rfl⟩ := r'
        exact ⟨SeqAt.RcAt.none_str _ _,SeqAt.EqAt.none_str _ _⟩
      | tup ds' =>
        rw [Den] at h'; obtain ⟨a2,vs2,rfl,e2,g2⟩ := h'; cases r'; obtain ⟨its2,q2,tp2⟩ := z12 hok e2
        exact ⟨SeqAt.RcAt.none_tuple  tp2 hu',SeqAt.EqAt.none_tuple  tp2 hu'⟩
      | lst ds' =>
        rw [Den] at h'; obtain ⟨a2,vs2,rfl,_,e2,g2⟩ := h'; cases r'; obtain ⟨its2,q2,tp2⟩ := z13 hok e2
        exact ⟨SeqAt.RcAt.none_list  tp2 hu',SeqAt.EqAt.none_list  tp2 hu'⟩
      | dct => simp [nod] at n2
    | bl b =>
      rw [Den] at h; subst h; cases r
      cases d' with
      | non =>
        rw [Den] at h'; subst h'; cases r'
        exact ⟨SeqAt.RcAt.bool_none _,SeqAt.EqAt.bool_none _⟩
      | bl b' =>
        rw [Den] at h'; subst h'; cases r'
        exact ⟨SeqAt.RcAt.bool_bool _ _,SeqAt.EqAt.bool_bool _ _⟩
      | int i' =>
        rw [Den] at h'; subst h'; obtain ⟨t2,rfl⟩ := r'
        exact ⟨SeqAt.RcAt.bool_int _ _ _,SeqAt.EqAt.bool_int _ _ _⟩
      | str x' =>
        rw [Den] at h'; subst h'; obtain ⟨t2,rfl⟩ := r'
        exact ⟨SeqAt.RcAt.bool_str _ _ _,SeqAt.EqAt.bool_str _ _ _⟩
      | tup ds' =>
        rw [Den] at h'; obtain ⟨a2,vs2,rfl,e2,g2⟩ := h'; cases r'; obtain ⟨its2,q2,tp2⟩ := z12 hok e2
        exact ⟨SeqAt.RcAt.bool_tuple _ tp2 hu',SeqAt.EqAt.bool_tuple _ tp2 hu'⟩
      | lst ds' =>
        rw [Den] at h'; obtain ⟨a2,vs2,rfl,_,e2,g2⟩ := h'; cases r'; obtain ⟨its2,q2,tp2⟩ := z13 hok e2
        exact ⟨SeqAt.RcAt.bool_list _ tp2 hu',SeqAt.EqAt.bool_list _ tp2 hu'⟩
      | dct => simp [nod] at n2
    | int i =>
      rw [Den] at h; subst h; obtain ⟨t1,rfl⟩ := r
      cases d' with
      | non =>
        rw [Den] at h'; subst h'; cases r'
        exact ⟨SeqAt.RcAt.int_none _ _,SeqAt.EqAt.int_none _ _⟩
      | bl b' =>
        rw [Den] at h'; subst h'; cases r'
        exact ⟨SeqAt.RcAt.int_bool _ _ _,SeqAt.EqAt.int_bool _ _ _⟩
      | int i' =>
        rw [Den] at h'; subst h'; obtain ⟨t2,rfl⟩ := r'
        exact ⟨SeqAt.RcAt.int_int _ _ _ _,SeqAt.EqAt.int_int _ _ _ _⟩
      | str x' =>
        rw [Den] at h'; subst h'; obtain ⟨t2,rfl⟩ := r'
        exact ⟨SeqAt.RcAt.int_str _ _ _ _,SeqAt.EqAt.int_str _ _ _ _⟩
      | tup ds' =>
        rw [Den] at h'; obtain ⟨a2,vs2,rfl,e2,g2⟩ := h'; cases r'; obtain ⟨its2,q2,tp2⟩ := z12 hok e2
        exact ⟨SeqAt.RcAt.int_tuple _ _ tp2 hu',SeqAt.EqAt.int_tuple _ _ tp2 hu'⟩
      | lst ds' =>
        rw [Den] at h'; obtain ⟨a2,vs2,rfl,_,e2,g2⟩ := h'; cases r'; obtain ⟨its2,q2,tp2⟩ := z13 hok e2
        exact ⟨SeqAt.RcAt.int_list _ _ tp2 hu',SeqAt.EqAt.int_list _ _ tp2 hu'⟩
      | dct => simp [nod] at n2
    | str x =>
      rw [Den] at h; subst h; obtain ⟨t1,rfl⟩ := r
      cases d' with
      | non =>
        rw [Den] at h'; subst h'; cases r'
        exact ⟨SeqAt.RcAt.str_none _ _,SeqAt.EqAt.str_none _ _⟩
      | bl b' =>
        rw [Den] at h'; subst h'; cases r'
        exact ⟨SeqAt.RcAt.str_bool _ _ _,SeqAt.EqAt.str_bool _ _ _⟩
      | int i' =>
        rw [Den] at h'; subst h'; obtain ⟨t2,rfl⟩ := r'
        exact ⟨SeqAt.RcAt.str_int _ _ _ _,SeqAt.EqAt.str_int _ _ _ _⟩
      | str x' =>
        rw [Den] at h'; subst h'; obtain ⟨t2,rfl⟩ := r'
        exact ⟨SeqAt.RcAt.str_str _ _ _ _,SeqAt.EqAt.str_str _ _ _ _⟩
      | tup ds' =>
        rw [Den] at h'; obtain ⟨a2,vs2,rfl,e2,g2⟩ := h'; cases r'; obtain ⟨its2,q2,tp2⟩ := z12 hok e2
        exact ⟨SeqAt.RcAt.str_tuple _ _ tp2 hu',SeqAt.EqAt.str_tuple _ _ tp2 hu'⟩
      | lst ds' =>
        rw [Den] at h'; obtain ⟨a2,vs2,rfl,_,e2,g2⟩ := h'; cases r'; obtain ⟨its2,q2,tp2⟩ := z13 hok e2
        exact ⟨SeqAt.RcAt.str_list _ _ tp2 hu',SeqAt.EqAt.str_list _ _ tp2 hu'⟩
      | dct => simp [nod] at n2
    | tup ds =>
      rw [Den] at h; obtain ⟨a1,vs1,rfl,e1,g1⟩ := h; cases r; obtain ⟨its1,q1,tp1⟩ := z12 hok e1
      cases d' with
      | non =>
        rw [Den] at h'; subst h'; cases r'
        exact ⟨SeqAt.RcAt.tuple_none  tp1 hu',SeqAt.EqAt.tuple_none  tp1 hu'⟩
      | bl b' =>
        rw [Den] at h'; subst h'; cases r'
        exact ⟨SeqAt.RcAt.tuple_bool _ tp1 hu',SeqAt.EqAt.tuple_bool _ tp1 hu'⟩
      | int i' =>
        rw [Den] at h'; subst h'; obtain ⟨t2,rfl⟩ := r'
        exact ⟨SeqAt.RcAt.tuple_int _ _ tp1 hu',SeqAt.EqAt.tuple_int _ _ tp1 hu'⟩
      | str x' =>
        rw [Den] at h'; subst h'; obtain ⟨t2,rfl⟩ := r'
        exact ⟨SeqAt.RcAt.tuple_str _ _ tp1 hu',SeqAt.EqAt.tuple_str _ _ tp1 hu'⟩
      | tup ds' =>
        rw [Den] at h'; obtain ⟨a2,vs2,rfl,e2,g2⟩ := h'; cases r'; obtain ⟨its2,q2,tp2⟩ := z12 hok e2
        rw [nod] at n1 n2; rw [dep] at hn
        have hl1 := g1.length; have hl2 := g2.length; have hq1 := q1.length; have hq2 := q2.length
        have key : SeqAt.RcAt A s (.ref a1) (.ref a2) (deq (.tup ds) (.tup ds')):= by
          rw [deq]
          have z := SeqAt.RcAt.tuples (e:= fun j => deq (ds.getD j .non) (ds'.getD j .non)) tp1 tp2 hu' (hin (by omega) n1 n2 g1 g2 q1 q2)
          have s1 : its1.toArray.size = ds.length := by simp; omega
          have s2 : its2.toArray.size = ds'.length := by simp; omega
          rw [s1,s2] at z
          by_cases hlen : ds.length = ds'.length
          · rw [z23 hlen]; rw [← hlen,Nat.min_self] at z; simpa using z
          · rw [z34 hlen]; rw [show (ds.length == ds'.length) = false from beq_eq_false_iff_ne.mpr hlen,Bool.and_false] at z; exact z
        refine ⟨key, ?_⟩
        by_cases hab : a1 = a2
        · subst hab; rw [e1] at e2; cases e2; rw [DenL.inj ds ds' _ g1 g2,z5y _ (by rw [nod]; exact n2)]; exact SeqAt.EqAt.same _
        · exact SeqAt.EqAt.of_refs hab key
      | lst ds' =>
        rw [Den] at h'; obtain ⟨a2,vs2,rfl,_,e2,g2⟩ := h'; cases r'; obtain ⟨its2,q2,tp2⟩ := z13 hok e2
        exact ⟨SeqAt.RcAt.tuple_list tp1 tp2 hu',SeqAt.EqAt.tuple_list tp1 tp2 hu'⟩
      | dct => simp [nod] at n2
    | lst ds =>
      rw [Den] at h; obtain ⟨a1,vs1,rfl,_,e1,g1⟩ := h; cases r; obtain ⟨its1,q1,tp1⟩ := z13 hok e1
      cases d' with
      | non =>
        rw [Den] at h'; subst h'; cases r'
        exact ⟨SeqAt.RcAt.list_none  tp1 hu',SeqAt.EqAt.list_none  tp1 hu'⟩
      | bl b' =>
        rw [Den] at h'; subst h'; cases r'
        exact ⟨SeqAt.RcAt.list_bool _ tp1 hu',SeqAt.EqAt.list_bool _ tp1 hu'⟩
      | int i' =>
        rw [Den] at h'; subst h'; obtain ⟨t2,rfl⟩ := r'
        exact ⟨SeqAt.RcAt.list_int _ _ tp1 hu',SeqAt.EqAt.list_int _ _ tp1 hu'⟩
      | str x' =>
        rw [Den] at h'; subst h'; obtain ⟨t2,rfl⟩ := r'
        exact ⟨SeqAt.RcAt.list_str _ _ tp1 hu',SeqAt.EqAt.list_str _ _ tp1 hu'⟩
      | tup ds' =>
        rw [Den] at h'; obtain ⟨a2,vs2,rfl,e2,g2⟩ := h'; cases r'; obtain ⟨its2,q2,tp2⟩ := z12 hok e2
        exact ⟨SeqAt.RcAt.list_tuple tp1 tp2 hu',SeqAt.EqAt.list_tuple tp1 tp2 hu'⟩
      | lst ds' =>
        rw [Den] at h'; obtain ⟨a2,vs2,rfl,_,e2,g2⟩ := h'; cases r'; obtain ⟨its2,q2,tp2⟩ := z13 hok e2
        rw [nod] at n1 n2; rw [dep] at hn
        have hl1 := g1.length; have hl2 := g2.length; have hq1 := q1.length; have hq2 := q2.length
        have key : SeqAt.RcAt A s (.ref a1) (.ref a2) (deq (.lst ds) (.lst ds')):= by
          rw [deq]
          by_cases hlen : ds.length = ds'.length
          · have z := SeqAt.RcAt.lists (e:= fun j => deq (ds.getD j .non) (ds'.getD j .non)) tp1 tp2 (by simp; omega) hu' (hin (by omega) n1 n2 g1 g2 q1 q2)
            rw [z23 hlen]; simpa [hq1.symm,hl1] using z
          · rw [z34 hlen]; exact SeqAt.RcAt.lists_lengths tp1 tp2 (by simp; omega) hu'
        refine ⟨key, ?_⟩
        by_cases hab : a1 = a2
        · subst hab; rw [e1] at e2; cases e2; rw [DenL.inj ds ds' _ g1 g2,z5y _ (by rw [nod]; exact n2)]; exact SeqAt.EqAt.same _
        · exact SeqAt.EqAt.of_refs hab key
      | dct => simp [nod] at n2
    | dct => simp [nod] at n1
end
end L2
namespace L2.Mr
open PySem PySem.Spec PyProof.Rows
inductive Dv where
  | non | bl (b : Bool) | int (i : Int) | str (x : Str) | tup (xs : List Dv) | ref (i : Nat) | edc | exc (c : Nat) | scr
inductive Ob where
  | lst (xs : List Dv)
abbrev Hs := List Ob
abbrev Ev := List (Option Dv)
inductive Rs (α : Type) where
  | ok (a : α) (h : Hs) | ex (c : Nat) (h : Hs) | bad
def Rs.bind {α β : Type} (r : Rs α) (f : α→Hs→Rs β) : Rs β := match r with
  | .ok a h => f a h
  | .ex c h => .ex c h
  | .bad => .bad
@[simp] theorem Rs.bind_ok {α β : Type} (a : α) (h : Hs) (f : α→Hs→Rs β) : (Rs.ok a h).bind f = f a h := rfl
@[simp] theorem Rs.bind_ex {α β : Type} (c : Nat) (h : Hs) (f : α→Hs→Rs β) : (Rs.ex c h).bind f = .ex c h := rfl
@[simp] theorem Rs.bind_bad {α β : Type} (f : α→Hs→Rs β) : (Rs.bad).bind f = .bad := rfl
abbrev M (α : Type) := Ev→Hs→Rs α
structure Cfg where
  K : PySem.W.Frag
  cl : Nat→Addr
  scr : List Int
  sa : Addr
  tab : Option Addr := none
  lq : Str := Str.empty
def ExO (C : Value) (e T : Addr) (a0 : Value) (h : Heap) : Prop := ∃ oe vs,h.get? e = some oe∧oe.cls = C∧oe.data = .fields vs∧vs[0]? = some a0∧vs[1]? = some (.ref T)∧oe.dict = none
def FlyE (G : Cfg) (H : Hp) (c : Nat) (u : Value) : Prop := ∃ e φ,u = .ref e∧H e = some (.ext φ)∧∀ h,φ h→∃ o,h.get? e = some o∧o.cls = .ref (G.cl c)
def Imm : HO→Prop
  | .tup _ => True
  | .dK kvs => kvs = []
  | .frz _ _ => True
  | _ => False
def FzL (K : PySem.W.Frag) (H : Hp) (a : Addr) (xs : List V) : Prop := (∃ o,H a = some (.frz o (.lst xs))) ∨
    ∃ (o : Obj) (its : Array Value) (n : Nat),K.lookup a = some o∧o.cls = .type "list"∧o.dict = none∧o.data = .seq its n∧its.size ≤ sizeLine∧Vals xs its.toList
theorem FzL.sq {K : PySem.W.Frag} {H : Hp} {a : Addr} {xs : List V} (h : FzL K H a xs) : SqL K H a xs:= by
  rcases h with ⟨o,h⟩ | h
  · exact .inl (.inr ⟨o,h⟩)
  · exact .inr h
theorem FzL.keep {K : PySem.W.Frag} {H H' : Hp} {a : Addr} {xs : List V} (h : FzL K H a xs) (k : ∀ a o,Imm o→H a = some o→H' a = some o) : FzL K H' a xs:= by
  rcases h with ⟨o,h⟩ | h
  · exact .inl ⟨o,k a _ trivial h⟩
  · exact .inr h
mutual
def RelD (G : Cfg) (μ : Nat→Addr) (n : Nat) (H : Hp) : Dv→V→Prop
  | .non,v => v = .non
  | .bl b,v => v = .bl b
  | .int i,v => v = .int i
  | .str x,v => v = .str x
  | .tup ds,v => ∃ a vs,v = .ref a∧H a = some (.tup vs)∧RelDL G μ n H ds vs
  | .ref i,v => i < n∧v = .ref (μ i)
  | .edc,v => ∃ a,v = .ref a∧H a = some (.dK [])
  | .exc c,v => ∃ a o u,v = .ref a∧H a = some (.frz o u)∧o.cls = .ref (G.cl c)∧o.dict = none∧∃ vs,o.data = .fields vs
  | .scr,v => v = .ref G.sa∧FzL G.K H G.sa (G.scr.map V.int)
def RelDL (G : Cfg) (μ : Nat→Addr) (n : Nat) (H : Hp) : List Dv→List V→Prop
  | [],vs => vs = []
  | d :: ds,vs => ∃ v r,vs = v :: r∧RelD G μ n H d v∧RelDL G μ n H ds r
end
structure Ext (μ : Nat→Addr) (n : Nat) (H : Hp) (μ' : Nat→Addr) (n' : Nat) (H' : Hp) : Prop where
  le : n ≤ n'
  mu : ∀ i,i < n→μ' i = μ i
  im : ∀ a o,Imm o→H a = some o→H' a = some o
theorem Ext.refl {μ : Nat→Addr} {n : Nat} {H : Hp} : Ext μ n H μ n H := ⟨Nat.le_refl _,fun _ _ => rfl,fun _ _ _ e => e⟩
theorem Ext.trans {μ μ1 μ2 : Nat→Addr} {n n1 n2 : Nat} {H H1 H2 : Hp} (a : Ext μ n H μ1 n1 H1) (b : Ext μ1 n1 H1 μ2 n2 H2) : Ext μ n H μ2 n2 H2 :=
  ⟨Nat.le_trans a.le b.le,fun i hi => (b.mu i (Nat.lt_of_lt_of_le hi a.le)).trans (a.mu i hi),fun c o i e => b.im c o i (a.im c o i e)⟩
section
variable {G : Cfg} {μ μ' : Nat→Addr} {n n' : Nat} {H H' : Hp}
mutual
theorem RelD.mono (x : Ext μ n H μ' n' H') : ∀ (d : Dv) (v : V),RelD G μ n H d v→RelD G μ' n' H' d v
  | .non,v,h => h
  | .bl b,v,h => h
  | .int i,v,h => h
  | .str s,v,h => h
  | .tup ds,v,h => by
    obtain ⟨a,vs,e,h1,h2⟩ := h
    exact ⟨a,vs,e,x.im a _ trivial h1,RelDL.mono x ds vs h2⟩
  | .ref i,v,h => by
    obtain ⟨h1,h2⟩ := h
    exact ⟨Nat.lt_of_lt_of_le h1 x.le,by rw [x.mu i h1]; exact h2⟩
  | .edc,v,h => by
    obtain ⟨a,e,h1⟩ := h
    exact ⟨a,e,x.im a _ rfl h1⟩
  | .exc c,v,h => by
    obtain ⟨a,o,u,e,h1,h2⟩ := h
    exact ⟨a,o,u,e,x.im a _ trivial h1,h2⟩
  | .scr,v,h => by
    obtain ⟨h1,h2⟩ := h
    exact ⟨h1,h2.keep x.im⟩
theorem RelDL.mono (x : Ext μ n H μ' n' H') : ∀ (ds : List Dv) (vs : List V),RelDL G μ n H ds vs→RelDL G μ' n' H' ds vs
  | [],vs,h => h
  | d :: ds,vs,h => by
    obtain ⟨v,r,e,h1,h2⟩ := h
    exact ⟨v,r,e,RelD.mono x d v h1,RelDL.mono x ds r h2⟩
end
theorem RelDL.length : ∀ {ds : List Dv} {vs : List V},RelDL G μ n H ds vs→vs.length = ds.length
  | [],_,h => by rw [RelDL] at h; subst h; rfl
  | d :: ds,_,h => by
    rw [RelDL] at h; obtain ⟨v,r,rfl,_,h2⟩ := h
    rw [List.length_cons,List.length_cons,RelDL.length h2]
theorem RelDL.get : ∀ {ds : List Dv} {vs : List V} {i : Nat} {d : Dv},RelDL G μ n H ds vs→ds[i]? = some d→∃ v,vs[i]? = some v∧RelD G μ n H d v
  | [],_,_,_,_,e => by simp at e
  | d :: ds,_,0,d',h,e => by
    rw [RelDL] at h; obtain ⟨v,r,rfl,h1,_⟩ := h
    simp at e; subst e
    exact ⟨v,rfl,h1⟩
  | d :: ds,_,i + 1,d',h,e => by
    rw [RelDL] at h; obtain ⟨v,r,rfl,_,h2⟩ := h
    obtain ⟨u,e1,h3⟩ := RelDL.get (i := i) h2 (by simpa using e)
    exact ⟨u,by simpa using e1,h3⟩
theorem RelDL.nil : RelDL G μ n H [] [] := by rw [RelDL]
theorem RelDL.cons {d : Dv} {v : V} {ds : List Dv} {vs : List V} (h : RelD G μ n H d v) (t : RelDL G μ n H ds vs) : RelDL G μ n H (d :: ds) (v :: vs) := by rw [RelDL]; exact ⟨v,vs,rfl,h,t⟩
theorem RelDL.append : ∀ {ds es : List Dv} {vs ws : List V},RelDL G μ n H ds vs→RelDL G μ n H es ws→RelDL G μ n H (ds ++ es) (vs ++ ws)
  | [],_,_,_,h,h' => by rw [RelDL] at h; subst h; exact h'
  | d :: ds,_,_,_,h,h' => by
    rw [RelDL] at h; obtain ⟨v,r,rfl,h1,h2⟩ := h
    exact RelDL.cons h1 (RelDL.append h2 h')
theorem RelDL.take : ∀ {ds : List Dv} {vs : List V} (k : Nat),RelDL G μ n H ds vs→RelDL G μ n H (ds.take k) (vs.take k)
  | [],_,k,h => by rw [RelDL] at h; subst h; simp [RelDL.nil]
  | d :: ds,_,0,h => by simp [RelDL.nil]
  | d :: ds,_,k + 1,h => by
    rw [RelDL] at h; obtain ⟨v,r,rfl,h1,h2⟩ := h
    exact RelDL.cons h1 (RelDL.take k h2)
theorem RelDL.drop : ∀ {ds : List Dv} {vs : List V} (k : Nat),RelDL G μ n H ds vs→RelDL G μ n H (ds.drop k) (vs.drop k)
  | [],_,k,h => by rw [RelDL] at h; subst h; simp [RelDL.nil]
  | d :: ds,_,0,h => h
  | d :: ds,_,k + 1,h => by
    rw [RelDL] at h; obtain ⟨v,r,rfl,h1,h2⟩ := h
    exact RelDL.drop k h2
theorem RelDL.set {x : Dv} {u : V} (hx : RelD G μ n H x u) : ∀ {ds : List Dv} {vs : List V} (i : Nat),RelDL G μ n H ds vs→RelDL G μ n H (ds.set i x) (vs.set i u)
  | [],_,_,h => by rw [RelDL] at h; subst h; exact RelDL.nil
  | d :: ds,_,0,h => by
    rw [RelDL] at h; obtain ⟨v,r,rfl,h1,h2⟩ := h
    exact RelDL.cons hx h2
  | d :: ds,_,i + 1,h => by
    rw [RelDL] at h; obtain ⟨v,r,rfl,h1,h2⟩ := h
    exact RelDL.cons h1 (RelDL.set hx i h2)
end
def ObR (G : Cfg) (μ : Nat→Addr) (n : Nat) (H : Hp) (a : Addr) : Ob→Prop
  | .lst xs => ∃ vs,H a = some (.lst vs)∧RelDL G μ n H xs vs
def zd1 (q : Str) (oc : Obj) : Prop := ∃ vs t,oc.data = .fields vs∧vs[1]? = some (.str q t)
def TabOk (G : Cfg) (H : Hp) : Prop := ∀ P,G.tab = some P→∃ ps,H P = some (.tbl ps)∧TriplesOk ps.toList∧∀ pos cv,codeAmong pos ps.toList = some cv→∃ q oc,cv = .ref q∧H q = some (.frz oc (.own 0))∧zd1 G.lq oc
theorem TabOk.keep {G : Cfg} {H H' : Hp} (t : TabOk G H) (k : ∀ a o,(∀ xs,o ≠ .lst xs)→(∀ φ,o ≠ .ext φ)→H a = some o→H' a = some o) : TabOk G H':= fun P e => by
  obtain ⟨ps,h1,h2,h3⟩ := t P e
  refine ⟨ps,k P _ (fun _ z => by cases z) (fun _ z => by cases z) h1,h2,fun pos cv q => ?_⟩
  obtain ⟨a,oc,e1,e2,e3⟩ := h3 pos cv q
  exact ⟨a,oc,e1,k a _ (fun _ z => by cases z) (fun _ z => by cases z) e2,e3⟩
structure Sim (G : Cfg) (μ : Nat→Addr) (h : Hs) (H : Hp) : Prop where
  inj : ∀ i j,i < h.length→j < h.length→μ i = μ j→i = j
  ob : ∀ (i : Nat) (o : Ob),h[i]? = some o→ObR G μ h.length H (μ i) o
  tab : TabOk G H
structure RelS (G : Cfg) (μ : Nat→Addr) (n : Nat) (H : Hp) (ρ : Ev) (σ : St) : Prop where
  len : ρ.length = σ.length
  at_ : ∀ (i : Nat) (d : Dv),ρ[i]? = some (some d)→∃ v,σ[i]? = some (some v)∧RelD G μ n H d v
theorem RelS.mono {G : Cfg} {μ μ' : Nat→Addr} {n n' : Nat} {H H' : Hp} {ρ : Ev} {σ : St} (r : RelS G μ n H ρ σ) (x : Ext μ n H μ' n' H') : RelS G μ' n' H' ρ σ :=
  ⟨r.len,fun i d e => let ⟨v,e1,h⟩ := r.at_ i d e; ⟨v,e1,RelD.mono x d v h⟩⟩
def Out {α β : Type} (G : Cfg) (E : XK) (μ : Nat→Addr) (n : Nat) (H : Hp) (r : Rs α) (R : (Nat→Addr)→Nat→Hp→α→β→Prop) (Q : β→Hp→Prop) : Prop :=
  match r with
  | .ok d h' => ∀ μ' H' v,Ext μ n H μ' h'.length H'→Sim G μ' h' H'→R μ' h'.length H' d v→Q v H'
  | .ex c h' => ∀ μ' H' u,Ext μ n H μ' h'.length H'→Sim G μ' h' H'→FlyE G H' c u→E u none H'
  | .bad => False
theorem Out.bind {α β γ δ : Type} {G : Cfg} {E : XK} {μ : Nat→Addr} {n : Nat} {H : Hp} {r : Rs α} {f : α→Hs→Rs γ} {R : (Nat→Addr)→Nat→Hp→γ→δ→Prop} {Q : δ→Hp→Prop} {R1 : (Nat→Addr)→Nat→Hp→α→β→Prop}
    (o : Out G E μ n H (r.bind f) R Q) : Out G E μ n H r R1 fun v H1 => ∃ μ1 d h1,Ext μ n H μ1 h1.length H1∧Sim G μ1 h1 H1∧R1 μ1 h1.length H1 d v∧Out G E μ1 h1.length H1 (f d h1) R Q:= by
  cases r with
  | bad => exact o
  | ex c h' => exact o
  | ok d h' =>
    intro μ1 H1 v x1 s1 r1
    refine ⟨μ1,d,h',x1,s1,r1, ?_⟩
    have o' : Out G E μ n H (f d h') R Q := o
    cases e : f d h' with
    | bad => rw [e] at o'; exact o'
    | ex c h2 => rw [e] at o'; exact fun μ2 H2 u x2 s2 r2 => o' μ2 H2 u (x1.trans x2) s2 r2
    | ok d2 h2 => rw [e] at o'; exact fun μ2 H2 u x2 s2 r2 => o' μ2 H2 u (x1.trans x2) s2 r2
theorem Out.mono {α β : Type} {G : Cfg} {E : XK} {μ : Nat→Addr} {n : Nat} {H : Hp} {r : Rs α} {R : (Nat→Addr)→Nat→Hp→α→β→Prop} {Q Q' : β→Hp→Prop} (o : Out G E μ n H r R Q) (h : ∀ v H',Q v H'→Q' v H') : Out G E μ n H r R Q':= by
  cases r with
  | bad => exact o
  | ex c h' => exact o
  | ok d h' => exact fun μ' H' v x s r => h _ _ (o μ' H' v x s r)
abbrev RB : (Nat→Addr)→Nat→Hp→Bool→Bool→Prop:= fun _ _ _ b b' => b' = b
def tOf (G : Cfg) (E : XK) (m : M Dv) : TE:= fun σ H Q => ∃ μ ρ h,RelS G μ h.length H ρ σ∧Sim G μ h H∧Out G E μ h.length H (m ρ h) (RelD G) Q
def ttOf (G : Cfg) (E : XK) (m : M Bool) : TT:= fun σ H Q => ∃ μ ρ h,RelS G μ h.length H ρ σ∧Sim G μ h H∧Out G E μ h.length H (m ρ h) RB Q
def taOf (G : Cfg) (E : XK) (m : M (List Dv)) : TA:= fun σ H Q => ∃ μ ρ h,RelS G μ h.length H ρ σ∧Sim G μ h H∧Out G E μ h.length H (m ρ h) (RelDL G) Q
def Snd (X : Cx) (G : Cfg) (E : XK) (pe : Expr) (m : M Dv) : Prop := X.K = G.K→PE X pe (tOf G E m)
def SndT (X : Cx) (G : Cfg) (E : XK) (pe : Expr) (m : M Bool) : Prop := X.K = G.K→PT X pe (ttOf G E m)
def SndA (X : Cx) (G : Cfg) (E : XK) (pe : List Expr) (m : M (List Dv)) : Prop := X.K = G.K→PA X pe (taOf G E m)
theorem PE.imp {X : Cx} {e : Expr} {t t' : TE} (h : PE X e t) (i : ∀ σ H Q,t' σ H Q→t σ H Q) : PE X e t':= fun pins s σ H Q I q => h pins s σ H Q I (i σ H Q q)
theorem PT.imp {X : Cx} {e : Expr} {t t' : TT} (h : PT X e t) (i : ∀ σ H Q,t' σ H Q→t σ H Q) : PT X e t':= fun pins s σ H Q I q => h pins s σ H Q I (i σ H Q q)
theorem PA.imp {X : Cx} {e : List Expr} {t t' : TA} (h : PA X e t) (i : ∀ σ H Q,t' σ H Q→t σ H Q) : PA X e t':= fun pos pins s σ H Q I q => h pos pins s σ H Q I (i σ H Q q)
section
variable {G : Cfg} {E : XK} {σ : St} {H : Hp}
theorem z0u {m : M Dv} {γ δ : Type} {f : Dv→Hs→Rs γ} {R : (Nat→Addr)→Nat→Hp→γ→δ→Prop} {Q : δ→Hp→Prop} {Q1 : V→Hp→Prop} {μ : Nat→Addr} {ρ : Ev} {h : Hs} (rs : RelS G μ h.length H ρ σ) (s : Sim G μ h H) (o : Out G E μ h.length H ((m ρ h).bind f) R Q)
    (k : ∀ μ1 d h1 v H1,Ext μ h.length H μ1 h1.length H1→RelS G μ1 h1.length H1 ρ σ→Sim G μ1 h1 H1→RelD G μ1 h1.length H1 d v→Out G E μ1 h1.length H1 (f d h1) R Q→Q1 v H1) : tOf G E m σ H Q1 :=
  ⟨μ,ρ,h,rs,s,(o.bind (R1 := RelD G)).mono fun v H1 ⟨μ1,d,h1,x,s1,r1,o1⟩ => k μ1 d h1 v H1 x (rs.mono x) s1 r1 o1⟩
theorem z4c {m : M Bool} {γ δ : Type} {f : Bool→Hs→Rs γ} {R : (Nat→Addr)→Nat→Hp→γ→δ→Prop} {Q : δ→Hp→Prop} {Q1 : Bool→Hp→Prop} {μ : Nat→Addr} {ρ : Ev} {h : Hs} (rs : RelS G μ h.length H ρ σ) (s : Sim G μ h H) (o : Out G E μ h.length H ((m ρ h).bind f) R Q)
    (k : ∀ μ1 b h1 H1,Ext μ h.length H μ1 h1.length H1→RelS G μ1 h1.length H1 ρ σ→Sim G μ1 h1 H1→Out G E μ1 h1.length H1 (f b h1) R Q→Q1 b H1) : ttOf G E m σ H Q1 :=
  ⟨μ,ρ,h,rs,s,(o.bind (R1 := RB)).mono fun v H1 ⟨μ1,d,h1,x,s1,r1,o1⟩ => by
    have e : v = d := r1
    subst e
    exact k μ1 v h1 H1 x (rs.mono x) s1 o1⟩
theorem z1k {m : M (List Dv)} {γ δ : Type} {f : List Dv→Hs→Rs γ} {R : (Nat→Addr)→Nat→Hp→γ→δ→Prop} {Q : δ→Hp→Prop} {Q1 : List V→Hp→Prop} {μ : Nat→Addr} {ρ : Ev} {h : Hs} (rs : RelS G μ h.length H ρ σ) (s : Sim G μ h H) (o : Out G E μ h.length H ((m ρ h).bind f) R Q)
    (k : ∀ μ1 d h1 v H1,Ext μ h.length H μ1 h1.length H1→RelS G μ1 h1.length H1 ρ σ→Sim G μ1 h1 H1→RelDL G μ1 h1.length H1 d v→Out G E μ1 h1.length H1 (f d h1) R Q→Q1 v H1) : taOf G E m σ H Q1 :=
  ⟨μ,ρ,h,rs,s,(o.bind (R1 := RelDL G)).mono fun v H1 ⟨μ1,d,h1,x,s1,r1,o1⟩ => k μ1 d h1 v H1 x (rs.mono x) s1 r1 o1⟩
theorem Out.val {α β : Type} {μ : Nat→Addr} {h : Hs} {d : α} {R : (Nat→Addr)→Nat→Hp→α→β→Prop} {Q : β→Hp→Prop} {v : β} (s : Sim G μ h H) (o : Out G E μ h.length H (.ok d h) R Q) (r : R μ h.length H d v) : Q v H := o μ H v Ext.refl s r
end
section
variable {G : Cfg} {μ : Nat→Addr} {h : Hs} {H H' : Hp} {p : Addr} {n : Nat}
theorem Ext.same (e : Same H H') : Ext μ n H μ n H' := ⟨Nat.le_refl _,fun _ _ => rfl,fun a o _ q => e a o q⟩
theorem Sim.same (s : Sim G μ h H) (e : Same H H') : Sim G μ h H' := ⟨s.inj,fun i o q => by
  have r := s.ob i o q
  cases o with
  | lst xs => obtain ⟨vs,e1,r1⟩ := r; exact ⟨vs,e _ _ e1,RelDL.mono (Ext.same e) _ _ r1⟩,s.tab.keep fun a o _ _ q => e a o q⟩
theorem z0k {o : HO} (h : H p = none) : Same H (upd H p o):= fun b u e => by rw [z0g (z0j e h)]; exact e
theorem Sim.not (s : Sim G μ h H) (hp : H p = none) : ∀ (i : Nat),i < h.length→μ i ≠ p:= fun i hi z => by
  have q : h[i]? = some h[i] := List.getElem?_eq_getElem hi
  generalize h[i] = o at q
  cases o with
  | lst xs =>
    obtain ⟨vs,e1,_⟩ := s.ob i _ q
    rw [z,hp] at e1; cases e1
theorem Sim.alloc {ds : List Dv} {vs : List V} (s : Sim G μ h H) (hp : H p = none) (r : RelDL G μ h.length H ds vs) :
    Ext μ h.length H (fun i => if i = h.length then p else μ i) (h ++ [Ob.lst ds]).length (upd H p (.lst vs))∧Sim G (fun i => if i = h.length then p else μ i) (h ++ [.lst ds]) (upd H p (.lst vs)):= by
  have hl : (h ++ [Ob.lst ds]).length = h.length + 1 := by simp
  have hq := s.not hp
  have x : Ext μ h.length H (fun i => if i = h.length then p else μ i) (h ++ [Ob.lst ds]).length (upd H p (.lst vs)) :=
    ⟨by omega,fun i hi => if_neg (Nat.ne_of_lt hi),fun a o _ e => z0k hp a o e⟩
  refine ⟨x,fun i j hi hj e => ?_,fun i o q => ?_,s.tab.keep fun a o _ _ q => z0k hp a o q⟩
  · rw [hl] at hi hj
    by_cases h1 : i = h.length <;> by_cases h2 : j = h.length
    · omega
    · rw [if_pos h1,if_neg h2] at e; exact absurd e.symm (hq j (by omega))
    · rw [if_neg h1,if_pos h2] at e; exact absurd e (hq i (by omega))
    · rw [if_neg h1,if_neg h2] at e; exact s.inj i j (by omega) (by omega) e
  · by_cases h1 : i < h.length
    · rw [List.getElem?_append_left h1] at q
      have r1 := s.ob i o q
      cases o with
      | lst xs => obtain ⟨ws,e1,r2⟩ := r1; exact ⟨ws,by rw [if_neg (Nat.ne_of_lt h1)]; exact z0k hp _ _ e1,RelDL.mono x _ _ r2⟩
    · rw [List.getElem?_append_right (by omega)] at q
      have h2 : i = h.length:= by
        have := (List.getElem?_eq_some_iff.mp q).1
        simp at this; omega
      subst h2
      simp at q; subst q
      exact ⟨vs,by rw [if_pos rfl]; exact z0i,RelDL.mono x _ _ r⟩
theorem Sim.write {xs ys : List Dv} {i : Nat} {vs : List V} (s : Sim G μ h H) (q : h[i]? = some (.lst xs)) (r : RelDL G μ h.length H ys vs) :
    Ext μ h.length H μ (h.set i (.lst ys)).length (upd H (μ i) (.lst vs))∧Sim G μ (h.set i (.lst ys)) (upd H (μ i) (.lst vs)):= by
  obtain ⟨us,e0,r0⟩ := s.ob i _ q
  have hi : i < h.length := (List.getElem?_eq_some_iff.mp q).1
  have im : ∀ a o,Imm o→H a = some o→upd H (μ i) (.lst vs) a = some o:= fun a o m e => by
    rw [z0g]; exact e
    rintro rfl; rw [e0] at e; cases e; exact m
  have x : Ext μ h.length H μ (h.set i (.lst ys)).length (upd H (μ i) (.lst vs)) := ⟨by simp,fun _ _ => rfl,im⟩
  refine ⟨x,fun a b ha hb => ?_,fun j o e => ?_,s.tab.keep fun a o n1 _ q => ?_⟩
  rotate_left 2
  · rw [z0g]; exact q
    rintro rfl; rw [e0] at q; cases q; exact n1 _ rfl
  · rw [List.length_set] at ha hb; exact s.inj a b ha hb
  · by_cases hij : i = j
    · subst hij
      rw [List.getElem?_set_self hi] at e; cases e
      exact ⟨vs,z0i,RelDL.mono x _ _ r⟩
    · rw [List.getElem?_set_ne hij] at e
      have hj : j < h.length := (List.getElem?_eq_some_iff.mp e).1
      have r1 := s.ob j o e
      have ne : μ j ≠ μ i:= fun z => hij (s.inj j i hj hi z).symm
      cases o with
      | lst zs => obtain ⟨ws,e1,r2⟩ := r1; exact ⟨ws,by rw [z0g ne]; exact e1,RelDL.mono x _ _ r2⟩
end
def lim {α : Type} (n : Nat) (r : Rs α) : Rs α := if n ≤ 1000000 then r else .bad
theorem z42 {n : Nat} (h : n ≤ 1000000) : n ≤ sizeLine := Nat.le_trans h (by decide)
def getL (h : Hs) (i : Nat) : Option (List Dv) := match h[i]? with
  | some (.lst xs) => some xs
  | none => none
theorem z0h {h : Hs} {i : Nat} {xs : List Dv} (e : getL h i = some xs) : h[i]? = some (.lst xs):= by
  unfold getL at e
  cases q : h[i]? with
  | none => rw [q] at e; cases e
  | some o => cases o; rw [q] at e; cases e; rfl
section
variable {X : Cx} {G : Cfg} {E : XK} {a b c : Expr} {ma mb mc : M Dv} {pos : Pos} {es : List Expr} {mas : M (List Dv)}
def mVar (i : Nat) : M Dv:= fun ρ h => match ρ[i]? with
  | some (some d) => .ok d h
  | _ => .bad
theorem z01 (i : Nat) {x : Str} (hN : X.N[i]? = some x := by rfl) (hv : Vis X.env.scope x := by first | exact Or.inl rfl | exact Or.inr (Or.inl rfl) | exact Or.inr (Or.inr rfl))
    (hd : (x == ("__debug__" : Str)) = false := by decide) (hcd : (x == ("__classdict__" : Str)) = false := by decide) : Snd X G E (.Name x pos) (mVar i):= fun _ => PE.imp (za2 hN hv hd hcd) fun σ H Q ⟨μ,ρ,h,rs,s,o⟩ => by
  unfold mVar at o
  split at o
  · rename_i d e
    obtain ⟨v,e1,r⟩ := rs.at_ i d e
    exact ⟨v,e1,o.val s r⟩
  · exact o.elim
def mC (d : Dv) : M Dv:= fun _ h => .ok d h
theorem z04 {i j} : Snd X G E (.Constant (.int i) j pos) (mC (.int i)):= fun _ => PE.imp zjm fun σ H Q ⟨μ,ρ,h,rs,s,o⟩ => o.val s (show RelD G μ _ H (.int i) (.int i) from rfl)
theorem z1w {i j} : Snd X G E (.Constant (.bool i) j pos) (mC (.bl i)):= fun _ => PE.imp zmp fun σ H Q ⟨μ,ρ,h,rs,s,o⟩ => o.val s (show RelD G μ _ H (.bl i) (.bl i) from rfl)
theorem z3f {j} : Snd X G E (.Constant .none j pos) (mC .non):= fun _ => PE.imp zf4 fun σ H Q ⟨μ,ρ,h,rs,s,o⟩ => o.val s (show RelD G μ _ H .non .non from rfl)
theorem z61 {x j} : Snd X G E (.Constant (.str x) j pos) (mC (.str x)):= fun _ => PE.imp zjn fun σ H Q ⟨μ,ρ,h,rs,s,o⟩ => o.val s (show RelD G μ _ H (.str x) (.str x) from rfl)
def mNil : M (List Dv):= fun _ h => .ok [] h
def z00 (m : M Dv) (ms : M (List Dv)) : M (List Dv):= fun ρ h => (m ρ h).bind fun d h1 => (ms ρ h1).bind fun ds h2 => .ok (d :: ds) h2
theorem z08 : SndA X G E [] mNil:= fun _ => PA.imp z3s fun σ H Q ⟨μ,ρ,h,rs,s,o⟩ => o.val s RelDL.nil
theorem z02 (ha : Snd X G E a ma) (hr : SndA X G E es mas) (hs : starEach (a :: es) X.env = (false,eval a X.env) :: starEach es X.env := by rfl) : SndA X G E (a :: es) (z00 ma mas):= fun hK =>
  PA.imp (z1r (ha hK) (hr hK) hs) fun σ H Q ⟨μ,ρ,h,rs,s,o⟩ => z0u rs s o fun μ1 d h1 v H1 x1 rs1 s1 r1 o1 => z1k rs1 s1 o1 fun μ2 ds h2 vs H2 x2 rs2 s2 r2 o2 => o2.val s2 (RelDL.cons (RelD.mono x2 _ _ r1) r2)
def mTup (ms : M (List Dv)) : M Dv:= fun ρ h => (ms ρ h).bind fun ds h1 => lim ds.length (.ok (.tup ds) h1)
theorem z26 {k} (h : SndA X G E es mas) : Snd X G E (.Tuple es k pos) (mTup mas):= fun hK => PE.imp (zf6 (h hK)) fun σ H Q ⟨μ,ρ,h,rs,s,o⟩ => z1k rs s o fun μ1 ds h1 vs H1 x1 rs1 s1 r1 o1 => by
  unfold lim at o1
  split at o1
  · rename_i hl
    refine ⟨by rw [r1.length]; exact z42 hl,fun p hp => ?_⟩
    exact o1 μ1 _ _ (Ext.same (z0k hp)) (s1.same (z0k hp)) ⟨p,vs,rfl,z0i,RelDL.mono (Ext.same (z0k hp)) _ _ r1⟩
  · exact o1.elim
def mLst (ms : M (List Dv)) : M Dv:= fun ρ h => (ms ρ h).bind fun ds h1 => lim ds.length (.ok (.ref h1.length) (h1 ++ [.lst ds]))
theorem z3g {μ : Nat→Addr} {h : Hs} {H : Hp} {ds : List Dv} {vs : List V} {Q : VK} {p : Addr} (s : Sim G μ h H) (r : RelDL G μ h.length H ds vs) (hp : H p = none) (o : Out G E μ h.length H (.ok (.ref h.length) (h ++ [.lst ds])) (RelD G) Q) : Q (.ref p) (upd H p (.lst vs)):= by
  obtain ⟨x,s'⟩ := s.alloc hp r
  exact o _ _ _ x s' ⟨by simp,by show V.ref p = V.ref (if h.length = h.length then p else μ h.length); rw [if_pos rfl]⟩
theorem z0l (h : SndA X G E es mas) : Snd X G E (.List es pos) (mLst mas):= fun hK => PE.imp (zkc (h hK)) fun σ H Q ⟨μ,ρ,h,rs,s,o⟩ => z1k rs s o fun μ1 ds h1 vs H1 x1 rs1 s1 r1 o1 => by
  unfold lim at o1
  split at o1
  · rename_i hl
    exact ⟨by rw [r1.length]; exact z42 hl,fun p hp => z3g s1 r1 hp o1⟩
  · exact o1.elim
def m2 (f : Dv→Dv→Hs→Rs Dv) (ma mb : M Dv) : M Dv:= fun ρ h => (ma ρ h).bind fun x h1 => (mb ρ h1).bind fun y h2 => f x y h2
def OpD (G : Cfg) (r : R2) (f : Dv→Dv→Hs→Rs Dv) : Prop := ∀ (E : XK) (μ : Nat→Addr) (h : Hs) (H : Hp) (x y : Dv) (vx vy : V) (Q : VK),Sim G μ h H→RelD G μ h.length H x vx→RelD G μ h.length H y vy→Out G E μ h.length H (f x y h) (RelD G) Q→r vx vy H Q
theorem z6v {r : R2} {f : Dv→Dv→Hs→Rs Dv} (hd : OpD G r f) {σ : St} {H : Hp} {Q : VK} (t : tOf G E (m2 f ma mb) σ H Q) : tOp r (tOf G E ma) (tOf G E mb) σ H Q:= by
  obtain ⟨μ,ρ,h,rs,s,o⟩ := t
  exact z0u rs s o fun μ1 x h1 vx H1 x1 rs1 s1 r1 o1 => z0u rs1 s1 o1 fun μ2 y h2 vy H2 x2 rs2 s2 r2 o2 => hd E μ2 h2 H2 x y vx vy Q s2 (RelD.mono x2 _ _ r1) r2 o2
theorem z4d {op : Operator} {r : R2} {f : Dv→Dv→Hs→Rs Dv} (ho : OpR X (binaryOp op) r) (hd : OpD G r f) (ha : Snd X G E a ma) (hb : Snd X G E b mb) : Snd X G E (.BinOp a op b pos) (m2 f ma mb):= fun hK =>
  PE.imp (zn0 ho (ha hK) (hb hK)) fun _ _ _ t => z6v hd t
theorem zam {op : CmpOp} {r : R2} {f : Dv→Dv→Hs→Rs Dv} (ho : OpR X (compareOp op) r) (hd : OpD G r f) (ha : Snd X G E a ma) (hb : Snd X G E b mb) (hm : behindInMarks op b = false) : Snd X G E (.Compare a [op] [b] pos) (m2 f ma mb):= fun hK =>
  PE.imp (zgj ho (ha hK) (hb hK) hm) fun _ _ _ t => z6v hd t
def asB : Dv→Hs→Rs Bool
  | .bl b,h => .ok b h
  | _,_ => .bad
def mB (m : M Dv) : M Bool:= fun ρ h => (m ρ h).bind asB
theorem zfb {m : M Dv} {σ : St} {H : Hp} {Q : Bool→Hp→Prop} (t : ttOf G E (mB m) σ H Q) : tOf G E m σ H fun x H' => ∃ k,x = .bl k∧Q k H':= by
  obtain ⟨μ,ρ,h,rs,s,o⟩ := t
  refine z0u rs s o fun μ1 x h1 vx H1 x1 rs1 s1 r1 o1 => ?_
  cases x with
  | bl k => exact ⟨k,r1,o1.val s1 rfl⟩
  | _ => exact o1.elim
theorem z4e {op : CmpOp} {r : R2} {f : Dv→Dv→Hs→Rs Dv} (ho : OpR X (compareOp op) r) (hd : OpD G r f) (ha : Snd X G E a ma) (hb : Snd X G E b mb) (hm : behindInMarks op b = false) : SndT X G E (.Compare a [op] [b] pos) (mB (m2 f ma mb)):= fun hK =>
  PT.imp (zgk ho (ha hK) (hb hK) hm) fun σ H Q t => z6v hd (zfb t)
def z5e (f f' : Dv→Dv→Hs→Rs Dv) (ma mb mc : M Dv) : M Dv:= fun ρ h => (ma ρ h).bind fun x h1 => (mb ρ h1).bind fun y h2 => (f x y h2).bind fun z h3 => match z with
  | .bl true => (mc ρ h3).bind fun w h4 => f' y w h4
  | .bl false => .ok (.bl false) h3
  | _ => .bad
theorem zan {r r' : R2} {f f' : Dv→Dv→Hs→Rs Dv} (hd : OpD G r f) (hd' : OpD G r' f') {σ : St} {H : Hp} {Q : VK} (t : tOf G E (z5e f f' ma mb mc) σ H Q) : zf5 r r' (tOf G E ma) (tOf G E mb) (tOf G E mc) σ H Q:= by
  obtain ⟨μ,ρ,h,rs,s,o⟩ := t
  refine z0u rs s o fun μ1 x h1 vx H1 x1 rs1 s1 r1 o1 => z0u rs1 s1 o1 fun μ2 y h2 vy H2 x2 rs2 s2 r2 o2 => ?_
  refine hd E μ2 h2 H2 x y vx vy _ s2 (RelD.mono x2 _ _ r1) r2 ((o2.bind (R1 := RelD G)).mono fun vz H3 ⟨μ3,z,h3,x3,s3,r3,o3⟩ => ?_)
  cases z with
  | bl k =>
    refine ⟨k,r3, ?_⟩
    cases k with
    | true => exact iteT (z0u (rs2.mono x3) s3 o3 fun μ4 w h4 vw H4 x4 rs4 s4 r4 o4 => hd' E μ4 h4 H4 y w vy vw Q s4 (RelD.mono (x3.trans x4) _ _ r2) r4 o4)
    | false => exact iteF (o3.val s3 rfl)
  | _ => exact o3.elim
theorem zd2 {op op' : CmpOp} {r r' : R2} {f f' : Dv→Dv→Hs→Rs Dv} (ho : OpR X (compareOp op) r) (ho' : OpR X (compareOp op') r') (hd : OpD G r f) (hd' : OpD G r' f') (ha : Snd X G E a ma) (hb : Snd X G E b mb) (hc : Snd X G E c mc)
    (hm : lastMarks [op,op'] [b,c] = false := by with_unfolding_all rfl) : SndT X G E (.Compare a [op,op'] [b,c] pos) (mB (z5e f f' ma mb mc)):= fun hK =>
  PT.imp (zcu ho ho' (ha hK) (hb hK) (hc hK) hm) fun σ H Q t => zan hd hd' (zfb t)
def UnD (G : Cfg) (r : V→Hp→VK→Prop) (f : Dv→Hs→Rs Dv) : Prop := ∀ (E : XK) (μ : Nat→Addr) (h : Hs) (H : Hp) (x : Dv) (vx : V) (Q : VK),Sim G μ h H→RelD G μ h.length H x vx→Out G E μ h.length H (f x h) (RelD G) Q→r vx H Q
def m1 (f : Dv→Hs→Rs Dv) (ma : M Dv) : M Dv:= fun ρ h => (ma ρ h).bind f
theorem zko {op : UnaryOp} {r : V→Hp→VK→Prop} {f : Dv→Hs→Rs Dv} (ho : UnR X (unaryOp op) r) (hd : UnD G r f) (ha : Snd X G E a ma) : Snd X G E (.UnaryOp op a pos) (m1 f ma):= fun hK =>
  PE.imp (zn1 ho (ha hK)) fun σ H Q ⟨μ,ρ,h,rs,s,o⟩ => z0u rs s o fun μ1 x h1 vx H1 x1 rs1 s1 r1 o1 => hd E μ1 h1 H1 x vx Q s1 r1 o1
variable {tA tB' : M Bool} {rest : List Expr}
def mAnd (t u : M Bool) : M Bool:= fun ρ h => (t ρ h).bind fun c h1 => if c = true then u ρ h1 else .ok false h1
def mOr (t u : M Bool) : M Bool:= fun ρ h => (t ρ h).bind fun c h1 => if c = true then .ok true h1 else u ρ h1
def mNot (t : M Bool) : M Bool:= fun ρ h => (t ρ h).bind fun c h1 => .ok (!c) h1
def SndW (X : Cx) (G : Cfg) (E : XK) (pe : Expr) (m : M Bool) : Prop := X.K = G.K→PW X pe (ttOf G E m)
theorem SndW.t {pe : Expr} {m : M Bool} (h : SndW X G E pe m) : SndT X G E pe m:= fun hK => (h hK).pt
theorem PW.imp {e : Expr} {t t' : TT} (h : PW X e t) (i : ∀ σ H Q,t' σ H Q→t σ H Q) : PW X e t':= fun wh pins s σ H Q I q => h wh pins s σ H Q I (i σ H Q q)
theorem z4f (ha : SndT X G E a tA) : SndW X G E (.BoolOp .And [a] pos) tA:= fun hK => zga (ha hK)
theorem z6w (ha : SndT X G E a tA) : SndW X G E (.BoolOp .Or [a] pos) tA:= fun hK => zjo (ha hK)
theorem zh1 {σ : St} {H : Hp} {Q : Bool→Hp→Prop} (t : ttOf G E (mAnd tA tB') σ H Q) : tAnd (ttOf G E tA) (ttOf G E tB') σ H Q:= by
  obtain ⟨μ,ρ,h,rs,s,o⟩ := t
  refine z4c rs s o fun μ1 k h1 H1 x1 rs1 s1 o1 => ?_
  cases k with
  | true => rw [if_pos rfl] at o1 ⊢; exact ⟨μ1,ρ,h1,rs1,s1,o1⟩
  | false => rw [if_neg (by decide)] at o1 ⊢; exact o1.val s1 rfl
theorem zkp {σ : St} {H : Hp} {Q : Bool→Hp→Prop} (t : ttOf G E (mOr tA tB') σ H Q) : tOr (ttOf G E tA) (ttOf G E tB') σ H Q:= by
  obtain ⟨μ,ρ,h,rs,s,o⟩ := t
  refine z4c rs s o fun μ1 k h1 H1 x1 rs1 s1 o1 => ?_
  cases k with
  | false => rw [if_neg (by decide)] at o1 ⊢; exact ⟨μ1,ρ,h1,rs1,s1,o1⟩
  | true => rw [if_pos rfl] at o1 ⊢; exact o1.val s1 rfl
theorem z5f (ha : SndT X G E a tA) (hb : SndW X G E (.BoolOp .And (b :: rest) pos) tB') : SndW X G E (.BoolOp .And (a :: b :: rest) pos) (mAnd tA tB'):= fun hK => PW.imp (zjp (ha hK) (hb hK)) fun _ _ _ t => zh1 t
theorem zao (ha : SndT X G E a tA) (hb : SndW X G E (.BoolOp .Or (b :: rest) pos) tB') : SndW X G E (.BoolOp .Or (a :: b :: rest) pos) (mOr tA tB'):= fun hK => PW.imp (zmq (ha hK) (hb hK)) fun _ _ _ t => zkp t
theorem z4g (ha : SndT X G E a tA) : SndT X G E (.UnaryOp .Not a pos) (mNot tA):= fun hK => PT.imp (zjq (ha hK)) fun σ H Q ⟨μ,ρ,h,rs,s,o⟩ => z4c rs s o fun μ1 k h1 H1 x1 rs1 s1 o1 => o1.val s1 rfl
def z62 (m u : M Dv) : M Dv:= fun ρ h => (m ρ h).bind fun d h1 => match d with
  | .bl true => u ρ h1
  | .bl false => .ok (.bl false) h1
  | _ => .bad
def notD : Dv→Hs→Rs Dv
  | .bl b,h => .ok (.bl (!b)) h
  | _,_ => .bad
theorem z7q {op} {m : M Dv} (h : Snd X G E a m) : Snd X G E (.BoolOp op [a] pos) m:= fun hK => zjr (h hK)
theorem z7r (ha : Snd X G E a ma) (hb : Snd X G E (.BoolOp .And (b :: rest) pos) mb) : Snd X G E (.BoolOp .And (a :: b :: rest) pos) (z62 ma mb):= fun hK => PE.imp (zjs (ha hK) (hb hK)) fun σ H Q ⟨μ,ρ,h,rs,s,o⟩ =>
  z0u rs s o fun μ1 x h1 vx H1 x1 rs1 s1 r1 o1 => by
    cases x with
    | bl k =>
      refine ⟨k,r1, ?_⟩
      cases k with
      | true => exact iteT ⟨μ1,ρ,h1,rs1,s1,o1⟩
      | false => exact iteF (o1.val s1 rfl)
    | _ => exact o1.elim
theorem zh2 (ha : Snd X G E a ma) : Snd X G E (.UnaryOp .Not a pos) (m1 notD ma):= fun hK => PE.imp (zjt (ha hK)) fun σ H Q ⟨μ,ρ,h,rs,s,o⟩ =>
  z0u rs s o fun μ1 x h1 vx H1 x1 rs1 s1 r1 o1 => by
    cases x with
    | bl k => exact ⟨k,r1,o1.val s1 rfl⟩
    | _ => exact o1.elim
def truD : Dv→Hs→Rs Bool
  | .non,h => .ok false h
  | .bl b,h => .ok b h
  | .int i,h => .ok (i != 0) h
  | .tup xs,h => .ok (!xs.isEmpty) h
  | .ref i,h => match getL h i with
    | some xs => .ok (!xs.isEmpty) h
    | none => .bad
  | _,_ => .bad
def mTru (m : M Dv) : M Bool:= fun ρ h => (m ρ h).bind truD
theorem z4h {μ : Nat→Addr} {n : Nat} {H : Hp} {ds : List Dv} {vs : List V} (r : RelDL G μ n H ds vs) : vs.isEmpty = ds.isEmpty:= by
  have := r.length
  cases ds <;> cases vs <;> simp_all
theorem z2s (ha : Snd X G E a ma) (he : ∀ whole,isTrue a X.env whole = (do let v ← whole; standAt a.pos; holding [v] (truthy v)) := by intro _; rfl) : SndT X G E a (mTru ma):= fun hK => PT.imp (zcv (ha hK) he) fun σ H Q ⟨μ,ρ,h,rs,s,o⟩ =>
  z0u rs s o fun μ1 x h1 vx H1 x1 rs1 s1 r1 o1 => by
    cases x with
    | non => rw [RelD] at r1; subst r1; exact ⟨_,rfl,o1.val s1 rfl⟩
    | bl k => rw [RelD] at r1; subst r1; exact ⟨_,rfl,o1.val s1 rfl⟩
    | int i => rw [RelD] at r1; subst r1; exact ⟨_,rfl,o1.val s1 rfl⟩
    | tup ds =>
      obtain ⟨p,vs,rfl,e,r⟩ := r1
      exact ⟨_,.inr (.inl ⟨vs,SqT.of e,rfl⟩),by rw [z4h r]; exact o1.val s1 rfl⟩
    | ref i =>
      obtain ⟨hi,rfl⟩ := r1
      dsimp only [truD] at o1
      cases q : getL h1 i with
      | none => rw [q] at o1; exact o1.elim
      | some xs =>
        obtain ⟨vs,e,r⟩ := s1.ob i _ (z0h q)
        rw [q] at o1
        exact ⟨_,.inl ⟨vs,SqL.of e,rfl⟩,by rw [z4h r]; exact o1.val s1 rfl⟩
    | _ => exact o1.elim
end
end L2.Mr
namespace L2
open PySem PySem.Spec PyProof.Rows
section
variable {Pg : Program} {w : World} {P : Addr→Prop} {H : Hp} {s : Shared}
theorem zkq (hok : HOk Pg w H s.heap) (n : Nat) (A : Around) (d d' : Dt) (v v' : V) (u u' : Value) (hn : dep d ≤ n) (hu : A.units + n + 1 < cLine) (n1 : nod d = true) (n2 : nod d' = true) (h : Den P H d v) (h' : Den P H d' v') (r : RelV v u) (r' : RelV v' u') :
    SeqAt.RcNeAt A s u u' (!deq d d'):= by
  have hu' : A.units < cLine := by omega
  have hin : ∀ {vs vs' : List V} {ds ds' : List Dt} {its its' : List Value},depL ds + 1 ≤ n→nodL ds = true→nodL ds' = true→DenL P H ds vs→DenL P H ds' vs'→Vals vs its→Vals vs' its' →
      ∀ j (h1 : j < its.toArray.size) (h2 : j < its'.toArray.size),SeqAt.EqAt A.in1 s its.toArray[j] its'.toArray[j] (deq (ds.getD j .non) (ds'.getD j .non)):= by
    intro vs vs' ds ds' its its' hd m1 m2 g g' q q' j h1 h2
    obtain ⟨x,ex,rx⟩ := z60 q h1
    obtain ⟨x',ex',rx'⟩ := z60 q' h2
    obtain ⟨dx,edx,gx⟩ := g.get ex
    obtain ⟨dx',edx',gx'⟩ := g'.get ex'
    have e1 : ds.getD j .non = dx := by simp [List.getD,edx]
    have e2 : ds'.getD j .non = dx' := by simp [List.getD,edx']
    rw [e1,e2]
    have hm := List.mem_of_getElem? edx
    have hdm := z5z hm
    exact (zal hok (n - 1) A.in1 dx dx' x x' _ _ (by omega) (by show A.units + 1 + (n - 1) + 1 < cLine; omega) (z33 m1 hm) (z33 m2 (List.mem_of_getElem? edx')) gx gx' rx rx').2
  cases d with
  | non =>
    rw [Den] at h; subst h; cases r
    cases d' with
    | non =>
      rw [Den] at h'; subst h'; cases r'
      exact SeqAt.RcNeAt.none_none
    | bl b' =>
      rw [Den] at h'; subst h'; cases r'
      exact SeqAt.RcNeAt.none_bool  _
    | int i' =>
      rw [Den] at h'; subst h'; obtain ⟨t2,rfl⟩ := r'
      exact SeqAt.RcNeAt.none_int  _ _
    | str x' =>
      rw [Den] at h'; subst h'; obtain ⟨t2,rfl⟩ := r'
      exact SeqAt.RcNeAt.none_str  _ _
    | tup ds' =>
      rw [Den] at h'; obtain ⟨a2,vs2,rfl,e2,g2⟩ := h'; cases r'; obtain ⟨its2,q2,tp2⟩ := z12 hok e2
      exact SeqAt.RcNeAt.none_tuple  tp2 hu'
    | lst ds' =>
      rw [Den] at h'; obtain ⟨a2,vs2,rfl,_,e2,g2⟩ := h'; cases r'; obtain ⟨its2,q2,tp2⟩ := z13 hok e2
      exact SeqAt.RcNeAt.none_list  tp2 hu'
    | dct => simp [nod] at n2
  | bl b =>
    rw [Den] at h; subst h; cases r
    cases d' with
    | non =>
      rw [Den] at h'; subst h'; cases r'
      exact SeqAt.RcNeAt.bool_none _
    | bl b' =>
      rw [Den] at h'; subst h'; cases r'
      exact SeqAt.RcNeAt.bool_bool _ _
    | int i' =>
      rw [Den] at h'; subst h'; obtain ⟨t2,rfl⟩ := r'
      exact SeqAt.RcNeAt.bool_int _ _ _
    | str x' =>
      rw [Den] at h'; subst h'; obtain ⟨t2,rfl⟩ := r'
      exact SeqAt.RcNeAt.bool_str _ _ _
    | tup ds' =>
      rw [Den] at h'; obtain ⟨a2,vs2,rfl,e2,g2⟩ := h'; cases r'; obtain ⟨its2,q2,tp2⟩ := z12 hok e2
      exact SeqAt.RcNeAt.bool_tuple _ tp2 hu'
    | lst ds' =>
      rw [Den] at h'; obtain ⟨a2,vs2,rfl,_,e2,g2⟩ := h'; cases r'; obtain ⟨its2,q2,tp2⟩ := z13 hok e2
      exact SeqAt.RcNeAt.bool_list _ tp2 hu'
    | dct => simp [nod] at n2
  | int i =>
    rw [Den] at h; subst h; obtain ⟨t1,rfl⟩ := r
    cases d' with
    | non =>
      rw [Den] at h'; subst h'; cases r'
      exact SeqAt.RcNeAt.int_none _ _
    | bl b' =>
      rw [Den] at h'; subst h'; cases r'
      exact SeqAt.RcNeAt.int_bool _ _ _
    | int i' =>
      rw [Den] at h'; subst h'; obtain ⟨t2,rfl⟩ := r'
      exact SeqAt.RcNeAt.int_int _ _ _ _
    | str x' =>
      rw [Den] at h'; subst h'; obtain ⟨t2,rfl⟩ := r'
      exact SeqAt.RcNeAt.int_str _ _ _ _
    | tup ds' =>
      rw [Den] at h'; obtain ⟨a2,vs2,rfl,e2,g2⟩ := h'; cases r'; obtain ⟨its2,q2,tp2⟩ := z12 hok e2
      exact SeqAt.RcNeAt.int_tuple _ _ tp2 hu'
    | lst ds' =>
      rw [Den] at h'; obtain ⟨a2,vs2,rfl,_,e2,g2⟩ := h'; cases r'; obtain ⟨its2,q2,tp2⟩ := z13 hok e2
      exact SeqAt.RcNeAt.int_list _ _ tp2 hu'
    | dct => simp [nod] at n2
  | str x =>
    rw [Den] at h; subst h; obtain ⟨t1,rfl⟩ := r
    cases d' with
    | non =>
      rw [Den] at h'; subst h'; cases r'
      exact SeqAt.RcNeAt.str_none _ _
    | bl b' =>
      rw [Den] at h'; subst h'; cases r'
      exact SeqAt.RcNeAt.str_bool _ _ _
    | int i' =>
      rw [Den] at h'; subst h'; obtain ⟨t2,rfl⟩ := r'
      exact SeqAt.RcNeAt.str_int _ _ _ _
    | str x' =>
      rw [Den] at h'; subst h'; obtain ⟨t2,rfl⟩ := r'
      exact SeqAt.RcNeAt.str_str _ _ _ _
    | tup ds' =>
      rw [Den] at h'; obtain ⟨a2,vs2,rfl,e2,g2⟩ := h'; cases r'; obtain ⟨its2,q2,tp2⟩ := z12 hok e2
      exact SeqAt.RcNeAt.str_tuple _ _ tp2 hu'
    | lst ds' =>
      rw [Den] at h'; obtain ⟨a2,vs2,rfl,_,e2,g2⟩ := h'; cases r'; obtain ⟨its2,q2,tp2⟩ := z13 hok e2
      exact SeqAt.RcNeAt.str_list _ _ tp2 hu'
    | dct => simp [nod] at n2
  | tup ds =>
    rw [Den] at h; obtain ⟨a1,vs1,rfl,e1,g1⟩ := h; cases r; obtain ⟨its1,q1,tp1⟩ := z12 hok e1
    cases d' with
    | non =>
      rw [Den] at h'; subst h'; cases r'
      exact SeqAt.RcNeAt.tuple_none  tp1 hu'
    | bl b' =>
      rw [Den] at h'; subst h'; cases r'
      exact SeqAt.RcNeAt.tuple_bool _ tp1 hu'
    | int i' =>
      rw [Den] at h'; subst h'; obtain ⟨t2,rfl⟩ := r'
      exact SeqAt.RcNeAt.tuple_int _ _ tp1 hu'
    | str x' =>
      rw [Den] at h'; subst h'; obtain ⟨t2,rfl⟩ := r'
      exact SeqAt.RcNeAt.tuple_str _ _ tp1 hu'
    | tup ds' =>
      rw [Den] at h'; obtain ⟨a2,vs2,rfl,e2,g2⟩ := h'; cases r'; obtain ⟨its2,q2,tp2⟩ := z12 hok e2
      rw [nod] at n1 n2; rw [dep] at hn
      have hl1 := g1.length; have hl2 := g2.length; have hq1 := q1.length; have hq2 := q2.length
      rw [deq]
      have z := SeqAt.RcNeAt.tuples (e:= fun j => deq (ds.getD j .non) (ds'.getD j .non)) tp1 tp2 hu' (hin hn n1 n2 g1 g2 q1 q2)
      have s1 : its1.toArray.size = ds.length := by simp; omega
      have s2 : its2.toArray.size = ds'.length := by simp; omega
      rw [s1,s2] at z
      by_cases hlen : ds.length = ds'.length
      · rw [z23 hlen]; rw [← hlen,Nat.min_self] at z; simpa using z
      · rw [z34 hlen]; rw [show (ds.length == ds'.length) = false from beq_eq_false_iff_ne.mpr hlen,Bool.and_false] at z; exact z
    | lst ds' =>
      rw [Den] at h'; obtain ⟨a2,vs2,rfl,_,e2,g2⟩ := h'; cases r'; obtain ⟨its2,q2,tp2⟩ := z13 hok e2
      exact SeqAt.RcNeAt.tuple_list tp1 tp2 hu'
    | dct => simp [nod] at n2
  | lst ds =>
    rw [Den] at h; obtain ⟨a1,vs1,rfl,_,e1,g1⟩ := h; cases r; obtain ⟨its1,q1,tp1⟩ := z13 hok e1
    cases d' with
    | non =>
      rw [Den] at h'; subst h'; cases r'
      exact SeqAt.RcNeAt.list_none  tp1 hu'
    | bl b' =>
      rw [Den] at h'; subst h'; cases r'
      exact SeqAt.RcNeAt.list_bool _ tp1 hu'
    | int i' =>
      rw [Den] at h'; subst h'; obtain ⟨t2,rfl⟩ := r'
      exact SeqAt.RcNeAt.list_int _ _ tp1 hu'
    | str x' =>
      rw [Den] at h'; subst h'; obtain ⟨t2,rfl⟩ := r'
      exact SeqAt.RcNeAt.list_str _ _ tp1 hu'
    | tup ds' =>
      rw [Den] at h'; obtain ⟨a2,vs2,rfl,e2,g2⟩ := h'; cases r'; obtain ⟨its2,q2,tp2⟩ := z12 hok e2
      exact SeqAt.RcNeAt.list_tuple tp1 tp2 hu'
    | lst ds' =>
      rw [Den] at h'; obtain ⟨a2,vs2,rfl,_,e2,g2⟩ := h'; cases r'; obtain ⟨its2,q2,tp2⟩ := z13 hok e2
      rw [nod] at n1 n2; rw [dep] at hn
      have hl1 := g1.length; have hl2 := g2.length; have hq1 := q1.length; have hq2 := q2.length
      rw [deq]
      by_cases hlen : ds.length = ds'.length
      · have z := SeqAt.RcNeAt.lists (e:= fun j => deq (ds.getD j .non) (ds'.getD j .non)) tp1 tp2 (by simp; omega) hu' (hin hn n1 n2 g1 g2 q1 q2)
        rw [z23 hlen]; simpa [hq1.symm,hl1] using z
      · rw [z34 hlen]; exact SeqAt.RcNeAt.lists_lengths tp1 tp2 (by simp; omega) hu'
    | dct => simp [nod] at n2
  | dct => simp [nod] at n1
end
end L2
namespace L2.Mr
open PySem PySem.Spec PyProof.Rows
def optL {α β : Type} (f : α→Option β) : List α→Option (List β)
  | [] => some []
  | x :: xs => match f x with
    | none => none
    | some y => match optL f xs with
      | none => none
      | some ys => some (y :: ys)
def pur : Nat→Hs→Dv→Option Dt
  | 0,_,_ => none
  | k + 1,h,d => match d with
    | .non => some .non
    | .bl b => some (.bl b)
    | .int i => some (.int i)
    | .str x => some (.str x)
    | .tup xs => match optL (pur k h) xs with
      | some ts => some (.tup ts)
      | none => none
    | .ref i => match getL h i with
      | some xs => match optL (pur k h) xs with
        | some ts => some (.lst ts)
        | none => none
      | none => none
    | _ => none
abbrev Tru : Addr→Prop:= fun _ => True
section
variable {G : Cfg} {μ : Nat→Addr} {h : Hs} {H : Hp}
theorem z5g (s : Sim G μ h H) : ∀ (k : Nat) (d : Dv) (v : V) (t : Dt),RelD G μ h.length H d v→pur k h d = some t→Den Tru H t v∧dep t ≤ k∧nod t = true:= by
  intro k
  induction k with
  | zero => intro d v t _ e; cases e
  | succ k ih =>
    have il : ∀ (xs : List Dv) (vs : List V) (ts : List Dt),RelDL G μ h.length H xs vs→optL (pur k h) xs = some ts→DenL Tru H ts vs∧depL ts ≤ k∧nodL ts = true:= by
      intro xs
      induction xs with
      | nil => intro vs ts r e; cases e; rw [RelDL] at r; subst r; exact ⟨DenL.nil,by simp [depL],rfl⟩
      | cons x xs ihx =>
        intro vs ts r e
        rw [RelDL] at r; obtain ⟨v,rr,rfl,r1,r2⟩ := r
        unfold optL at e
        cases q : pur k h x with
        | none => rw [q] at e; cases e
        | some y =>
          rw [q] at e
          dsimp only at e
          cases q2 : optL (pur k h) xs with
          | none => rw [q2] at e; cases e
          | some ys =>
            rw [q2] at e; cases e
            obtain ⟨a1,a2,a3⟩ := ih x v y r1 q
            obtain ⟨b1,b2,b3⟩ := ihx rr ys r2 q2
            exact ⟨DenL.cons a1 b1,by rw [depL]; omega,by rw [nodL,a3,b3]; rfl⟩
    intro d v t r e
    unfold pur at e
    cases d with
    | non => cases e; rw [RelD] at r; subst r; exact ⟨by rw [Den],by simp [dep],rfl⟩
    | bl b => cases e; rw [RelD] at r; subst r; exact ⟨by rw [Den],by simp [dep],rfl⟩
    | int b => cases e; rw [RelD] at r; subst r; exact ⟨by rw [Den],by simp [dep],rfl⟩
    | str b => cases e; rw [RelD] at r; subst r; exact ⟨by rw [Den],by simp [dep],rfl⟩
    | tup xs =>
      dsimp only at e
      cases q : optL (pur k h) xs with
      | none => rw [q] at e; cases e
      | some ts =>
        rw [q] at e; cases e
        obtain ⟨a,vs,rfl,e1,r1⟩ := r
        obtain ⟨b1,b2,b3⟩ := il xs vs ts r1 q
        exact ⟨by rw [Den]; exact ⟨a,vs,rfl,e1,b1⟩,by rw [dep]; omega,by rw [nod]; exact b3⟩
    | ref i =>
      dsimp only at e
      cases g : getL h i with
      | none => rw [g] at e; cases e
      | some xs =>
        rw [g] at e
        dsimp only at e
        cases q : optL (pur k h) xs with
        | none => rw [q] at e; cases e
        | some ts =>
          rw [q] at e; cases e
          obtain ⟨hi,rfl⟩ := r
          obtain ⟨vs,e1,r1⟩ := s.ob i _ (z0h g)
          obtain ⟨b1,b2,b3⟩ := il xs vs ts r1 q
          exact ⟨by rw [Den]; exact ⟨_,vs,rfl,trivial,e1,b1⟩,by rw [dep]; omega,by rw [nod]; exact b3⟩
    | edc => cases e
    | exc c => cases e
    | scr => cases e
end
def z16 : Nat := 30
def eqD (x y : Dv) (h : Hs) : Rs Dv := match pur z16 h x,pur z16 h y with
  | some s,some t => .ok (.bl (deq s t)) h
  | _,_ => .bad
def neD (x y : Dv) (h : Hs) : Rs Dv := match pur z16 h x,pur z16 h y with
  | some s,some t => .ok (.bl (!deq s t)) h
  | _,_ => .bad
def rEqG (neg : Bool) : R2:= fun x y H Q => ∃ t t',Den Tru H t x∧Den Tru H t' y∧dep t ≤ z16∧nod t = true∧nod t' = true∧Q (.bl (if neg then !deq t t' else deq t t')) H
section
variable {X : Cx} {G : Cfg}
theorem zfc (hu : X.A.units + 64 < cLine) : OpR X (compareOp .Eq) (rEqG false):= by
  intro pins s σ H x y v u Q I r1 r2 ⟨t,t',d,d',hd,n1,n2,q⟩
  exact EqBoolInt.of_rc (zal I.hok z16 X.A t t' x y v u hd (by unfold z16; omega) n1 n2 d d' r1 r2).1 ⟨.bl _,H,I,rfl,q⟩
theorem zkr (hu : X.A.units + 64 < cLine) : OpR X (compareOp .NotEq) (rEqG true):= by
  intro pins s σ H x y v u Q I r1 r2 ⟨t,t',d,d',hd,n1,n2,q⟩
  exact EqBoolInt.of_rcne (zkq I.hok z16 X.A t t' x y v u hd (by unfold z16; omega) n1 n2 d d' r1 r2) ⟨.bl _,H,I,rfl,q⟩
theorem zfd : OpD G (rEqG false) eqD:= by
  intro E μ h H x y vx vy Q s rx ry o
  unfold eqD at o
  split at o
  · rename_i t t' e e'
    obtain ⟨a1,a2,a3⟩ := z5g s _ x vx t rx e
    obtain ⟨b1,b2,b3⟩ := z5g s _ y vy t' ry e'
    exact ⟨t,t',a1,b1,a2,a3,b3,o.val s rfl⟩
  · exact o.elim
theorem zks : OpD G (rEqG true) neD:= by
  intro E μ h H x y vx vy Q s rx ry o
  unfold neD at o
  split at o
  · rename_i t t' e e'
    obtain ⟨a1,a2,a3⟩ := z5g s _ x vx t rx e
    obtain ⟨b1,b2,b3⟩ := z5g s _ y vy t' ry e'
    exact ⟨t,t',a1,b1,a2,a3,b3,o.val s rfl⟩
  · exact o.elim
end
def iOp (g : Int→Int→Dv) : Dv→Dv→Hs→Rs Dv
  | .int i,.int j,h => .ok (g i j) h
  | _,_,_ => .bad
def iOpC (C : Int→Int→Bool) (g : Int→Int→Dv) : Dv→Dv→Hs→Rs Dv
  | .int i,.int j,h => if C i j = true then .ok (g i j) h else .bad
  | _,_,_ => .bad
section
variable {X : Cx} {G : Cfg}
theorem zh3 {f : Int→Int→Int} : OpD G (rI0 fun i j => .int (f i j)) (iOp fun i j => .int (f i j)):= by
  intro E μ h H x y vx vy Q s rx ry o
  cases x with
  | int i =>
    cases y with
    | int j => exact ⟨i,j,rx,ry,o.val s rfl⟩
    | _ => exact o.elim
  | _ => exact o.elim
theorem z5h {f : Int→Int→Bool} : OpD G (rI0 fun i j => .bl (f i j)) (iOp fun i j => .bl (f i j)):= by
  intro E μ h H x y vx vy Q s rx ry o
  cases x with
  | int i =>
    cases y with
    | int j => exact ⟨i,j,rx,ry,o.val s rfl⟩
    | _ => exact o.elim
  | _ => exact o.elim
theorem z43 {C : Int→Int→Prop} {B : Int→Int→Bool} {f : Int→Int→Int} (hB : ∀ i j,B i j = true→C i j) : OpD G (rI C fun i j => .int (f i j)) (iOpC B fun i j => .int (f i j)):= by
  intro E μ h H x y vx vy Q s rx ry o
  cases x with
  | int i =>
    cases y with
    | int j =>
      dsimp only [iOpC] at o
      split at o
      · rename_i hb; exact ⟨i,j,rx,ry,hB i j hb,o.val s rfl⟩
      · exact o.elim
    | _ => exact o.elim
  | _ => exact o.elim
def inW (i : Int) : Bool := decide (-18446744073709551616 < i) && decide (i < 18446744073709551616)
def mulB (i j : Int) : Bool := inW i || inW j
theorem zh4 (i j : Int) (h : mulB i j = true) : CMul i j:= by
  unfold mulB inW at h
  unfold CMul
  simp only [Bool.or_eq_true,Bool.and_eq_true,decide_eq_true_eq] at h
  rcases h with h | h
  · exact .inl ⟨by omega,by omega⟩
  · exact .inr ⟨by omega,by omega⟩
def modB (_ j : Int) : Bool := decide (0 < j)
theorem zh5 (i j : Int) (h : modB i j = true) : 0 < j := by unfold modB at h; simpa using h
def powB (i j : Int) : Bool := decide (0 ≤ j) && decide (j ≤ 1000000) && decide (i.natAbs < 18446744073709551616)
theorem zh6 (i j : Int) (h : powB i j = true) : CPow i j:= by
  unfold powB at h; unfold CPow
  simp only [Bool.and_eq_true,decide_eq_true_eq] at h
  exact ⟨h.1.1,h.1.2,by have := h.2; omega⟩
def addD : Dv→Dv→Hs→Rs Dv
  | .int i,.int j,h => .ok (.int (i + j)) h
  | .ref i,.ref j,h => match getL h i,getL h j with
    | some xs,some ys => lim (xs.length + ys.length) (.ok (.ref h.length) (h ++ [.lst (xs ++ ys)]))
    | _,_ => .bad
  | .tup xs,.tup ys,h => if xs.isEmpty = true then .bad else lim (xs.length + ys.length) (.ok (.tup (xs ++ ys)) h)
  | _,_,_ => .bad
def zh7 (K : PySem.W.Frag) : R2:= fun x y H Q => (rI0 fun i j => .int (i + j)) x y H Q ∨ rCat x y H Q ∨ zkg K x y H Q
theorem zh8 : OpR X (binaryOp .Add) (zh7 X.K) := op_add.or (op_cat.or zgp)
theorem zh9 : OpD G (zh7 G.K) addD:= by
  intro E μ h H x y vx vy Q s rx ry o
  cases x with
  | int i =>
    cases y with
    | int j => exact .inl ⟨i,j,rx,ry,o.val s rfl⟩
    | _ => exact o.elim
  | ref i =>
    cases y with
    | ref j =>
      dsimp only [addD] at o
      cases g1 : getL h i with
      | none => rw [g1] at o; exact o.elim
      | some xs =>
        cases g2 : getL h j with
        | none => rw [g1,g2] at o; exact o.elim
        | some ys =>
          rw [g1,g2] at o
          dsimp only at o
          unfold lim at o
          split at o
          · rename_i hl
            obtain ⟨vs,e1,r1⟩ := s.ob i _ (z0h g1)
            obtain ⟨ws,e2,r2⟩ := s.ob j _ (z0h g2)
            obtain ⟨_,rfl⟩ := rx
            obtain ⟨_,rfl⟩ := ry
            exact .inr (.inl ⟨_,_,vs,ws,rfl,rfl,e1,e2,by rw [r1.length,r2.length]; exact z42 hl,fun p hp => z3g s (r1.append r2) hp o⟩)
          · exact o.elim
    | _ => exact o.elim
  | tup xs =>
    cases y with
    | tup ys =>
      dsimp only [addD] at o
      split at o
      · exact o.elim
      · rename_i hne
        unfold lim at o
        split at o
        · rename_i hl
          obtain ⟨a,vs,rfl,e1,r1⟩ := rx
          obtain ⟨b,ws,rfl,e2,r2⟩ := ry
          refine .inr (.inr ⟨a,b,vs,ws,rfl,rfl,SqT.of e1,SqT.of e2, ?_,by rw [r1.length,r2.length]; exact z42 hl,fun z => ?_,fun _ p hp => ?_⟩)
          · intro z; subst z
            have := r1.length
            cases xs <;> simp_all
          · subst z
            have e3 : ys = [] := by have := r2.length; cases ys <;> simp_all
            subst e3
            refine o.val s ?_
            rw [List.append_nil]
            exact ⟨a,vs,rfl,e1,r1⟩
          · exact o μ _ _ (Ext.same (z0k hp)) (s.same (z0k hp)) ⟨p,_,rfl,z0i,RelDL.mono (Ext.same (z0k hp)) _ _ (r1.append r2)⟩
        · exact o.elim
    | _ => exact o.elim
  | _ => exact o.elim
def atL (xs : List Dv) (i : Int) (h : Hs) : Rs Dv := match atI xs i with
  | some d => .ok d h
  | none => .bad
def ixD (scr : List Int) : Dv→Dv→Hs→Rs Dv
  | .tup xs,.int i,h => atL xs i h
  | .ref k,.int i,h => match getL h k with
    | some xs => atL xs i h
    | none => .bad
  | .scr,.int i,h => atL (scr.map Dv.int) i h
  | _,_,_ => .bad
theorem z2o {μ : Nat→Addr} {n : Nat} {H : Hp} : ∀ ns : List Int,RelDL G μ n H (ns.map Dv.int) (ns.map V.int)
  | [] => RelDL.nil
  | i :: ns => RelDL.cons rfl (z2o ns)
theorem zap {E : XK} {μ : Nat→Addr} {h : Hs} {H : Hp} {xs : List Dv} {vs : List V} {i : Int} {Q : VK} (s : Sim G μ h H) (r : RelDL G μ h.length H xs vs) (o : Out G E μ h.length H (atL xs i h) (RelD G) Q) : ∃ v,atI vs i = some v∧Q v H:= by
  unfold atL at o
  cases e : atI xs i with
  | none => rw [e] at o; exact o.elim
  | some d =>
    rw [e] at o
    unfold atI at e ⊢
    rw [r.length]
    cases q : ixN xs.length i with
    | none => rw [q] at e; cases e
    | some j =>
      rw [q] at e
      obtain ⟨v,e1,r1⟩ := r.get e
      exact ⟨v,e1,o.val s r1⟩
theorem zfe : OpD G (rIx G.K) (ixD G.scr):= by
  intro E μ h H x y vx vy Q s rx ry o
  cases y with
  | int i =>
    cases x with
    | tup xs =>
      obtain ⟨a,vs,rfl,e1,r1⟩ := rx
      obtain ⟨v,e2,q⟩ := zap s r1 o
      exact .inr (.inl ⟨a,vs,i,v,rfl,ry,SqT.of e1,e2,q⟩)
    | ref k =>
      dsimp only [ixD] at o
      cases g : getL h k with
      | none => rw [g] at o; exact o.elim
      | some xs =>
        rw [g] at o
        obtain ⟨vs,e1,r1⟩ := s.ob k _ (z0h g)
        obtain ⟨_,rfl⟩ := rx
        obtain ⟨v,e2,q⟩ := zap s r1 o
        exact .inl ⟨_,vs,i,v,rfl,ry,SqL.of e1,e2,q⟩
    | scr =>
      obtain ⟨rfl,hf⟩ := rx
      obtain ⟨v,e2,q⟩ := zap s (z2o G.scr) o
      exact .inl ⟨_,_,i,v,rfl,ry,hf.sq,e2,q⟩
    | _ => exact o.elim
  | _ => cases x <;> exact o.elim
theorem zkt {E : XK} {a b : Expr} {ma mb : M Dv} {pos : Pos} (ha : Snd X G E a ma) (hb : Snd X G E b mb) (hs : z7p b := by intro _ _; rfl) : Snd X G E (.Subscript a b pos) (m2 (ixD G.scr) ma mb):= fun hK =>
  PE.imp (zkh (by have := zf7 (X := X); rw [hK] at this; exact this) (ha hK) (hb hK) hs) fun _ _ _ t => z6v zfe t
theorem zn7 : bootBuiltins "abs" = some (.builtin "abs") := by decide +kernel
theorem z7s : bootBuiltins "tuple" = some (.type "tuple") := by decide +kernel
theorem zaq : bootBuiltins "list" = some (.type "list") := by decide +kernel
theorem zku : bootBuiltins "max" = some (.builtin "max") := by decide +kernel
theorem zn8 : bootBuiltins "min" = some (.builtin "min") := by decide +kernel
variable {E : XK} {mas : M (List Dv)} {e : Expr} {es : List Expr} {x : Str} {p pos : Pos} {id T : String}
def z7t (G : Cfg) (r : List V→Hp→VK→Prop) (f : List Dv→Hs→Rs Dv) : Prop := ∀ (E : XK) (μ : Nat→Addr) (h : Hs) (H : Hp) (xs : List Dv) (vs : List V) (Q : VK),Sim G μ h H→RelDL G μ h.length H xs vs→Out G E μ h.length H (f xs h) (RelD G) Q→r vs H Q
def z05 (f : List Dv→Hs→Rs Dv) (ms : M (List Dv)) : M Dv:= fun ρ h => (ms ρ h).bind f
theorem zff {r : List V→Hp→VK→Prop} {f : List Dv→Hs→Rs Dv} (hd : z7t G r f) {σ : St} {H : Hp} {Q : VK} (t : tOf G E (z05 f mas) σ H Q) : tCB r (taOf G E mas) σ H Q:= by
  obtain ⟨μ,ρ,h,rs,s,o⟩ := t
  exact z1k rs s o fun μ1 ds h1 vs H1 x1 rs1 s1 r1 o1 => hd E μ1 h1 H1 ds vs Q s1 r1 o1
theorem z1l {r : List V→Hp→VK→Prop} {f : List Dv→Hs→Rs Dv} (hc : CallR X (.builtin id) r) (hd : z7t G r f) (hg : Gl X x) (hm : X.mg x = none) (hv : bootBuiltins x = some (.builtin id)) (ha : SndA X G E (e :: es) mas) (hn : x ≠ "__name__" := by decide) (hdb : (x == ("__debug__" : Str)) = false := by decide)
    (he : starEach (e :: es) X.env = (false,eval e X.env) :: starEach es X.env := by rfl) (hpl : (backTo pos (starEach es X.env)).any (·.1) = false := by rfl) : Snd X G E (.Call (.Name x p) (e :: es) [] pos) (z05 f mas):= fun hK =>
  PE.imp (z3z hc hg hm hv (ha hK) hn hdb he hpl) fun _ _ _ t => zff hd t
theorem z5i {r : List V→Hp→VK→Prop} {f : List Dv→Hs→Rs Dv} (hc : CallR X (.type T) r) (hd : z7t G r f) (hg : Gl X x) (hm : X.mg x = none) (hv : bootBuiltins x = some (.type T)) (ha : SndA X G E (e :: es) mas) (hn : x ≠ "__name__" := by decide) (hdb : (x == ("__debug__" : Str)) = false := by decide)
    (he : starEach (e :: es) X.env = (false,eval e X.env) :: starEach es X.env := by rfl) (hpl : (backTo pos (starEach es X.env)).any (·.1) = false := by rfl) : Snd X G E (.Call (.Name x p) (e :: es) [] pos) (z05 f mas):= fun hK =>
  PE.imp (zae hc hg hm hv (ha hK) hn hdb he hpl) fun _ _ _ t => zff hd t
def seqD (scr : List Int) : Dv→Hs→Option (List Dv)
  | .tup xs,_ => some xs
  | .ref i,h => getL h i
  | .scr,_ => some (scr.map Dv.int)
  | _,_ => none
def f1 (g : Dv→Hs→Rs Dv) : List Dv→Hs→Rs Dv
  | [d],h => g d h
  | _,_ => .bad
def lenD (scr : List Int) (d : Dv) (h : Hs) : Rs Dv := match seqD scr d h with
  | some xs => .ok (.int xs.length) h
  | none => .bad
theorem z4i {μ : Nat→Addr} {n : Nat} {H : Hp} {d : Dv} {vs : List V} (r : RelDL G μ n H [d] vs) : ∃ v,vs = [v]∧RelD G μ n H d v:= by
  rw [RelDL] at r; obtain ⟨v,rr,rfl,h1,h2⟩ := r
  rw [RelDL] at h2; subst h2
  exact ⟨v,rfl,h1⟩
theorem z6x {r : V→Hp→VK→Prop} {g : Dv→Hs→Rs Dv} (hg : UnD G r g) : z7t G (fun xs H Q => ∃ v,xs = [v]∧r v H Q) (f1 g):= by
  intro E μ h H xs vs Q s rr o
  match xs,rr,o with
  | [],_,o => exact o.elim
  | _ :: _ :: _,_,o => exact o.elim
  | [d],rr,o =>
    obtain ⟨v,rfl,r1⟩ := z4i rr
    exact ⟨v,rfl,hg E μ h H d v Q s r1 o⟩
theorem z4j {μ : Nat→Addr} {n : Nat} {H : Hp} {d d' : Dv} {vs : List V} (r : RelDL G μ n H [d,d'] vs) : ∃ v v',vs = [v,v']∧RelD G μ n H d v∧RelD G μ n H d' v':= by
  rw [RelDL] at r; obtain ⟨v,rr,rfl,h1,h2⟩ := r
  obtain ⟨v',rfl,h3⟩ := z4i h2
  exact ⟨v,v',rfl,h1,h3⟩
theorem z7u {μ : Nat→Addr} {h : Hs} {H : Hp} {d : Dv} {v : V} {xs : List Dv} (s : Sim G μ h H) (r : RelD G μ h.length H d v) (e : seqD G.scr d h = some xs) : ∃ a vs,v = .ref a∧(SqL G.K H a vs ∨ SqT G.K H a vs)∧RelDL G μ h.length H xs vs:= by
  cases d with
  | tup ds => cases e; obtain ⟨a,vs,rfl,e1,r1⟩ := r; exact ⟨a,vs,rfl,.inr (SqT.of e1),r1⟩
  | ref i => obtain ⟨_,rfl⟩ := r; obtain ⟨vs,e1,r1⟩ := s.ob i _ (z0h e); exact ⟨_,vs,rfl,.inl (SqL.of e1),r1⟩
  | scr => cases e; obtain ⟨rfl,hf⟩ := r; exact ⟨_,_,rfl,.inl hf.sq,z2o _⟩
  | _ => cases e
def zkv (K : PySem.W.Frag) : V→Hp→VK→Prop:= fun x H Q => ∃ p ys,x = .ref p∧(SqL K H p ys ∨ SqT K H p ys)∧Q (.int ys.length) H
theorem zar : UnD G (zkv G.K) (lenD G.scr):= by
  intro E μ h H d v Q s r1 o
  unfold lenD at o
  cases e : seqD G.scr d h with
  | none => rw [e] at o; exact o.elim
  | some ys =>
    rw [e] at o
    obtain ⟨a,ws,rfl,hs,r2⟩ := z7u s r1 e
    exact ⟨a,ws,rfl,hs,by rw [r2.length]; exact o.val s rfl⟩
theorem CallR.imp {f : Value} {r r' : List V→Hp→VK→Prop} (h : CallR X f r) (i : ∀ xs H Q,r' xs H Q→r xs H Q) : CallR X f r':= fun pins s σ H xs us Q I rv q => h pins s σ H xs us Q I rv (i xs H Q q)
theorem zas (hg : Gl X "len") (hm : X.mg "len" = none) (ha : SndA X G E (e :: es) mas)
    (he : starEach (e :: es) X.env = (false,eval e X.env) :: starEach es X.env := by rfl) (hpl : (backTo pos (starEach es X.env)).any (·.1) = false := by rfl) : Snd X G E (.Call (.Name "len" p) (e :: es) [] pos) (z05 (f1 (lenD G.scr)) mas):= fun hK =>
  z1l (CallR.imp (z3t (X := X)) fun xs H Q ⟨v,h1,a,ys,h2,h3,h4⟩ => ⟨a,ys,by rw [h1,h2],by rw [hK]; exact h3,h4⟩) (z6x zar) hg hm PySem.boot_len ha (by decide) (by decide) he hpl hK
def absD : Dv→Hs→Rs Dv
  | .int i,h => .ok (.int (if i < 0 then -i else i)) h
  | _,_ => .bad
theorem zha : UnD G (fun x H Q => ∃ i,x = .int i∧Q (.int (if i < 0 then -i else i)) H) absD:= by
  intro E μ h H d v Q s r1 o
  cases d with
  | int i => rw [RelD] at r1; subst r1; exact ⟨i,rfl,o.val s rfl⟩
  | _ => exact o.elim
theorem zhb (hg : Gl X "abs") (hm : X.mg "abs" = none) (ha : SndA X G E (e :: es) mas)
    (he : starEach (e :: es) X.env = (false,eval e X.env) :: starEach es X.env := by rfl) (hpl : (backTo pos (starEach es X.env)).any (·.1) = false := by rfl) : Snd X G E (.Call (.Name "abs" p) (e :: es) [] pos) (z05 (f1 absD) mas) :=
  z1l (CallR.imp (zcw (X := X)) fun xs H Q ⟨v,h1,i,h2,h3⟩ => ⟨i,by rw [h1,h2],h3⟩) (z6x zha) hg hm zn7 ha (by decide) (by decide) he hpl
def z35 : List Dv→Hs→Rs Dv
  | [.int i,.int j],h => .ok (.int (if j > i then j else i)) h
  | _,_ => .bad
def z63 : List Dv→Hs→Rs Dv
  | [.int i,.int j],h => .ok (.int (if j < i then j else i)) h
  | _,_ => .bad
theorem zfg {f : List Dv→Hs→Rs Dv} {g : Int→Int→Int} (h2 : ∀ i j h,f [.int i,.int j] h = .ok (.int (g i j)) h) (hb : ∀ xs h,(∀ i j,xs ≠ [.int i,.int j])→f xs h = .bad) :
    z7t G (fun xs H Q => ∃ i j,xs = [.int i,.int j]∧Q (.int (g i j)) H) f:= by
  intro E μ h H xs vs Q s r o
  by_cases hx : ∃ i j,xs = [.int i,.int j]
  · obtain ⟨i,j,rfl⟩ := hx
    obtain ⟨v,v',rfl,r1,r2⟩ := z4j r
    rw [RelD] at r1 r2; subst r1; subst r2
    rw [h2] at o
    exact ⟨i,j,rfl,o.val s rfl⟩
  · rw [hb xs h (fun i j e => hx ⟨i,j,e⟩)] at o
    exact o.elim
theorem zd3 : z7t G (fun xs H Q => ∃ i j,xs = [.int i,.int j]∧Q (.int (if j > i then j else i)) H) z35 := zfg (fun _ _ _ => rfl) fun xs h hx => by
  unfold z35; split
  · rename_i i j; exact absurd rfl (hx i j)
  · rfl
theorem zd4 : z7t G (fun xs H Q => ∃ i j,xs = [.int i,.int j]∧Q (.int (if j < i then j else i)) H) z63 := zfg (fun _ _ _ => rfl) fun xs h hx => by
  unfold z63; split
  · rename_i i j; exact absurd rfl (hx i j)
  · rfl
def z2g : Dv→Hs→Rs Dv
  | .tup xs,h => .ok (.tup xs) h
  | .ref i,h => match getL h i with
    | some xs => .ok (.tup xs) h
    | none => .bad
  | _,_ => .bad
def zn9 (K : PySem.W.Frag) : V→Hp→VK→Prop:= fun x H Q => ∃ p ys,x = .ref p∧((SqL K H p ys∧∀ l,H l = none→Q (.ref l) (upd H l (.tup ys))) ∨ (SqT K H p ys∧Q (.ref p) H))
theorem zat : UnD G (zn9 G.K) z2g:= by
  intro E μ h H d v Q s r1 o
  cases d with
  | tup ds =>
    have r1' := r1
    obtain ⟨a,ws,rfl,e1,r2⟩ := r1
    exact ⟨a,ws,rfl,.inr ⟨SqT.of e1,o.val s r1'⟩⟩
  | ref i =>
    dsimp only [z2g] at o
    cases g : getL h i with
    | none => rw [g] at o; exact o.elim
    | some ys =>
      rw [g] at o
      obtain ⟨_,rfl⟩ := r1
      obtain ⟨ws,e1,r2⟩ := s.ob i _ (z0h g)
      exact ⟨_,ws,rfl,.inl ⟨SqL.of e1,fun l hl => o μ _ _ (Ext.same (z0k hl)) (s.same (z0k hl)) ⟨l,ws,rfl,z0i,RelDL.mono (Ext.same (z0k hl)) _ _ r2⟩⟩⟩
  | _ => exact o.elim
theorem z6y (hg : Gl X "tuple") (hm : X.mg "tuple" = none) (ha : SndA X G E (e :: es) mas)
    (he : starEach (e :: es) X.env = (false,eval e X.env) :: starEach es X.env := by rfl) (hpl : (backTo pos (starEach es X.env)).any (·.1) = false := by rfl) : Snd X G E (.Call (.Name "tuple" p) (e :: es) [] pos) (z05 (f1 z2g) mas):= fun hK =>
  z5i (CallR.imp (z5w (X := X)) fun xs H Q ⟨v,h1,a,ys,h2,h3⟩ => ⟨a,ys,by rw [h1,h2],by rw [hK]; exact h3⟩) (z6x zat) hg hm z7s ha (by decide) (by decide) he hpl hK
def z9n (scr : List Int) (d : Dv) (h : Hs) : Rs Dv := match seqD scr d h with
  | some xs => .ok (.ref h.length) (h ++ [.lst xs])
  | none => .bad
theorem zd5 : UnD G (fun x H Q => ∃ p ys,x = .ref p∧(SqL G.K H p ys ∨ SqT G.K H p ys)∧∀ l,H l = none→Q (.ref l) (upd H l (.lst ys))) (z9n G.scr):= by
  intro E μ h H d v Q s r1 o
  unfold z9n at o
  cases e : seqD G.scr d h with
  | none => rw [e] at o; exact o.elim
  | some ys =>
    rw [e] at o
    obtain ⟨a,ws,rfl,hs,r2⟩ := z7u s r1 e
    exact ⟨a,ws,rfl,hs,fun l hl => z3g s r2 hl o⟩
theorem z44 (hc : X.calm = true) (hg : Gl X "max") (hm : X.mg "max" = none) (ha : SndA X G E (e :: es) mas)
    (he : starEach (e :: es) X.env = (false,eval e X.env) :: starEach es X.env := by rfl) (hpl : (backTo pos (starEach es X.env)).any (·.1) = false := by rfl) : Snd X G E (.Call (.Name "max" p) (e :: es) [] pos) (z05 z35 mas) :=
  z1l (zaa hc) zd3 hg hm zku ha (by decide) (by decide) he hpl
theorem z8j (hc : X.calm = true) (hg : Gl X "min") (hm : X.mg "min" = none) (ha : SndA X G E (e :: es) mas)
    (he : starEach (e :: es) X.env = (false,eval e X.env) :: starEach es X.env := by rfl) (hpl : (backTo pos (starEach es X.env)).any (·.1) = false := by rfl) : Snd X G E (.Call (.Name "min" p) (e :: es) [] pos) (z05 z63 mas) :=
  z1l (zab hc) zd4 hg hm zn8 ha (by decide) (by decide) he hpl
end
inductive Sr where
  | nx (ρ : Ev) (h : Hs) | rt (d : Dv) (h : Hs) | bk (ρ : Ev) (h : Hs) | ct (ρ : Ev) (h : Hs) | ex (c : Nat) (h : Hs) | bad
abbrev MS := Ev→Hs→Sr
def SOut (G : Cfg) (E : XK) (μ : Nat→Addr) (n : Nat) (H : Hp) (r : Sr) (D : Ends) : Prop := match r with
  | .nx ρ h' => ∀ μ' H' σ',Ext μ n H μ' h'.length H'→Sim G μ' h' H'→RelS G μ' h'.length H' ρ σ'→D.nx σ' H'
  | .bk ρ h' => ∀ μ' H' σ',Ext μ n H μ' h'.length H'→Sim G μ' h' H'→RelS G μ' h'.length H' ρ σ'→D.bk σ' H'
  | .ct ρ h' => ∀ μ' H' σ',Ext μ n H μ' h'.length H'→Sim G μ' h' H'→RelS G μ' h'.length H' ρ σ'→D.ct σ' H'
  | .rt d h' => ∀ μ' H' v,Ext μ n H μ' h'.length H'→Sim G μ' h' H'→RelD G μ' h'.length H' d v→D.rt v H'
  | .ex c h' => ∀ μ' H' u,Ext μ n H μ' h'.length H'→Sim G μ' h' H'→FlyE G H' c u→E u none H'
  | .bad => False
theorem SOut.ext {G : Cfg} {E : XK} {μ μ1 : Nat→Addr} {n n1 : Nat} {H H1 : Hp} {r : Sr} {D : Ends} (o : SOut G E μ n H r D) (x : Ext μ n H μ1 n1 H1) : SOut G E μ1 n1 H1 r D:= by
  cases r with
  | nx ρ h' => exact fun μ' H' σ' y => o μ' H' σ' (x.trans y)
  | bk ρ h' => exact fun μ' H' σ' y => o μ' H' σ' (x.trans y)
  | ct ρ h' => exact fun μ' H' σ' y => o μ' H' σ' (x.trans y)
  | rt d h' => exact fun μ' H' σ' y => o μ' H' σ' (x.trans y)
  | ex c h' => exact fun μ' H' σ' y => o μ' H' σ' (x.trans y)
  | bad => exact o
def tsOf (G : Cfg) (E : XK) (m : MS) : TS:= fun D σ H => ∃ μ ρ h,RelS G μ h.length H ρ σ∧Sim G μ h H∧SOut G E μ h.length H (m ρ h) D
def SndS (X : Cx) (G : Cfg) (E : XK) (st : Stmt) (m : MS) : Prop := X.K = G.K→PS X st (tsOf G E m)
def z3w (X : Cx) (G : Cfg) (E : XK) (st : List Stmt) (m : MS) : Prop := X.K = G.K→PSs X st (tsOf G E m)
theorem PS.imp {X : Cx} {e : Stmt} {t t' : TS} (h : PS X e t) (i : ∀ D σ H,t' D σ H→t D σ H) : PS X e t':= fun pins s σ H D I q => h pins s σ H D I (i D σ H q)
theorem PSs.imp {X : Cx} {e : List Stmt} {t t' : TS} (h : PSs X e t) (i : ∀ D σ H,t' D σ H→t D σ H) : PSs X e t':= fun pins s σ H D I q => h pins s σ H D I (i D σ H q)
def Rs.thenS {α : Type} (r : Rs α) (f : α→Hs→Sr) : Sr := match r with
  | .ok a h => f a h
  | .ex c h => .ex c h
  | .bad => .bad
@[simp] theorem Rs.thenS_ok {α : Type} (a : α) (h : Hs) (f : α→Hs→Sr) : (Rs.ok a h).thenS f = f a h := rfl
@[simp] theorem Rs.thenS_ex {α : Type} (c : Nat) (h : Hs) (f : α→Hs→Sr) : (Rs.ex c h).thenS f = .ex c h := rfl
@[simp] theorem Rs.thenS_bad {α : Type} (f : α→Hs→Sr) : (Rs.bad).thenS f = .bad := rfl
theorem SOut.thenS {α β : Type} {G : Cfg} {E : XK} {μ : Nat→Addr} {n : Nat} {H : Hp} {r : Rs α} {f : α→Hs→Sr} {D : Ends} {R : (Nat→Addr)→Nat→Hp→α→β→Prop}
    (o : SOut G E μ n H (r.thenS f) D) : Out G E μ n H r R fun v H1 => ∃ μ1 d h1,Ext μ n H μ1 h1.length H1∧Sim G μ1 h1 H1∧R μ1 h1.length H1 d v∧SOut G E μ1 h1.length H1 (f d h1) D:= by
  cases r with
  | bad => exact o
  | ex c h' => exact o
  | ok d h' => exact fun μ1 H1 v x1 s1 r1 => ⟨μ1,d,h',x1,s1,r1,SOut.ext o x1⟩
section
variable {X : Cx} {G : Cfg} {E : XK} {st : Stmt} {rest : List Stmt} {m u : MS} {e : Expr} {me : M Dv} {pos : Pos}
theorem z1s {m : M Dv} {σ : St} {H : Hp} {f : Dv→Hs→Sr} {D : Ends} {Q1 : V→Hp→Prop} {μ : Nat→Addr} {ρ : Ev} {h : Hs} (rs : RelS G μ h.length H ρ σ) (s : Sim G μ h H) (o : SOut G E μ h.length H ((m ρ h).thenS f) D)
    (k : ∀ μ1 d h1 v H1,Ext μ h.length H μ1 h1.length H1→RelS G μ1 h1.length H1 ρ σ→Sim G μ1 h1 H1→RelD G μ1 h1.length H1 d v→SOut G E μ1 h1.length H1 (f d h1) D→Q1 v H1) : tOf G E m σ H Q1 :=
  ⟨μ,ρ,h,rs,s,(o.thenS (R := RelD G)).mono fun v H1 ⟨μ1,d,h1,x,s1,r1,o1⟩ => k μ1 d h1 v H1 x (rs.mono x) s1 r1 o1⟩
theorem z5j {m : M Bool} {σ : St} {H : Hp} {f : Bool→Hs→Sr} {D : Ends} {Q1 : Bool→Hp→Prop} {μ : Nat→Addr} {ρ : Ev} {h : Hs} (rs : RelS G μ h.length H ρ σ) (s : Sim G μ h H) (o : SOut G E μ h.length H ((m ρ h).thenS f) D)
    (k : ∀ μ1 b h1 H1,Ext μ h.length H μ1 h1.length H1→RelS G μ1 h1.length H1 ρ σ→Sim G μ1 h1 H1→SOut G E μ1 h1.length H1 (f b h1) D→Q1 b H1) : ttOf G E m σ H Q1 :=
  ⟨μ,ρ,h,rs,s,(o.thenS (R := RB)).mono fun v H1 ⟨μ1,d,h1,x,s1,r1,o1⟩ => by
    have e : v = d := r1
    subst e
    exact k μ1 v h1 H1 x (rs.mono x) s1 o1⟩
def z0p : MS:= fun ρ h => .nx ρ h
def mSeq (m u : MS) : MS:= fun ρ h => match m ρ h with
  | .nx ρ1 h1 => u ρ1 h1
  | r => r
theorem z15 : z3w X G E [] z0p:= fun _ => PSs.imp zgb fun D σ H ⟨μ,ρ,h,rs,s,o⟩ => o μ H σ Ext.refl s rs
theorem z0a (h1 : SndS X G E st m) (h2 : z3w X G E rest u) : z3w X G E (st :: rest) (mSeq m u):= fun hK => PSs.imp (zcr (h1 hK) (h2 hK)) fun D σ H ⟨μ,ρ,h,rs,s,o⟩ => by
  refine ⟨μ,ρ,h,rs,s, ?_⟩
  unfold mSeq at o
  cases q : m ρ h with
  | nx ρ1 h1 =>
    rw [q] at o
    exact fun μ1 H1 σ1 x1 s1 rs1 => ⟨μ1,ρ1,h1,rs1,s1,SOut.ext o x1⟩
  | bk ρ1 h1 => rw [q] at o; exact o
  | ct ρ1 h1 => rw [q] at o; exact o
  | rt ρ1 h1 => rw [q] at o; exact o
  | ex ρ1 h1 => rw [q] at o; exact o
  | bad => rw [q] at o; exact o
theorem z0d (h1 : SndS X G E st m) : z3w X G E [st] m:= fun hK => za4 (h1 hK)
def z1m (me : M Dv) : MS:= fun ρ h => (me ρ h).thenS fun _ h1 => .nx ρ h1
theorem z2h (he : Snd X G E e me) (hs : swapsWith e none pos.line X.env = pure false := by rfl) : SndS X G E (.Expr e pos) (z1m me):= fun hK => PS.imp (zgc (he hK) hs) fun D σ H ⟨μ,ρ,h,rs,s,o⟩ =>
  z1s rs s o fun μ1 d h1 v H1 x1 rs1 s1 r1 o1 => o1 μ1 H1 σ Ext.refl s1 rs1
def mRet (me : M Dv) : MS:= fun ρ h => (me ρ h).thenS fun d h1 => .rt d h1
theorem z0q (he : Snd X G E e me) : SndS X G E (.Return (some e) pos) (mRet me):= fun hK => PS.imp (zju (he hK)) fun D σ H ⟨μ,ρ,h,rs,s,o⟩ =>
  z1s rs s o fun μ1 d h1 v H1 x1 rs1 s1 r1 o1 => o1 μ1 H1 v Ext.refl s1 r1
def mIf (c : M Bool) (t u : MS) : MS:= fun ρ h => (c ρ h).thenS fun b h1 => if b = true then t ρ h1 else u ρ h1
theorem z1o {c : Expr} {a b : List Stmt} {mc : M Bool} (hc : SndT X G E c mc) (ha : z3w X G E a m) (hb : z3w X G E b u) : SndS X G E (.If c a b pos) (mIf mc m u):= fun hK => PS.imp (zmv (hc hK) (ha hK) (hb hK)) fun D σ H ⟨μ,ρ,h,rs,s,o⟩ =>
  z5j rs s o fun μ1 k h1 H1 x1 rs1 s1 o1 => by
    cases k with
    | true => rw [if_pos rfl] at o1 ⊢; exact ⟨μ1,ρ,h1,rs1,s1,o1⟩
    | false => rw [if_neg (by decide)] at o1 ⊢; exact ⟨μ1,ρ,h1,rs1,s1,o1⟩
theorem RelS.set {μ : Nat→Addr} {n : Nat} {H : Hp} {ρ : Ev} {σ : St} {d : Dv} {v : V} (rs : RelS G μ n H ρ σ) (i : Nat) (r : RelD G μ n H d v) : RelS G μ n H (ρ.set i (some d)) (σ.set i (some v)) := ⟨by rw [List.length_set,List.length_set]; exact rs.len,fun j d' e => by
  have hl := rs.len
  by_cases hij : i = j
  · subst hij
    have hi : i < ρ.length:= by
      have := (List.getElem?_eq_some_iff.mp e).1
      simpa using this
    rw [List.getElem?_set_self hi] at e
    cases e
    exact ⟨v,List.getElem?_set_self (by omega),r⟩
  · rw [List.getElem?_set_ne hij] at e ⊢
    exact rs.at_ j d' e⟩
abbrev Tgt := Dv→Ev→Option Ev
def tgOf (G : Cfg) (st : Tgt) : TG:= fun v σ H Q => ∃ μ ρ h d ρ',RelS G μ h H ρ σ∧RelD G μ h H d v∧st d ρ = some ρ'∧∀ σ',RelS G μ h H ρ' σ'→Q σ' H
def SndG (X : Cx) (G : Cfg) (tg : Expr) (st : Tgt) : Prop := X.K = G.K→PG X tg (tgOf G st)
theorem PG.imp {tg : Expr} {t t' : TG} (h : PG X tg t) (i : ∀ v σ H Q,t' v σ H Q→t v σ H Q) : PG X tg t':= fun pins s σ H v u Q I r q => h pins s σ H v u Q I r (i v σ H Q q)
theorem PGs.imp {tg : List Expr} {t t' : TGs} (h : PGs X tg t) (i : ∀ v σ H Q,t' v σ H Q→t v σ H Q) : PGs X tg t':= fun pins s σ H v u Q I r q => h pins s σ H v u Q I r (i v σ H Q q)
def z06 (i : Nat) : Tgt:= fun d ρ => some (ρ.set i (some d))
theorem z0r {i : Nat} {x : Str} (hN : X.N.Nodup) (hi : X.N[i]? = some x) (hx : Loc X.env.scope x) (hf : X.fn x = true ∨ X.env.scope.names.lookup x = some .local := by first | exact .inl rfl | exact .inr rfl | assumption) : SndG X G (.Name x pos) (z06 i):= fun _ =>
  PG.imp (zge hN hi hx hf) fun v σ H Q ⟨μ,ρ,h,d,ρ',rs,r,e,k⟩ => by
    cases e
    exact k _ (rs.set i r)
abbrev Tgts := List Dv→Ev→Option Ev
def zna (G : Cfg) (st : Tgts) : TGs:= fun vs σ H Q => ∃ μ ρ h ds ρ',RelS G μ h H ρ σ∧RelDL G μ h H ds vs∧st ds ρ = some ρ'∧∀ σ',RelS G μ h H ρ' σ'→Q σ' H
def zd6 (X : Cx) (G : Cfg) (tg : List Expr) (st : Tgts) : Prop := X.K = G.K→PGs X tg (zna G st)
def sNil : Tgts:= fun ds ρ => match ds with
  | [] => some ρ
  | _ => none
def z1e (s : Tgt) (t : Tgts) : Tgts:= fun ds ρ => match ds with
  | d :: r => match s d ρ with
    | some ρ1 => t r ρ1
    | none => none
  | [] => none
theorem z4k : zd6 X G [] sNil:= fun _ => PGs.imp zgf fun vs σ H Q ⟨μ,ρ,h,ds,ρ',rs,r,e,k⟩ => by
  cases ds with
  | nil => cases e; rw [RelDL] at r; subst r; exact ⟨rfl,k _ rs⟩
  | cons d r => cases e
theorem z1j {tg : Expr} {tgs : List Expr} {s : Tgt} {t : Tgts} (h1 : SndG X G tg s) (h2 : zd6 X G tgs t)
    (hs : (assignEach (tg :: tgs) X.env).map (·.2) = assign tg X.env :: (assignEach tgs X.env).map (·.2) := by rfl) : zd6 X G (tg :: tgs) (z1e s t):= fun hK => PGs.imp (zcs (h1 hK) (h2 hK) hs) fun vs σ H Q ⟨μ,ρ,h,ds,ρ',rs,r,e,k⟩ => by
  cases ds with
  | nil => cases e
  | cons d ds =>
    rw [RelDL] at r
    obtain ⟨v,rr,rfl,r1,r2⟩ := r
    unfold z1e at e
    dsimp only at e
    cases q : s d ρ with
    | none => rw [q] at e; cases e
    | some ρ1 =>
      rw [q] at e
      exact ⟨v,rr,rfl,μ,ρ,h,d,ρ1,rs,r1,q,fun σ1 rs1 => ⟨μ,ρ1,h,ds,ρ',rs1,r2,e,k⟩⟩
def sTup (n : Nat) (t : Tgts) : Tgt:= fun d ρ => match d with
  | .tup ds => if ds.length = n then t ds ρ else none
  | _ => none
theorem z6z {tgs : List Expr} {k : Nat} {t : Tgts} {n : Nat} (hc : X.calm = true) (h : zd6 X G tgs t)
    (hn : (assignEach tgs X.env).length = n := by rfl) (hst : (assignEach tgs X.env).findIdx? (·.1) = none := by rfl) : SndG X G (.Tuple tgs k pos) (sTup n t):= fun hK =>
  PG.imp (zjv hc (h hK) hn hst) fun v σ H Q ⟨μ,ρ,hh,d,ρ',rs,r,e,kk⟩ => by
    cases d with
    | tup ds =>
      dsimp only [sTup] at e
      split at e
      · rename_i hl
        obtain ⟨a,vs,rfl,e1,r1⟩ := r
        exact ⟨a,vs,rfl,SqT.of e1,by rw [r1.length]; exact hl,μ,ρ,hh,ds,ρ',rs,r1,e,kk⟩
      · cases e
    | _ => cases e
def mAsg (me : M Dv) (st : Tgt) : MS:= fun ρ h => (me ρ h).thenS fun d h1 => match st d ρ with
  | some ρ1 => .nx ρ1 h1
  | none => .bad
theorem z0t {i : Nat} {x : Str} {pos' : Pos} (hN : X.N.Nodup) (hi : X.N[i]? = some x) (hx : Loc X.env.scope x) (he : Snd X G E e me) (hs : swapsWith e (some (.Name x pos')) pos.line X.env = pure false := by rfl) (hf : X.fn x = true ∨ X.env.scope.names.lookup x = some .local := by first | exact .inl rfl | exact .inr rfl | assumption) :
    SndS X G E (.Assign [.Name x pos'] e pos) (mAsg me (z06 i)):= fun hK => PS.imp (za5 hN hi hx (he hK) hs hf) fun D σ H t => by
  obtain ⟨μ,ρ,h,rs,s,o⟩ := t
  exact z1s rs s o fun μ1 d h1 v H1 x1 rs1 s1 r1 o1 => o1 μ1 H1 _ Ext.refl s1 (rs1.set i r1)
end
structure Src where
  n : Nat
  get : Nat→Hs→Option Dv
  fin : Hs→Bool
def ItOk (G : Cfg) (μ0 : Nat→Addr) (n0 : Nat) (H0 : Hp) (src : Src) (J : It) : Prop :=
  ∀ (k : Nat) (μ : Nat→Addr) (h : Hs) (H : Hp),Ext μ0 n0 H0 μ h.length H→Sim G μ h H →
    (k < src.n→∀ d,src.get k h = some d→J.go k H∧∀ x H',J.yld k H x H'→Same H H'∧RelD G μ h.length H' d x)∧(k = src.n→src.fin h = true→J.stop k H)
def tiOf (G : Cfg) (E : XK) (m : M Src) : TI:= fun σ H R => ∃ μ ρ h,RelS G μ h.length H ρ σ∧Sim G μ h H∧Out G E μ h.length H (m ρ h) (ItOk G) R
def SndI (X : Cx) (G : Cfg) (E : XK) (tg iter : Expr) (m : M Src) : Prop := X.K = G.K→PI X tg iter (tiOf G E m)
theorem PI.imp {X : Cx} {tg iter : Expr} {t t' : TI} (h : PI X tg iter t) (i : ∀ σ H R,t' σ H R→t σ H R) : PI X tg iter t':= fun pins s σ H R I q => h pins s σ H R I (i σ H R q)
def srcL (xs : List Dv) : Src := ⟨xs.length,fun k _ => xs[k]?,fun _ => true⟩
def srcR (i n : Nat) : Src := ⟨n,fun k h => match getL h i with
  | some xs => if xs.length = n then xs[k]? else none
  | none => none,fun h => match getL h i with
  | some xs => xs.length == n
  | none => false⟩
def z0m (lo hi : Int) : Src := ⟨(hi - lo).toNat,fun k _ => some (.int (lo + k)),fun _ => true⟩
def m1s (f : Dv→Hs→Rs Src) (m : M Dv) : M Src:= fun ρ h => (m ρ h).bind f
section
variable {X : Cx} {G : Cfg} {E : XK} {tg e a b : Expr} {me ma mb : M Dv} {pos p : Pos}
def lstD : Dv→Hs→Rs Src
  | .ref i,h => match getL h i with
    | some xs => .ok (srcR i xs.length) h
    | none => .bad
  | _,_ => .bad
def tupS : Dv→Hs→Rs Src
  | .tup xs,h => .ok (srcL xs) h
  | _,_ => .bad
theorem z2x (he : Snd X G E e me) : SndI X G E tg e (m1s lstD me):= fun hK => PI.imp (zgh (he hK)) fun σ H R ⟨μ,ρ,h,rs,s,o⟩ => z0u rs s o fun μ1 x h1 vx H1 x1 rs1 s1 r1 o1 => by
  rw [hK]
  cases x with
  | ref i =>
    obtain ⟨hi,rfl⟩ := r1
    dsimp only [lstD] at o1
    cases g : getL h1 i with
    | none => rw [g] at o1; exact o1.elim
    | some xs =>
      rw [g] at o1
      obtain ⟨vs,e1,r2⟩ := s1.ob i _ (z0h g)
      refine ⟨_,rfl,⟨vs,SqL.of e1⟩,o1.val s1 fun k μ2 h2 H2 x2 s2 => ?_⟩
      have emu := x2.mu i hi
      constructor
      · intro hk d hd
        dsimp only [srcR] at hd
        cases g2 : getL h2 i with
        | none => rw [g2] at hd; cases hd
        | some ys =>
          rw [g2] at hd
          dsimp only at hd
          split at hd
          · obtain ⟨ws,e2,r3⟩ := s2.ob i _ (z0h g2)
            rw [emu] at e2
            obtain ⟨v,ev,rv⟩ := r3.get hd
            refine ⟨⟨ws,v,SqL.of e2,ev⟩,fun x H' hy => ?_⟩
            obtain ⟨rfl,hy⟩ := hy
            have := hy ws (SqL.of e2)
            rw [ev] at this; cases this
            exact ⟨Same.refl _,rv⟩
          · cases hd
      · intro hk hf
        dsimp only [srcR] at hf
        cases g2 : getL h2 i with
        | none => rw [g2] at hf; cases hf
        | some ys =>
          rw [g2] at hf
          obtain ⟨ws,e2,r3⟩ := s2.ob i _ (z0h g2)
          rw [emu] at e2
          refine ⟨ws,SqL.of e2, ?_⟩
          have h3 : ys.length = xs.length := by simpa using hf
          rw [r3.length,h3,hk]; exact Nat.le_refl _
  | _ => exact o1.elim
theorem ItOk.tup {μ : Nat→Addr} {n : Nat} {H : Hp} {a : Addr} {vs : List V} {xs : List Dv} {K : PySem.W.Frag} (e : H a = some (.tup vs)) (r : RelDL G μ n H xs vs) (hi : ∀ (X : Cx),True) : ItOk G μ n H (srcL xs) (Itt K a):= by
  intro k μ2 h2 H2 x2 s2
  have e2 := x2.im a (.tup vs) trivial e
  have r2 := RelDL.mono x2 _ _ r
  have inj : ∀ ws,SqT K H2 a ws→ws = vs→True:= fun _ _ _ => trivial
  constructor
  · intro hk d hd
    obtain ⟨v,ev,rv⟩ := r2.get hd
    refine ⟨⟨vs,v,SqT.of e2,ev⟩,fun x H' hy => ?_⟩
    obtain ⟨rfl,hy⟩ := hy
    have := hy vs (SqT.of e2)
    rw [ev] at this; cases this
    exact ⟨Same.refl _,rv⟩
  · intro hk _
    exact ⟨vs,SqT.of e2,by rw [r2.length,hk]; exact Nat.le_refl _⟩
theorem zfh (he : Snd X G E e me) : SndI X G E tg e (m1s tupS me):= fun hK => PI.imp (zjz (he hK)) fun σ H R ⟨μ,ρ,h,rs,s,o⟩ => z0u rs s o fun μ1 x h1 vx H1 x1 rs1 s1 r1 o1 => by
  cases x with
  | tup xs =>
    obtain ⟨a,vs,rfl,e1,r2⟩ := r1
    exact ⟨a,rfl,⟨vs,SqT.of e1⟩,o1.val s1 (ItOk.tup e1 r2 fun _ => trivial)⟩
  | _ => exact o1.elim
def inR (i : Int) : Bool := decide (-4611686018427387904 ≤ i) && decide (i < 4611686018427387904)
def z0w : List Dv→Hs→Rs Src
  | [.int j],h => if inR j = true then .ok (z0m 0 j) h else .bad
  | _,_ => .bad
def z64 : List Dv→Hs→Rs Src
  | [.int i,.int j],h => if inR i = true∧inR j = true then .ok (z0m i j) h else .bad
  | _,_ => .bad
def mas (f : List Dv→Hs→Rs Src) (ms : M (List Dv)) : M Src:= fun ρ h => (ms ρ h).bind f
theorem ItOk.rng {μ : Nat→Addr} {n : Nat} {H : Hp} (lo hi : Int) : ItOk G μ n H (z0m lo hi) (Itr lo (hi - lo).toNat):= by
  intro k μ2 h2 H2 x2 s2
  constructor
  · intro hk d hd
    cases hd
    exact ⟨hk,fun x H' hy => by obtain ⟨rfl,rfl⟩ := hy; exact ⟨Same.refl _,rfl⟩⟩
  · intro hk _
    exact Nat.le_of_eq hk.symm
variable {ms : M (List Dv)}
theorem z11 (hg : Gl X "range") (hm : X.mg "range" = none) (ha : SndA X G E [a] ms) (hs : starEach [a] X.env = [(false,eval a X.env)] := by rfl) : SndI X G E tg (.Call (.Name "range" p) [a] [] pos) (mas z0w ms):= fun hK =>
  PI.imp (za7 hg hm (ha hK) hs) fun σ H R ⟨μ,ρ,h,rs,s,o⟩ => z1k rs s o fun μ1 ds h1 vs H1 x1 rs1 s1 r1 o1 => by
    unfold z0w at o1
    split at o1
    · rename_i j
      split at o1
      · rename_i hj
        obtain ⟨v,rfl,rv⟩ := z4i r1
        rw [RelD] at rv; subst rv
        simp only [inR,Bool.and_eq_true,decide_eq_true_eq] at hj
        refine ⟨j,rfl,by omega,by omega, ?_⟩
        have := o1.val s1 (ItOk.rng (G := G) (μ := μ1) (n := h1.length) (H := H1) 0 j)
        rw [Int.sub_zero] at this
        exact this
      · exact o1.elim
    · exact o1.elim
theorem zau (hg : Gl X "range") (hm : X.mg "range" = none) (ha : SndA X G E [a,b] ms) (hs : starEach [a,b] X.env = [(false,eval a X.env),(false,eval b X.env)] := by rfl) (hs2 : starEach [b] X.env = [(false,eval b X.env)] := by rfl) : SndI X G E tg (.Call (.Name "range" p) [a,b] [] pos) (mas z64 ms):= fun hK =>
  PI.imp (za8 hg hm (ha hK) hs hs2) fun σ H R ⟨μ,ρ,h,rs,s,o⟩ => z1k rs s o fun μ1 ds h1 vs H1 x1 rs1 s1 r1 o1 => by
    unfold z64 at o1
    split at o1
    · rename_i i j
      split at o1
      · rename_i hj
        obtain ⟨v,v',rfl,rv,rv'⟩ := z4j r1
        rw [RelD] at rv rv'; subst rv; subst rv'
        simp only [inR,Bool.and_eq_true,decide_eq_true_eq] at hj
        exact ⟨i,j,rfl,⟨by omega,by omega,by omega,by omega⟩,o1.val s1 (ItOk.rng (G := G) (μ := μ1) (n := h1.length) (H := H1) i j)⟩
      · exact o1.elim
    · exact o1.elim
end
def forM (src : Src) (st : Tgt) (body : MS) : Nat→Nat→MS
  | 0,_ => fun ρ h => if src.fin h = true then .nx ρ h else .bad
  | f + 1,k => fun ρ h => match src.get k h with
    | none => .bad
    | some d => match st d ρ with
      | none => .bad
      | some ρ1 => match body ρ1 h with
        | .nx ρ2 h2 => forM src st body f (k + 1) ρ2 h2
        | .ct ρ2 h2 => forM src st body f (k + 1) ρ2 h2
        | .bk ρ2 h2 => .nx ρ2 h2
        | r => r
def mFor (mi : M Src) (st : Tgt) (body : MS) : MS:= fun ρ h => (mi ρ h).thenS fun src h1 => forM src st body src.n 0 ρ h1
section
variable {X : Cx} {G : Cfg} {E : XK} {tg iter : Expr} {body : List Stmt} {mi : M Src} {st : Tgt} {mb : MS} {pos : Pos}
theorem z1h (hp : PassesOwn (model X.prog X.w) X.A X.env X.xe) (hc : X.calm = true) (hi : SndI X G E tg iter mi) (hg : SndG X G tg st) (hb : z3w X G E body mb)
    (hs : ∀ x,foldedSetIterable iter X.env x = pure x := by intro _; rfl) : SndS X G E (.For tg iter body [] pos) (mFor mi st mb):= fun hK => PS.imp (zk0 hp hc (hi hK) (hg hK) (hb hK) hs) fun D σ H ⟨μ,ρ,h,rs,s,o⟩ => by
  refine ⟨μ,ρ,h,rs,s,(o.thenS (R := ItOk G)).mono fun J H1 ⟨μ1,src,h1,x1,s1,ok,o1⟩ => ?_⟩
  refine ⟨fun i m σ H => ∃ μ2 ρ2 h2,Ext μ1 h1.length H1 μ2 h2.length H∧RelS G μ2 h2.length H ρ2 σ∧Sim G μ2 h2 H∧i + m = src.n∧SOut G E μ2 h2.length H (forM src st mb m i ρ2 h2) D,⟨src.n,μ1,ρ,h1,Ext.refl,rs.mono x1,s1,Nat.zero_add _,o1⟩, ?_⟩
  rintro i m σ2 H2 ⟨μ2,ρ2,h2,x2,rs2,s2,him,o2⟩
  cases m with
  | zero =>
    unfold forM at o2
    split at o2
    · rename_i hf
      exact .inl ⟨(ok i μ2 h2 H2 x2 s2).2 (by omega) hf,o2 μ2 H2 σ2 Ext.refl s2 rs2⟩
    · exact o2.elim
  | succ m =>
    unfold forM at o2
    cases q : src.get i h2 with
    | none => rw [q] at o2; exact o2.elim
    | some d =>
      rw [q] at o2
      dsimp only at o2
      cases q2 : st d ρ2 with
      | none => rw [q2] at o2; exact o2.elim
      | some ρ3 =>
        rw [q2] at o2
        dsimp only at o2
        obtain ⟨go,yl⟩ := (ok i μ2 h2 H2 x2 s2).1 (by omega) d q
        refine .inr ⟨go,fun σ' H' => ∃ μ3 ρ4 h4,Ext μ1 h1.length H1 μ3 h4.length H'∧RelS G μ3 h4.length H' ρ4 σ'∧Sim G μ3 h4 H'∧(i + 1) + m = src.n∧SOut G E μ3 h4.length H' (forM src st mb m (i + 1) ρ4 h4) D,fun σ' H' z => ⟨m,Nat.lt_succ_self m,z⟩,fun x H' hy => ?_⟩
        obtain ⟨sm,rx⟩ := yl x H' hy
        have xs : Ext μ2 h2.length H2 μ2 h2.length H' := Ext.same sm
        refine ⟨μ2,ρ2,h2.length,d,ρ3,rs2.mono xs,rx,q2,fun σ3 rs3 => ⟨μ2,ρ3,h2,rs3,s2.same sm, ?_⟩⟩
        have step : ∀ ρ5 h5,SOut G E μ2 h2.length H2 (forM src st mb m (i + 1) ρ5 h5) D→∀ μ6 H6 σ6,Ext μ2 h2.length H' μ6 h5.length H6→Sim G μ6 h5 H6→RelS G μ6 h5.length H6 ρ5 σ6 →
            ∃ μ3 ρ4 h4,Ext μ1 h1.length H1 μ3 h4.length H6∧RelS G μ3 h4.length H6 ρ4 σ6∧Sim G μ3 h4 H6∧(i + 1) + m = src.n∧SOut G E μ3 h4.length H6 (forM src st mb m (i + 1) ρ4 h4) D :=
          fun ρ5 h5 o5 μ6 H6 σ6 x6 s6 rs6 => ⟨μ6,ρ5,h5,(x2.trans xs).trans x6,rs6,s6,by omega,o5.ext (xs.trans x6)⟩
        cases q3 : mb ρ3 h2 with
        | nx ρ5 h5 => rw [q3] at o2; exact step ρ5 h5 o2
        | ct ρ5 h5 => rw [q3] at o2; exact step ρ5 h5 o2
        | bk ρ5 h5 => rw [q3] at o2; exact fun μ6 H6 σ6 x6 s6 rs6 => o2 μ6 H6 σ6 (xs.trans x6) s6 rs6
        | rt d5 h5 => rw [q3] at o2; exact fun μ6 H6 σ6 x6 s6 rs6 => o2 μ6 H6 σ6 (xs.trans x6) s6 rs6
        | ex d5 h5 => rw [q3] at o2; exact fun μ6 H6 σ6 x6 s6 rs6 => o2 μ6 H6 σ6 (xs.trans x6) s6 rs6
        | bad => rw [q3] at o2; exact o2.elim
end
abbrev MC := Ev→Hs→List Dv→Rs (Ev × List Dv)
def z1t (me : M Dv) : MC:= fun ρ h acc => match me ρ h with
  | .ok d h1 => if acc.length < 1000000 then .ok (ρ,acc ++ [d]) h1 else .bad
  | _ => .bad
def z1v (src : Src) (st : Tgt) (test : M Bool) (inner : MC) : Nat→Nat→MC
  | 0,_ => fun ρ h acc => if src.fin h = true then .ok (ρ,acc) h else .bad
  | f + 1,k => fun ρ h acc => match src.get k h with
    | none => .bad
    | some d => match st d ρ with
      | none => .bad
      | some ρ1 => match test ρ1 h with
        | .ok true h2 => match inner ρ1 h2 acc with
          | .ok r h3 => z1v src st test inner f (k + 1) r.1 h3 r.2
          | _ => .bad
        | .ok false h2 => z1v src st test inner f (k + 1) ρ1 h2 acc
        | _ => .bad
def z4l : M Bool:= fun _ h => .ok true h
def z2q (cap : List (Option Nat)) (ρ : Ev) : Ev := cap.map fun o => match o with
  | some j => (ρ[j]?).getD none
  | none => none
def z27 (mi : M Src) (cap : List (Option Nat)) (st : Tgt) (test : M Bool) (inner : MC) : M (List Dv):= fun ρ h => (mi ρ h).bind fun src h1 => match z1v src st test inner src.n 0 (z2q cap ρ) h1 [] with
  | .ok r h2 => .ok r.2 h2
  | _ => .bad
def tcOf (G : Cfg) (m : MC) : TC:= fun σ H vs K => ∃ μ ρ h xs ρ' xs' h',RelS G μ h.length H ρ σ∧Sim G μ h H∧RelDL G μ h.length H xs vs∧m ρ h xs = .ok (ρ',xs') h' ∧
  ∀ μ' H' σ' vs',Ext μ h.length H μ' h'.length H'→Sim G μ' h' H'→RelS G μ' h'.length H' ρ' σ'→RelDL G μ' h'.length H' xs' vs'→K σ' H' vs'
section
variable {G : Cfg}
theorem zd7 {μ : Nat→Addr} {n : Nat} {H : Hp} {ρ : Ev} {σ : St} (rs : RelS G μ n H ρ σ) (cap : List (Option Nat)) : RelS G μ n H (z2q cap ρ) (z9l cap σ) := ⟨by simp [z2q,z9l],fun i d e => by
  unfold z2q at e
  rw [List.getElem?_map] at e
  cases q : cap[i]? with
  | none => rw [q] at e; cases e
  | some o =>
    rw [q] at e
    cases o with
    | none => cases e
    | some j =>
      have e' : (ρ[j]?).getD none = some d := by simpa using e
      have e2 : ρ[j]? = some (some d):= by
        cases z : ρ[j]? with
        | none => rw [z] at e'; cases e'
        | some y => rw [z] at e'; simp at e'; rw [e']
      obtain ⟨v,e3,r⟩ := rs.at_ j d e2
      refine ⟨v, ?_,r⟩
      unfold z9l
      rw [List.getElem?_map,q]
      simp [e3]⟩
theorem zav {E : XK} {me : M Dv} {σ : St} {H : Hp} {vs : List V} {K : St→Hp→List V→Prop} (t : tcOf G (z1t me) σ H vs K) : zkn (tOf G E me) σ H vs K:= by
  obtain ⟨μ,ρ,h,xs,ρ',xs',h',rs,s,r,e,k⟩ := t
  refine ⟨μ,ρ,h,rs,s, ?_⟩
  unfold z1t at e
  cases q : me ρ h with
  | bad => rw [q] at e; cases e
  | ex c h1 => rw [q] at e; cases e
  | ok d h1 =>
    rw [q] at e
    dsimp only at e
    split at e
    · rename_i hl
      cases e
      intro μ1 H1 v x1 s1 r1
      refine ⟨?_,k μ1 H1 σ _ x1 s1 (rs.mono x1) ((RelDL.mono x1 _ _ r).append (RelDL.cons r1 RelDL.nil))⟩
      rw [r.length]
      exact Nat.lt_of_lt_of_le hl (by decide)
    · cases e
theorem zhc {E : XK} {src : Src} {st : Tgt} {test : M Bool} {inner : MC} {J : It} {μ1 : Nat→Addr} {h1 : Hs} {H1 : Hp} {ρ ρ' : Ev} {σ : St} {xs xs' : List Dv} {vs : List V} {h' : Hs} {K : St→Hp→List V→Prop}
    (ok : ItOk G μ1 h1.length H1 src J) (rs : RelS G μ1 h1.length H1 ρ σ) (s1 : Sim G μ1 h1 H1) (r : RelDL G μ1 h1.length H1 xs vs) (e : z1v src st test inner src.n 0 ρ h1 xs = .ok (ρ',xs') h')
    (k : ∀ μ' H' σ' vs',Ext μ1 h1.length H1 μ' h'.length H'→Sim G μ' h' H'→RelS G μ' h'.length H' ρ' σ'→RelDL G μ' h'.length H' xs' vs'→K σ' H' vs') :
    z8i J (tgOf G st) (ttOf G E test) (tcOf G inner) K σ H1 vs:= by
  refine ⟨fun i m σ H vs => ∃ μ2 ρ2 h2 xs2,Ext μ1 h1.length H1 μ2 h2.length H∧RelS G μ2 h2.length H ρ2 σ∧Sim G μ2 h2 H∧RelDL G μ2 h2.length H xs2 vs∧i + m = src.n∧z1v src st test inner m i ρ2 h2 xs2 = .ok (ρ',xs') h',⟨src.n,μ1,ρ,h1,xs,Ext.refl,rs,s1,r,Nat.zero_add _,e⟩, ?_⟩
  rintro i m σ2 H2 vs2 ⟨μ2,ρ2,h2,xs2,x2,rs2,s2,r2,him,e2⟩
  cases m with
  | zero =>
    unfold z1v at e2
    split at e2
    · rename_i hf
      cases e2
      exact .inl ⟨(ok i μ2 _ H2 x2 s2).2 (by omega) hf,k μ2 H2 σ2 vs2 x2 s2 rs2 r2⟩
    · cases e2
  | succ m =>
    unfold z1v at e2
    cases q : src.get i h2 with
    | none => rw [q] at e2; cases e2
    | some d =>
      rw [q] at e2
      dsimp only at e2
      cases q2 : st d ρ2 with
      | none => rw [q2] at e2; cases e2
      | some ρ3 =>
        rw [q2] at e2
        dsimp only at e2
        obtain ⟨go,yl⟩ := (ok i μ2 h2 H2 x2 s2).1 (by omega) d q
        refine .inr ⟨go,fun σ' H' vs' => ∃ μ3 ρ4 h4 xs4,Ext μ1 h1.length H1 μ3 h4.length H'∧RelS G μ3 h4.length H' ρ4 σ'∧Sim G μ3 h4 H'∧RelDL G μ3 h4.length H' xs4 vs'∧(i + 1) + m = src.n∧z1v src st test inner m (i + 1) ρ4 h4 xs4 = .ok (ρ',xs') h',
          fun σ' H' vs' z => ⟨m,Nat.lt_succ_self m,z⟩,fun x H' hy => ?_⟩
        obtain ⟨sm,rx⟩ := yl x H' hy
        have xsm : Ext μ2 h2.length H2 μ2 h2.length H' := Ext.same sm
        refine ⟨μ2,ρ2,h2.length,d,ρ3,rs2.mono xsm,rx,q2,fun σ3 rs3 => ⟨μ2,ρ3,h2,rs3,s2.same sm, ?_⟩⟩
        cases q3 : test ρ3 h2 with
        | bad => rw [q3] at e2; cases e2
        | ex c h3 => rw [q3] at e2; cases e2
        | ok b h3 =>
          rw [q3] at e2
          intro μ4 H4 b' x4 s4 rb
          have eb : b' = b := rb
          subst eb
          cases b' with
          | false =>
            rw [if_neg (by decide)]
            exact ⟨μ4,ρ3,h3,xs2,(x2.trans xsm).trans x4,rs3.mono x4,s4,RelDL.mono (xsm.trans x4) _ _ r2,by omega,e2⟩
          | true =>
            rw [if_pos rfl]
            dsimp only at e2
            cases q4 : inner ρ3 h3 xs2 with
            | bad => rw [q4] at e2; cases e2
            | ex c h5 => rw [q4] at e2; cases e2
            | ok rr h5 =>
              rw [q4] at e2
              obtain ⟨ρ5,xs5⟩ := rr
              exact ⟨μ4,ρ3,h3,xs2,ρ5,xs5,h5,rs3.mono x4,s4,RelDL.mono (xsm.trans x4) _ _ r2,q4,fun μ6 H6 σ6 vs6 x6 s6 rs6 r6 => ⟨μ6,ρ5,h5,xs5,((x2.trans xsm).trans x4).trans x6,rs6,s6,r6,by omega,e2⟩⟩
def RL (G : Cfg) : (Nat→Addr)→Nat→Hp→List Dv→V→Prop:= fun μ n H xs v => ∃ p vs,v = .ref p∧H p = some (.lst vs)∧(∀ i,i < n→μ i ≠ p)∧RelDL G μ n H xs vs
def tlOf (G : Cfg) (E : XK) (m : M (List Dv)) : TE:= fun σ H Q => ∃ μ ρ h,RelS G μ h.length H ρ σ∧Sim G μ h H∧Out G E μ h.length H (m ρ h) (RL G) Q
def SndL (X : Cx) (G : Cfg) (E : XK) (pe : Expr) (m : M (List Dv)) : Prop := X.K = G.K→PE X pe (tlOf G E m)
theorem Sim.adopt {μ : Nat→Addr} {h : Hs} {H : Hp} {p : Addr} {ds : List Dv} {vs : List V} (s : Sim G μ h H) (e : H p = some (.lst vs)) (hq : ∀ i,i < h.length→μ i ≠ p) (r : RelDL G μ h.length H ds vs) :
    Ext μ h.length H (fun i => if i = h.length then p else μ i) (h ++ [Ob.lst ds]).length H∧Sim G (fun i => if i = h.length then p else μ i) (h ++ [.lst ds]) H:= by
  have hl : (h ++ [Ob.lst ds]).length = h.length + 1 := by simp
  have x : Ext μ h.length H (fun i => if i = h.length then p else μ i) (h ++ [Ob.lst ds]).length H :=
    ⟨by omega,fun i hi => if_neg (Nat.ne_of_lt hi),fun a o _ e => e⟩
  refine ⟨x,fun i j hi hj e => ?_,fun i o q => ?_,s.tab⟩
  · rw [hl] at hi hj
    by_cases h1 : i = h.length <;> by_cases h2 : j = h.length
    · omega
    · rw [if_pos h1,if_neg h2] at e; exact absurd e.symm (hq j (by omega))
    · rw [if_neg h1,if_pos h2] at e; exact absurd e (hq i (by omega))
    · rw [if_neg h1,if_neg h2] at e; exact s.inj i j (by omega) (by omega) e
  · by_cases h1 : i < h.length
    · rw [List.getElem?_append_left h1] at q
      have r1 := s.ob i o q
      cases o with
      | lst xs => obtain ⟨ws,e1,r2⟩ := r1; exact ⟨ws,by rw [if_neg (Nat.ne_of_lt h1)]; exact e1,RelDL.mono x _ _ r2⟩
    · rw [List.getElem?_append_right (by omega)] at q
      have h2 : i = h.length:= by
        have := (List.getElem?_eq_some_iff.mp q).1
        simp at this; omega
      subst h2
      simp at q; subst q
      exact ⟨vs,by rw [if_pos rfl]; exact e,RelDL.mono x _ _ r⟩
def mAl (m : M (List Dv)) : M Dv:= fun ρ h => (m ρ h).bind fun xs h1 => .ok (.ref h1.length) (h1 ++ [.lst xs])
theorem zfi {E : XK} {m : M (List Dv)} {σ : St} {H : Hp} {Q : VK} (t : tOf G E (mAl m) σ H Q) : tlOf G E m σ H Q:= by
  obtain ⟨μ,ρ,h,rs,s,o⟩ := t
  refine ⟨μ,ρ,h,rs,s,(o.bind (R1 := RL G)).mono fun v H1 ⟨μ1,xs,h1,x1,s1,⟨p,vs,ev,e1,hq,r1⟩,o1⟩ => ?_⟩
  subst ev
  obtain ⟨x2,s2⟩ := s1.adopt e1 hq r1
  exact o1 _ _ _ x2 s2 ⟨by simp,by show V.ref p = V.ref (if h1.length = h1.length then p else μ1 h1.length); rw [if_pos rfl]⟩
theorem zhd {X : Cx} {E : XK} {pe : Expr} {m : M (List Dv)} (h : SndL X G E pe m) : Snd X G E pe (mAl m):= fun hK => PE.imp (h hK) fun _ _ _ t => zfi t
theorem z8k {E E' : XK} {mi : M Src} {cap : List (Option Nat)} {st : Tgt} {test : M Bool} {inner : MC} {σ : St} {H : Hp} {Q : VK} (t : tlOf G E (z27 mi cap st test inner) σ H Q) : zgz (tiOf G E mi) cap (tgOf G st) (ttOf G E' test) (tcOf G inner) σ H Q:= by
  obtain ⟨μ,ρ,h,rs,s,o⟩ := t
  refine ⟨μ,ρ,h,rs,s,(o.bind (R1 := ItOk G)).mono fun J H1 ⟨μ1,src,h1,x1,s1,ok,o1⟩ => ?_⟩
  cases q : z1v src st test inner src.n 0 (z2q cap ρ) h1 [] with
  | bad => rw [q] at o1; exact o1.elim
  | ex c h2 => rw [q] at o1; exact o1.elim
  | ok r h2 =>
    rw [q] at o1
    obtain ⟨ρ',xs'⟩ := r
    refine zhc ok (zd7 (rs.mono x1) cap) s1 RelDL.nil q fun μ2 H2 σ2 vs2 x2 s2 rs2 r2 p hp => ?_
    exact o1 μ2 _ _ (x2.trans (Ext.same (z0k hp))) (s2.same (z0k hp)) ⟨p,vs2,rfl,z0i,s2.not hp,RelDL.mono (Ext.same (z0k hp)) _ _ r2⟩
end
section
variable {X : Cx} {G : Cfg} {E : XK} {elt tg iter tg' iter' : Expr} {ifs ifs' : List Expr} {sc : Scope} {ps pos : Pos} {mi mi' : M Src} {st st' : Tgt} {test test' : M Bool} {me : M Dv} {N : List Str} {cap : List (Option Nat)}
def zd8 (X : Cx) (G : Cfg) (ifs : List Expr) (m : M Bool) : Prop := X.K = G.K→PTs X ifs (ttOf G E0 m)
theorem PTs.imp {Y : Cx} {ifs : List Expr} {t t' : TT} (h : PTs Y ifs t) (i : ∀ σ H Q,t' σ H Q→t σ H Q) : PTs Y ifs t':= fun pins s σ H Q I q => h pins s σ H Q I (i σ H Q q)
theorem zaw {Y : Cx} : zd8 Y G [] z4l:= fun _ => PTs.imp zgx fun σ H Q ⟨μ,ρ,h,rs,s,o⟩ => o.val s rfl
theorem zfj {Y : Cx} {c : Expr} {m : M Bool} (h : SndT Y G E0 c m) : zd8 Y G [c] m:= fun hK => zgy (h hK)
theorem PCl.imp {Y : Cx} {D : Addr} {m : Sem Unit} {t t' : TC} (h : PCl Y D m t) (i : ∀ σ H xs K,t' σ H xs K→t σ H xs K) : PCl Y D m t':= fun pins s σ H xs K I a f q => h pins s σ H xs K I a f (i σ H xs K q)
theorem z65 (hc : X.calm = true) (C : CapOk X sc N cap) (hi : SndI X G E tg iter mi) (hg : ∀ s H ex,SndG (blk X sc N s H ex) G tg st) (htt : ∀ s H ex,zd8 (blk X sc N s H ex) G ifs test) (hel : ∀ s H ex,Snd (blk X sc N s H ex) G E0 elt me)
    (hs : ∀ x,foldedSetIterable iter X.env x = pure x := by intro _; rfl) : SndL X G E (.ListComp elt [⟨tg,iter,ifs,0⟩] sc ps) (z27 mi cap st test (z1t me)):= fun hK =>
  PE.imp (zh0 hc C rfl (fun it D env => zfa elt tg iter ifs sc ps (.ref it) D env) (hi hK) (fun s H ex => hg s H ex hK) (fun s H ex => htt s H ex hK) (fun s H ex D => PCl.imp (z8g (hel s H ex hK)) fun _ _ _ _ t => zav t) hs) fun _ _ _ t => z8k t
end
def TbO (T : Addr) (h : Heap) : Prop := ∃ oT ts,h.get? T = some oT∧oT.data = .fields ts∧ts[3]? = some .none
structure Chg (fs : List Addr) (e T : Addr) (h h' : Heap) : Prop where
  new : h.objs.size ≤ T
  keep : ∀ b o,b ≠ e→b ∉ fs→h.get? b = some o→h'.get? b = some o
  slot : ∀ b o,b ≠ e→h.get? b = some o→∃ sl,h'.get? b = some { o with slots := sl }
  tb : TbO T h'
theorem z55 (f : Array Value→Array Value) (o : Obj) : (Obj.mapFields f o).dict = o.dict:= by
  unfold Obj.mapFields
  split <;> rfl
section
variable {M : Model} {A : Around} {E : Value→Shared→Prop} {s : Shared}
theorem z4m {a : Addr} {o : Obj} {vs : Array Value} {i : Nat} {v : Value} {Q : Unit→Shared→Prop} (e : s.heap.get? a = some o) (hd : o.data = .fields vs) (hi : i < vs.size)
    (k : ∀ h' o',Heap.SameBut a s.heap h'→h'.get? a = some o'→o'.cls = o.cls→o'.dict = o.dict→o'.data = .fields (vs.setIfInBounds i v)→Q () { s with heap := h' }) : wpAny M A (setField (.ref a) i v) Q E s :=
  have d' := Obj.data_mapFields hd (·.setIfInBounds i v)
  wpAny_setField e hd hi (k _ _ (Heap.SameBut.update ..) (Heap.get?_update_self _ e (Obj.isFreed_of_fields d')) (Obj.cls_mapFields ..) (z55 ..) d')
theorem zax {head v : Value} {L : Int} {pl : List Value} {Q : Value→Shared→Prop} (hpl : IsPlace pl) (k : ∀ ob ts,ob.data = .fields ts→3 < ts.size→ob.isFreed = false→Q (.ref s.heap.objs.size) { s with heap := s.heap.push ob }) :
    wpAny M A (EntryCells.newEntry head v .none (rawInt L) .none pl) Q E s :=
  wpAny_newObj_type (k _ _ rfl (by simp only [List.size_toArray,List.length_append,List.length_cons,List.length_nil]; omega) rfl) (hpl.sizeOk5 ..)
theorem land {e T : Addr} {oe oT : Obj} {vs ts : Array Value} {Q : Unit→Shared→Prop} (he : s.heap.get? e = some oe) (hd : oe.data = .fields vs) (h1 : vs[1]? = some (.ref T)) (hT : s.heap.get? T = some oT) (hdT : oT.data = .fields ts) (hs : 3 < ts.size)
    (k : ∀ h',Heap.SameBut T s.heap h'→TbO T h'→Q () { s with heap := h' }) : wpAny M A (setFlight (.ref e) none) Q E s:= by
  refine wpAny_bind (wpAny_field he hd h1 ?_)
  show wpAny M A (if (Value.ref T != Value.none) = true then _ else _) Q E s
  rw [if_pos (by simp)]
  exact z4m hT hdT hs fun h' o' sb g _ _ d => k h' sb ⟨o',_,g,d,by rw [Array.getElem?_setIfInBounds_self_of_lt hs]; rfl⟩
theorem z8l {base : Heap} {l : List Env} {a : Addr} {o : Obj} {vs : Array Value} (hl : s.heap.FunFrames base l) (e : s.heap.get? a = some o) (hd : o.data = .fields vs) : a ∉ frs l:= fun hm => by
  obtain ⟨_,o',e',nf⟩ := hl.mem hm
  rw [e] at e'; cases e'
  exact nf vs hd
theorem zay {base : Heap} {env : Env} {outer : List Env} {L e : Addr} {oe : Obj} {vs : Array Value} {head a0 : Value} {nx : Bool} {Q : Unit→Shared→Prop} (hfr : A.frames = some (env :: outer)) (hl : s.heap.FunFrames base (env :: outer)) (hf : env.frame = some L)
    (he : s.heap.get? e = some oe) (hd : oe.data = .fields vs) (hdn : oe.dict = none) (hsz : 1 < vs.size) (h0 : vs[0]? = some a0)
    (k : ∀ h' T,Chg (frs (env :: outer)) e T s.heap h'→ExO oe.cls e T a0 h'→Q () { s with heap := h' }) :
    wpAny M A (do let a ← frameOf env; let pl ← entryPlaceOf L nx; let b ← EntryCells.newEntry head a .none (rawInt L) .none pl; setField (.ref e) 1 b)
      (fun _ s' => wpAny M A (setFlight (.ref e) none) Q E s') E s:= by
  have ne := z8l hl he hd
  refine wpAny_bind (wpAny_frameOf_fun hfr hl hf fun g1 so => wpAny_bind (wpAny_entryPlaceOf fun pl hpl => wpAny_bind (zax hpl fun ob ts dt hts nf => ?_)))
  have e1 : g1.get? e = some oe := (so.2.1 e ne).trans he
  have lt : e < g1.objs.size := Heap.lt_size e1
  refine z4m (s := { s with heap := g1.push ob }) (Heap.get?_push_of_some _ e1) hd hsz fun g2 oe2 sb2 ge c2 dn2 d2 => ?_
  have gT : g2.get? g1.objs.size = some ob := sb2.extBut _ _ (Nat.ne_of_gt lt) (Heap.get?_push_size _ nf)
  refine land (s := { s with heap := g2 }) ge d2 (T := g1.objs.size) (by rw [Array.getElem?_setIfInBounds_self_of_lt hsz]) gT dt hts fun g3 sb3 tb => ?_
  have kp : ∀ b o,b ≠ e→g1.get? b = some o→g3.get? b = some o:= fun b o hb q => sb3.extBut _ _ (Nat.ne_of_lt (Heap.lt_size q)) (sb2.extBut _ _ hb (Heap.get?_push_of_some _ q))
  refine k g3 g1.objs.size ⟨Nat.le_of_eq so.1.symm,fun b o hb hn q => kp b o hb ((so.2.1 b hn).trans q),fun b o hb q => ?_,tb⟩ ⟨oe2,_,sb3.extBut _ _ (Nat.ne_of_lt lt) ge,c2,d2, ?_, ?_,dn2.trans hdn⟩
  · obtain ⟨sl,q'⟩ := so.2.2 b o q
    exact ⟨sl,kp b _ hb q'⟩
  · rw [Array.getElem?_setIfInBounds_ne (by decide)]; exact h0
  · rw [Array.getElem?_setIfInBounds_self_of_lt hsz]
theorem z9o {base : Heap} {env : Env} {outer : List Env} {L e : Addr} {oe : Obj} {vs : Array Value} {a0 : Value} {Q : Unit→Shared→Prop} (hfr : A.frames = some (env :: outer)) (hl : s.heap.FunFrames base (env :: outer)) (hf : env.frame = some L)
    (he : s.heap.get? e = some oe) (hd : oe.data = .fields vs) (hdn : oe.dict = none) (h0 : vs[0]? = some a0) (h1 : vs[1]? = some .none)
    (k : ∀ h' T,Chg (frs (env :: outer)) e T s.heap h'→ExO oe.cls e T a0 h'→Q () { s with heap := h' }) :
    wpAny M A (noteFrame (.ref e) env) (fun _ s' => wpAny M A (setFlight (.ref e) none) Q E s') E s:= by
  unfold noteFrame
  rw [hf]
  refine wpAny_bind (wpAny_field he hd h1 ?_)
  exact zay hfr hl hf he hd hdn (Array.getElem?_eq_some_iff.mp h1).1 h0 k
theorem zaz {base : Heap} {env : Env} {outer : List Env} {L e T : Addr} {C a0 : Value} {Q : Unit→Shared→Prop} (hfr : A.frames = some (env :: outer)) (hl : s.heap.FunFrames base (env :: outer)) (hf : env.frame = some L)
    (hx : ExO C e T a0 s.heap) (ht : TbO T s.heap) (hne : T ≠ e)
    (k : ∀ h' T',s.heap.objs.size ≤ T'→(∀ b o,b ≠ e→b ≠ T→b ∉ frs (env :: outer)→s.heap.get? b = some o→h'.get? b = some o)→(∀ b o,b ≠ e→b ≠ T→s.heap.get? b = some o→∃ sl,h'.get? b = some { o with slots := sl }) →
      ExO C e T' a0 h'→TbO T h'→TbO T' h'→Q () { s with heap := h' }) :
    wpAny M A (noteFrame (.ref e) env) (fun _ s' => wpAny M A (setFlight (.ref e) none) Q E s') E s:= by
  obtain ⟨oe,vs,he,rfl,hd,h0,h1,hdn⟩ := hx
  obtain ⟨oT,ts,hT,hdT,h3⟩ := ht
  have l3 : 3 < ts.size := (Array.getElem?_eq_some_iff.mp h3).1
  have nT := z8l hl hT hdT
  unfold noteFrame
  rw [hf]
  refine wpAny_bind (wpAny_field he hd h1 ?_)
  rw [if_pos (by simp)]
  refine wpAny_bind (wpAny_field hT hdT h3 ?_)
  rw [if_neg (by simp [rawInt])]
  refine wpAny_bind (z4m hT hdT l3 fun g o' sb gT _ _ dT => ?_)
  have hl' : g.FunFrames base (env :: outer) := hl.of_keeps fun b o q nf => ⟨o,sb.extBut _ _ (fun z => by subst z; rw [hT] at q; cases q; exact nf ts hdT) q,rfl⟩
  refine zay (s := { s with heap := g }) hfr hl' hf (sb.extBut _ _ (Ne.symm hne) he) hd hdn (Array.getElem?_eq_some_iff.mp h1).1 h0 fun h' T' c x => ?_
  refine k h' T' (by rw [← sb.1]; exact c.new) (fun b o n1 n2 n3 q => c.keep b o n1 n3 (sb.extBut _ _ n2 q)) (fun b o n1 n2 q => c.slot b o n1 (sb.extBut _ _ n2 q)) x ⟨_,_,c.keep T _ hne nT gT,dT, ?_⟩ c.tb
  rw [Array.getElem?_setIfInBounds_self_of_lt l3]
end
theorem zb0 {P : Program} {w : World} {H : Hp} {h : Heap} {a : Addr} {o : HO} (x : ObjOk P w H h a o) : ∃ ob,h.get? a = some ob:= by
  cases o with
  | lst xs => obtain ⟨_,_,_,_,e⟩ := x; exact ⟨_,e⟩
  | tup xs => obtain ⟨_,_,_,ob,e,_⟩ := x; exact ⟨_,e⟩
  | dK kvs => obtain ⟨_,_,_,_,o,_,_,e,_⟩ := x; exact ⟨_,e⟩
  | dT kvs => obtain ⟨_,_,_,_,o,_,_,e,_⟩ := x; exact ⟨_,e⟩
  | set S n => obtain ⟨o,_,_,_,e,_⟩ := x; exact ⟨_,e⟩
  | ins C dx fs => obtain ⟨_,_,_,e,_⟩ := x; exact ⟨_,e⟩
  | own y => exact x
  | xd fs => obtain ⟨_,⟨_,_,_,e,_⟩,_⟩ := x; exact ⟨_,e⟩
  | rng lo hi => obtain ⟨_,_,_,e⟩ := x; exact ⟨_,e⟩
  | frz ob u => obtain ⟨e,_⟩ := x; exact ⟨_,e⟩
  | tbl ps => exact ⟨_,(show h.get? a = some _ from x)⟩
  | met f y => exact ⟨_,(show h.get? a = some _ from x)⟩
  | ext φ => obtain ⟨_,e,_⟩ := x; exact e
def Fly (base : Heap) (H : Hp) (C : Value) (e : Addr) : Prop := ∃ T a0,H e = some (.ext (ExO C e T a0))∧H T = some (.ext (TbO T))∧base.get? e = none∧T ≠ e
def zb1 (e : Addr) (H H' : Hp) : Prop := ∀ b o,b ≠ e→H b = some o→H' b = some o
theorem zd9 {C a0 : Value} {e T : Addr} {h1 h2 : Heap} (x : ExO C e T a0 h1) (k : ∀ o,h1.get? e = some o→h2.get? e = some o) : ExO C e T a0 h2:= by
  obtain ⟨oe,vs,he,r⟩ := x
  exact ⟨oe,vs,k oe he,r⟩
theorem zda {T : Addr} {h1 h2 : Heap} (x : TbO T h1) (k : ∀ o,h1.get? T = some o→h2.get? T = some o) : TbO T h2:= by
  obtain ⟨oe,vs,he,r⟩ := x
  exact ⟨oe,vs,k oe he,r⟩
theorem zfk {P : Program} {w : World} {H : Hp} {h : Heap} {C a0 : Value} {e T : Addr} (x : ExO C e T a0 h) : ObjOk P w H h e (.ext (ExO C e T a0)) :=
  ⟨x,(let ⟨oe,_,he,_⟩ := x; ⟨oe,he⟩),fun _ _ y k => zd9 y k⟩
theorem z8m {P : Program} {w : World} {H : Hp} {h : Heap} {T : Addr} (x : TbO T h) : ObjOk P w H h T (.ext (TbO T)) :=
  ⟨x,(let ⟨oe,_,he,_⟩ := x; ⟨oe,he⟩),fun _ _ y k => zda y k⟩
section
variable {P : Program} {w : World} {M : Model} {A : Around} {E : Value→Shared→Prop} {s : Shared} {H : Hp} {base : Heap} {env : Env} {outer : List Env} {L e : Addr} {C : Value}
theorem z66 {Q : Unit→Shared→Prop} (hfr : A.frames = some (env :: outer)) (hl : s.heap.FunFrames base (env :: outer)) (hf : env.frame = some L) (hok : HOk P w H s.heap) (hfree : ∀ b ∈ frs (env :: outer),H b = none) (fl : Fly base H C e)
    (k : ∀ h' H',Un (frs (env :: outer)) [] H H' s.heap h'→HOk P w H' h'→Fly base H' C e→zb1 e H H'→Q () { s with heap := h' }) :
    wpAny M A (noteFrame (.ref e) env) (fun _ s' => wpAny M A (setFlight (.ref e) none) Q E s') E s:= by
  obtain ⟨T,a0,he,hT,hb,hne⟩ := fl
  have xe : ExO C e T a0 s.heap := (show ObjOk P w H s.heap e _ from hok e _ he).1
  have xt : TbO T s.heap := (show ObjOk P w H s.heap T _ from hok T _ hT).1
  refine zaz hfr hl hf xe xt hne fun h' T' hnew keep slot x' t0 t' => ?_
  have nT' : H T' = none := hok.fresh hnew
  have eT' : T' ≠ e := (z0j he nT').symm
  have TT' : T' ≠ T := (z0j hT nT').symm
  have sx : zb1 e H (upd (upd H e (.ext (ExO C e T' a0))) T' (.ext (TbO T'))):= fun b o hbe q => by rw [z0g (z0j q nT'),z0g hbe]; exact q
  have ee : upd (upd H e (.ext (ExO C e T' a0))) T' (.ext (TbO T')) e = some (.ext (ExO C e T' a0)) := by rw [z0g (Ne.symm eT'),z0i]
  refine k h' (upd (upd H e (.ext (ExO C e T' a0))) T' (.ext (TbO T'))) ?_ ?_ ⟨T',a0,ee,z0i,hb,eT'⟩ sx
  · have free : ∀ b o,s.heap.get? b = some o→H b = none→upd (upd H e (.ext (ExO C e T' a0))) T' (.ext (TbO T')) b = none:= fun b o q n => by
      have h1 : b ≠ T' := Nat.ne_of_lt (Nat.lt_of_lt_of_le (Heap.lt_size q) hnew)
      have h2 : b ≠ e := (z0j he n).symm
      rw [z0g h1,z0g h2]; exact n
    refine ⟨fun b o q n hb _ => keep b o (z0j he n).symm (z0j hT n).symm hb q,fun b o q n _ _ => slot b o (z0j he n).symm (z0j hT n).symm q,fun b o q n _ => free b o q n,fun b o q _ => ?_,fun b xs q => ?_,fun b o u q => ?_,fun b ps q => ?_⟩
    · by_cases h1 : b = e
      · subst h1; obtain ⟨oe,_,z,_⟩ := x'; exact ⟨oe,z⟩
      · by_cases h2 : b = T
        · subst h2; obtain ⟨oe,_,z,_⟩ := t0; exact ⟨oe,z⟩
        · obtain ⟨sl,z⟩ := slot b o h1 h2 q; exact ⟨_,z⟩
    · exact sx b _ (z6l q he (by intro z; cases z)) q
    · exact sx b _ (z6l q he (by intro z; cases z)) q
    · exact ⟨#[],by rw [sx b _ (z6l q he (by intro z; cases z)) q]; simp⟩
  · intro a o q
    by_cases h1 : a = T'
    · subst h1; rw [z0i] at q; cases q; exact z8m t'
    · rw [z0g h1] at q
      by_cases h2 : a = e
      · subst h2; rw [z0i] at q; cases q; exact zfk x'
      · rw [z0g h2] at q
        by_cases h3 : a = T
        · subst h3; rw [hT] at q; cases q; exact z8m t0
        · have nf : a ∉ frs (env :: outer):= fun z => by rw [hfree a z] at q; cases q
          refine (hok a o q).stay (fun b u hb z => ?_) (fun b z => sx b _ (z6l z he (by intro y; cases y)) z) fun b xs z => sx b _ (z6l z he (by intro y; cases y)) z
          rcases hb with rfl | hb
          · exact keep b u h2 h3 nf z
          · exact keep b u (z6l hb he (by intro y; cases y)) (z6l hb hT (by intro y; cases y)) (fun y => by rw [hfree b y] at hb; cases hb) z
theorem z8n {Q : Unit→Shared→Prop} {h0 : Heap} {args : List Value} (hfr : A.frames = some (env :: outer)) (hl : h0.FunFrames base (env :: outer)) (hf : env.frame = some L) (hok : HOk P w H h0) (hfree : ∀ b ∈ frs (env :: outer),H b = none) (hsb : ∀ b o,base.get? b = some o→h0.get? b = some o)
    (mx : Heap.MadeExcOf h0 s.heap e C args)
    (k : ∀ h' H',Un (frs (env :: outer)) [] H H' h0 h'→HOk P w H' h'→Fly base H' C e→Same H H'→Q () { s with heap := h' }) :
    wpAny M A (noteFrame (.ref e) env) (fun _ s' => wpAny M A (setFlight (.ref e) none) Q E s') E s:= by
  obtain ⟨t,he,hnt,ht⟩ := mx.there
  have hbn : base.get? e = none:= by
    cases q : base.get? e with
    | none => rfl
    | some o => have := hsb e o q; rw [mx.new] at this; cases this
  have nH : H e = none:= by
    cases q : H e with
    | none => rfl
    | some o =>
      have z : ∀ a o,H a = some o→h0.get? a ≠ none:= fun a o q n => by
        have lt := hok.lt q
        have := (hok a o q)
        have ex : ∃ ob,h0.get? a = some ob := zb0 this
        obtain ⟨ob,eo⟩ := ex
        rw [n] at eo; cases eo
      exact absurd mx.new (z e o q)
  have hl1 : s.heap.FunFrames base (env :: outer) := hl.of_keeps fun b o hb _ => ⟨o,mx.keeps b o hb,rfl⟩
  refine z9o hfr hl1 hf he rfl rfl (a0 := .ref t) rfl rfl fun h' T c x => ?_
  have ne_e : ∀ b o,h0.get? b = some o→b ≠ e:= fun b o q z => by subst z; rw [mx.new] at q; cases q
  have lt0 : ∀ b o,h0.get? b = some o→b < T:= fun b o q => Nat.lt_of_lt_of_le (Heap.lt_size (mx.keeps b o q)) c.new
  have nT : H T = none:= by
    cases q : H T with
    | none => rfl
    | some o =>
      obtain ⟨ob,eo⟩ := zb0 (hok T o q)
      exact absurd (lt0 T ob eo) (Nat.lt_irrefl _)
  have eT : T ≠ e := Nat.ne_of_gt (Nat.lt_of_lt_of_le (Heap.lt_size he) c.new)
  have sm : Same H (upd (upd H e (.ext (ExO C e T (.ref t)))) T (.ext (TbO T))):= fun b o q => by rw [z0g (z0j q nT),z0g (z0j q nH)]; exact q
  refine k h' (upd (upd H e (.ext (ExO C e T (.ref t)))) T (.ext (TbO T))) ?_ ?_ ⟨T,.ref t,by rw [z0g (Ne.symm eT),z0i],z0i,hbn,eT⟩ sm
  · refine ⟨fun b o q n hb _ => c.keep b o (ne_e b o q) hb (mx.keeps b o q),fun b o q n _ _ => c.slot b o (ne_e b o q) (mx.keeps b o q),fun b o q n _ => ?_,fun b o q _ => ?_,fun b xs q => sm b _ q,fun b o u q => sm b _ q,fun b ps q => ⟨#[],by rw [sm b _ q]; simp⟩⟩
    · rw [z0g (Nat.ne_of_lt (lt0 b o q)),z0g (ne_e b o q)]; exact n
    · obtain ⟨sl,z⟩ := c.slot b o (ne_e b o q) (mx.keeps b o q); exact ⟨_,z⟩
  · intro a o q
    by_cases h1 : a = T
    · subst h1; rw [z0i] at q; cases q; exact z8m c.tb
    · rw [z0g h1] at q
      by_cases h2 : a = e
      · subst h2; rw [z0i] at q; cases q; exact zfk x
      · rw [z0g h2] at q
        have nf : a ∉ frs (env :: outer):= fun z => by rw [hfree a z] at q; cases q
        refine (hok a o q).stay (fun b u hb z => ?_) (fun b z => sm b _ z) fun b xs z => sm b _ z
        rcases hb with rfl | hb
        · exact c.keep b u (ne_e b u z) nf (mx.keeps b u z)
        · exact c.keep b u (ne_e b u z) (fun y => by rw [hfree b y] at hb; cases hb) (mx.keeps b u z)
end
def CXm (P : Program) (w : World) (base : Heap) : CXT:= fun outer H s E u s' => ∃ e C H',u = .ref e∧s'.os = s.os∧AllBare s'.gens∧Un (frs outer) [] H H' s.heap s'.heap∧HOk P w H' s'.heap∧Fly base H' C e∧E u none H'
def zhe (X : Cx) (E : XK) : Prop := ∀ (pins : List (Addr × Obj)) (σ : St) (H : Hp) (s : Shared) (h' : Heap) (e : Addr) (C : Value) (args : List Value),Inv X pins σ H s→Heap.MadeExcOf s.heap h' e C args →
  (∀ H',Same H H'→(∃ T a0,H' e = some (.ext (ExO C e T a0)))→E (.ref e) none H')→X.xe (.ref e) { s with heap := h' }
structure Good (X : Cx) (G : Cfg) (E : XK) (k : Nat) : Prop where
  calm : X.calm = true
  room : Room k X.A
  K : X.K = G.K
  pas : zac (CXm X.prog X.w X.base) X E
  own : PassesOwn (model X.prog X.w) X.A X.env X.xe
  rais : zhe X E
def Firm (E : XK) : Prop := ∀ e H H',zb1 e H H'→(∃ C T a0 T' a0',H e = some (.ext (ExO C e T a0))∧(∃ h,ExO C e T a0 h)∧H' e = some (.ext (ExO C e T' a0')))→E (.ref e) none H→E (.ref e) none H'
section
variable {P : Program} {w : World} {K : PySem.W.Frag} {mg : Str→Option Value} {base : Heap} {N : List Str} {qual : Str} {scope : Scope} {f : Addr} {cdv : Value} {A : Around} {outer : List Env} {s0 : Shared} {H0 : Hp} {E0 : XK} {G : Cfg} {E : XK} {k : Nat}
theorem z7v (hr : Room k (A.deeper (envOfC qual scope s0.heap.objs.size f cdv))) (hK : K = G.K) (hE : ∀ u H',E u none H'→E0 u none H') (hF : Firm E) :
    Good (cxOf (CXm P w base) P w K mg base N qual scope f cdv A outer s0 H0 E0) G E k where
  calm := rfl
  room := hr
  K := hK
  own := PassesOwn.leaving
  pas:= by
    intro pins σ H s u s' I ⟨e,C,H',eu,os,bare,un,hok,fl,he⟩
    subst eu
    have I' := I.call' os un hok bare (fun b z => absurd z (by simp))
    refine wpAny_bind (z66 (P := P) (w := w) (H := H') (base := base) I'.ok.frames I'.stack rfl hok I'.stkFree fl fun h'' H'' un2 hok2 fl2 sx => ?_)
    have I2 := I'.call (h' := h'') (g' := s'.gens) (d' := s'.drawn) (t' := s'.toks) un2 hok2 I'.bare (fun b z => absurd z (by simp))
    obtain ⟨T,a0,h1,_⟩ := id fl
    obtain ⟨T2,a2,h3,_⟩ := id fl2
    have xe1 : ExO C e T a0 s'.heap := (show ObjOk P w H' s'.heap e _ from hok e _ h1).1
    have : E (.ref e) none H'' := hF e H' H'' sx ⟨C,T,a0,T2,a2,h1,⟨_,xe1⟩,h3⟩ he
    exact ⟨e,C,H'',rfl,I2.os,I2.bare,I2.base,hok2,fl2,hE _ _ this⟩
  rais:= by
    intro pins σ H s h' e C args I mx he
    refine wpAny_bind (z8n (P := P) (w := w) (H := H) (base := base) I.ok.frames I.stack rfl I.hok I.stkFree I.bk mx fun h'' H'' un2 hok2 fl2 sm => ?_)
    have I2 := I.call (h' := h'') (g' := s.gens) (d' := s.drawn) (t' := s.toks) un2 hok2 I.bare (fun b z => absurd z (by simp))
    obtain ⟨T2,a2,h3,_⟩ := id fl2
    exact ⟨e,C,H'',rfl,I2.os,I2.bare,I2.base,hok2,fl2,hE _ _ (he H'' sm ⟨T2,a2,h3⟩)⟩
theorem z28 {X : Cx} {sc : Scope} {N' : List Str} {s : Shared} {H : Hp} {ex : List Addr} (g : Good X G E k) : Good (blk X sc N' s H ex) G L2.E0 k where
  calm := g.calm
  room := g.room
  K := g.K
  own := PassesOwn.never
  pas:= fun _ _ _ _ _ _ _ ⟨_,_,_,_,_,_,_,_,_,z⟩ => z
  rais:= fun _ _ H s h' e C args I mx he => by
    have nH : H e = none:= by
      cases q : H e with
      | none => rfl
      | some o =>
        obtain ⟨ob,eo⟩ := zb0 (I.hok e o q)
        rw [mx.new] at eo; cases eo
    exact he (upd H e (.ext (ExO C e 0 .none))) (z0k nH) ⟨0,.none,z0i⟩
def z0o (n : Nat) (ds : List Dv) : Ev := ds.map some ++ List.replicate (n - ds.length) none
def z1c : Sr→Rs Dv
  | .rt d h => .ok d h
  | .nx _ h => .ok .non h
  | .ex c h => .ex c h
  | _ => .bad
def z0x (np n : Nat) (mb : MS) : List Dv→Hs→Rs Dv:= fun ds h => if ds.length = np then z1c (mb (z0o n ds) h) else .bad
def spOf (G : Cfg) (F : List Dv→Hs→Rs Dv) : Sp:= fun vs H Q E => ∃ μ h ds,RelDL G μ h.length H ds vs∧Sim G μ h H∧Out G E μ h.length H (F ds h) (RelD G) Q
theorem z8o {μ : Nat→Addr} {n : Nat} {H : Hp} {ds : List Dv} {vs : List V} (r : RelDL G μ n H ds vs) (N : List Str) : RelS G μ n H (z0o N.length ds) (start N vs):= by
  have hl := r.length
  refine ⟨by simp [z0o,start,hl],fun i d e => ?_⟩
  unfold z0o at e
  by_cases hi : i < ds.length
  · rw [List.getElem?_append_left (by simpa using hi),List.getElem?_map] at e
    cases q : ds[i]? with
    | none => rw [q] at e; cases e
    | some d' =>
      rw [q] at e; cases e
      obtain ⟨v,e1,r1⟩ := r.get q
      refine ⟨v, ?_,r1⟩
      unfold start
      rw [List.getElem?_append_left (by simp; omega),List.getElem?_map,e1]
      rfl
  · rw [List.getElem?_append_right (by simpa using hi),List.getElem?_replicate] at e
    split at e <;> cases e
def EB (G : Cfg) (μ0 : Nat→Addr) (n0 : Nat) (H0 : Hp) (r : Sr) : XK:= fun u _ H' => ∃ c h' μ',r = .ex c h'∧Ext μ0 n0 H0 μ' h'.length H'∧Sim G μ' h' H'∧FlyE G H' c u
theorem Sim.sameX {μ : Nat→Addr} {h : Hs} {H H' : Hp} {e : Addr} (s : Sim G μ h H) (sx : zb1 e H H') (hx : ∃ φ,H e = some (.ext φ)) : Sim G μ h H'∧∀ (n : Nat),Ext μ n H μ n H':= by
  obtain ⟨φ,hx⟩ := hx
  have x : ∀ n : Nat,Ext μ n H μ n H':= fun n => ⟨Nat.le_refl _,fun _ _ => rfl,fun a o i q => sx a o (by rintro rfl; rw [hx] at q; cases q; exact i) q⟩
  refine ⟨⟨s.inj,fun i o q => ?_,s.tab.keep fun a o _ n2 q => sx a o (by rintro rfl; rw [hx] at q; cases q; exact n2 _ rfl) q⟩,x⟩
  have r := s.ob i o q
  cases o with
  | lst xs =>
    obtain ⟨vs,e1,r1⟩ := r
    exact ⟨vs,sx _ _ (z6l e1 hx (by intro z; cases z)) e1,RelDL.mono (x _) _ _ r1⟩
theorem z7w {μ0 : Nat→Addr} {n0 : Nat} {H0 : Hp} {r : Sr} : Firm (EB G μ0 n0 H0 r):= by
  intro e H H' sx ⟨C,T,a0,T',a0',h1,⟨hp,hx⟩,h3⟩ ⟨c,h',μ',er,x,s,e',φ,eu,h4,h5⟩
  cases eu
  obtain ⟨s2,x2⟩ := s.sameX sx ⟨_,h1⟩
  refine ⟨c,h',μ',er,x.trans (x2 _),s2,e,_,rfl,h3,fun hh z => ?_⟩
  rw [h1] at h4; cases h4
  obtain ⟨o,g1,g2⟩ := h5 hp hx
  obtain ⟨oe,vs,g3,g4,_⟩ := hx
  rw [g3] at g1; cases g1
  obtain ⟨oe',vs',g5,g6,_⟩ := z
  exact ⟨oe',g5,by rw [g6,← g4,g2]⟩
theorem z1d {x qual : Str} {st : Stmt} {fd : FuncData} {ps : List Str} {mb : MS} (Fn : Fun K x qual st f fd) (S : FnScope N ps (z03 st)) (hK : K = G.K)
    (hbody : ∀ (cdv : Value) (A : Around) (outer : List Env) (s : Shared) (H : Hp) (E₀ E : XK),Good (cxOf (CXm P w base) P w K mg base N qual (z03 st) f cdv A outer s H E₀) G E k→z3w (cxOf (CXm P w base) P w K mg base N qual (z03 st) f cdv A outer s H E₀) G E (z07 st) mb) :
    FnOk P w K mg base (CXm P w base) (k + 1) f fd ps (spOf G (z0x ps.length N.length mb)):= by
  obtain ⟨oc,od,kV,doc,pm,an,cdv,ct,osl,rfl,lk,hcd⟩ := Fn.ex
  have hlen : ∀ vs H Q E,spOf G (z0x ps.length N.length mb) vs H Q E→vs.length = ps.length:= fun vs H Q E ⟨μ,h,ds,r,sm,o⟩ => by
    rw [r.length]
    unfold z0x at o
    by_cases hd : ds.length = ps.length
    · exact hd
    · rw [if_neg hd] at o; exact o.elim
  refine zcx lk hcd S hlen fun A outer s H vs Q E hr hsp => ?_
  have hl := hlen _ _ _ _ hsp
  obtain ⟨μ,h,ds,r,sm,o⟩ := hsp
  have o' : Out G E μ h.length H (z1c (mb (z0o N.length ds) h)) (RelD G) Q:= by
    unfold z0x at o
    rw [if_pos (by rw [← r.length]; exact hl)] at o
    exact o
  refine ⟨_,hbody cdv A outer s H E (EB G μ h.length H (mb (z0o N.length ds) h)) (z7v hr hK (fun u H' ⟨c,h',μ',er,x,s',fl⟩ => ?_) z7w) hK, ?_⟩
  · rw [er] at o'
    exact o' μ' H' u x s' fl
  · refine ⟨μ,z0o N.length ds,h,z8o r N,sm, ?_⟩
    cases q : mb (z0o N.length ds) h with
    | bad => rw [q] at o'; exact o'.elim
    | bk ρ h' => rw [q] at o'; exact o'.elim
    | ct ρ h' => rw [q] at o'; exact o'.elim
    | rt d h' => rw [q] at o'; exact o'
    | nx ρ h' => rw [q] at o'; exact fun μ' H' σ' x' s' rs' => o' μ' H' .non x' s' rfl
    | ex c h' => exact fun μ' H' u x' s' fl => ⟨c,h',μ',rfl,x',s',fl⟩
theorem z0e {X : Cx} {F : List Dv→Hs→Rs Dv} {ps : List Str} {fd : FuncData} {x : Str} {p pos : Pos} {e : Expr} {es : List Expr} {ms : M (List Dv)} {j : Nat} (g : Good X G E k) (Fn : FnOk X.prog X.w X.K X.mg X.base (CXm X.prog X.w X.base) j f fd ps (spOf G F)) (hj : j ≤ k)
    (hg : Gl X x) (hm : X.mg x = some (.ref f)) (hk : PySem.W.keepIn X.K (.ref f) = true) (hb : Binds X.K fd ps []) (ha : SndA X G E (e :: es) ms)
    (hdb : (x == ("__debug__" : Str)) = false := by decide) (he : starEach (e :: es) X.env = (false,eval e X.env) :: starEach es X.env := by rfl) (hpl : (backTo pos (starEach es X.env)).any (·.1) = false := by rfl) :
    Snd X G E (.Call (.Name x p) (e :: es) [] pos) (z05 F ms):= fun hK =>
  PE.imp (zgl Fn (g.room.mono hj) hg hm hk hb .nil g.pas (ha hK) hdb he hpl) fun σ H Q ⟨μ,ρ,h,rs,s,o⟩ => z1k rs s o fun μ1 ds1 h1 vs H1 x1 rs1 s1 r1 o1 => by
    rw [List.append_nil]
    exact ⟨μ1,h1,ds1,r1,s1,o1⟩
end
abbrev bmV : List Value := [.type "ValueError",.type "Exception",.type "BaseException",.type "object"]
theorem zdb {K : PySem.W.Frag} {mg : Str→Option Value} {base : Heap} (p : Program) (m : Mod K mg base) : ∃ z2r mb,PySem.W.TopRead p z2r mg mb base:= by
  obtain ⟨mb,hb,hbb⟩ := m.blt
  obtain ⟨o,es,ep,ho,hd,hk,hf⟩ := id m.glob
  refine ⟨es.toList.filterMap fun e => match e.key with
    | .str n _ => some n
    | _ => none,mb,m.glob,hb,m.nolimit,hbb,fun x _ hx _ _ _ => ?_⟩
  rw [← hf x]
  cases q : nsFind es x with
  | none => rfl
  | some v =>
    exfalso
    apply hx
    unfold nsFind findBy at q
    obtain ⟨e,he,_⟩ := Option.map_eq_some_iff.mp q
    have h1 := Array.find?_some he
    have h2 := Array.mem_of_find?_eq_some he
    obtain ⟨n,t,hn⟩ := hk e h2
    rw [hn] at h1
    have h3 : n = x := by simpa [Value.isStr] using h1
    exact List.mem_filterMap.mpr ⟨e,by simpa using h2,by rw [hn,h3]⟩
section
variable {X : Cx} {G : Cfg} {E : XK} {k : Nat} {x : Str} {C : Addr} {np cpos pos : Pos} {e : Expr} {es : List Expr} {t : TA} {ms : M (List Dv)} {c : Nat}
theorem zdc (g : Good X G E k) (hg : Gl X x) (hm : X.mg x = some (.ref C)) (hns : PySem.W.nsIn X.K mainGlobals x = some (some (.ref C))) (hx : PySem.W.excIn X.K C bmV "ValueError.__new__" = true) (ha : PA X (e :: es) t) (hd : (x == ("__debug__" : Str)) = false := by decide)
    (he : starEach (e :: es) X.env = (false,eval e X.env) :: starEach es X.env := by rfl) (hpl : (backTo cpos (starEach es X.env)).any (·.1) = false := by rfl) :
    PS X (.Raise (some (.Call (.Name x np) (e :: es) [] cpos)) none pos) (fun _ σ H => t σ H fun vs H1 => vs.length ≤ sizeLine∧∀ e H',Same H1 H'→(∃ T a0,H' e = some (.ext (ExO (.ref C) e T a0)))→E (.ref e) none H'):= by
  intro pins s σ H D I h
  obtain ⟨bm,N,nm,q,bs,hdct,sn,sub,ab,col,dd,k0,k1,k2,k3,k5,mN,hC,hN,hni,T⟩ := (let ⟨_,_,tr⟩ := zdb X.prog I.ok.mod; PySem.W.own_of_in I.ok.mod.kin tr hns hx).obj
  refine wpAny_Raise_call_subU (C := C) (nm := nm) (q := q) (N := N) (bs := bs) (bm := bm) (hdct := hdct) (sn := sn) (sub := sub) (ab := ab) (col := col) (dd := dd) (k0 := k0) (k1 := k1) (k2 := k2) (k3 := k3) (k5 := k5)
    PySem.F.excBase_ValueError (by decide) PySem.F.excBase_ValueError (mN := mN) (T.hasType (by decide)) (I.ok.hd g.calm) (by rw [he]; show (false || (backTo cpos (starEach es X.env)).any (·.1)) = false; rw [hpl]; rfl) hni (z47 I hg hm ⟨rfl, ?_⟩ hd)
  have hh := ha cpos pins s σ H _ I h
  rw [he] at hh ⊢
  refine Calls.evalArgs_plain (thn hh fun us s2 ⟨vs,H2,I2,r,hz,w⟩ => ⟨rfl,by rw [← r.length]; exact hz,I2.bk _ _ hC,hN.keeps I2.bk,T.keeps I2.bk,fun h' e' mx => ?_⟩)
  exact g.rais pins σ H2 s2 h' e' _ _ I2 mx fun H' sm z => w e' H' sm z
theorem zhf {H : Hp} {e : Addr} (hc : C = G.cl c) (z : ∃ T a0,H e = some (.ext (ExO (.ref C) e T a0))) : FlyE G H c (.ref e):= by
  obtain ⟨T,a0,z⟩ := z
  exact ⟨e,_,rfl,z,fun h ⟨oe,vs,h1,h2,_⟩ => ⟨oe,h1,by rw [h2,hc]⟩⟩
def z8p (c : Nat) (ms : M (List Dv)) : MS:= fun ρ h => (ms ρ h).thenS fun ds h1 => if ds.length ≤ 1000 then .ex c h1 else .bad
theorem z8q (g : Good X G E k) (hg : Gl X x) (hm : X.mg x = some (.ref C)) (hns : PySem.W.nsIn X.K mainGlobals x = some (some (.ref C))) (hx : PySem.W.excIn X.K C bmV "ValueError.__new__" = true) (hc : C = G.cl c) (ha : SndA X G E (e :: es) ms) (hd : (x == ("__debug__" : Str)) = false := by decide)
    (he : starEach (e :: es) X.env = (false,eval e X.env) :: starEach es X.env := by rfl) (hpl : (backTo cpos (starEach es X.env)).any (·.1) = false := by rfl) :
    SndS X G E (.Raise (some (.Call (.Name x np) (e :: es) [] cpos)) none pos) (z8p c ms):= fun hK => PS.imp (zdc g hg hm hns hx (ha hK) hd he hpl) fun D σ H ⟨μ,ρ,h,rs,s,o⟩ =>
  ⟨μ,ρ,h,rs,s,(o.thenS (R := RelDL G)).mono fun vs H1 ⟨μ1,ds,h1,x1,s1,r1,o1⟩ => by
    split at o1
    · rename_i hl
      refine ⟨by rw [r1.length]; exact Nat.le_trans hl (by decide),fun e' H' sm z => ?_⟩
      exact o1 μ1 H' (.ref e') (Ext.same sm) (s1.same sm) (zhf hc z)
    · exact o1.elim⟩
end
open PySem PySem.Spec PyProof.Rows PySem.W
section
variable {prog : Program} {w : World} {A : Around} {E : Value→Shared→Prop} {h : Heap} {g : Array GenState} {d : Drawn} {t : Nat} {os : OsState} {a C : Addr} {o : Obj} {K : Frag}
structure ExK (K : Frag) (C : Addr) : Prop where
  ga : findIn K (.ref C) "__getattribute__" = some (some (.builtin "BaseException.__getattribute__"))
  ng : findIn K (.ref C) "__getattr__" = some none
  cl : findIn K (.ref C) "__class__" = some (some (.builtin "object.__class__"))
  ob : mroIn K C (.type "object") = some true
  be : subIn K (.ref C) (.type "BaseException") = some true
  se : kitCls K (.ref C) (.ref C) = some true
  lk : ∃ oc od cd osl,K.lookup C = some ⟨oc,od,.cls cd,osl⟩
theorem kindGa : builtinKind "BaseException.__getattribute__" = some .slot∧splitId "BaseException.__getattribute__" = some ("BaseException","__getattribute__") := by decide +kernel
theorem zhg : (Value.builtin "BaseException.__getattribute__" == Value.builtin "object.__getattribute__") = false := by decide +kernel
section
variable {R : Result→Shared→Prop} {s : Shared}
theorem zdd {M : Model} {n : Value} {Q : Unit→Shared→Prop} (X : K.In s.heap) (I : InstAt s.heap a o C none) (k : ExK K C) (hq : Q () s) : wpAny M A (checkBuiltinCall "BaseException.__getattribute__" ⟨[.ref a,n],[]⟩) Q E s:= by
  have one : Looks M s.heap (isInstance (.ref a) (.type "BaseException")) true := I.type.andThen (looks_subIn X k.be)
  have two := F.args_bexc_ga (.ref a) n
  obtain ⟨hh,g,d,t,os⟩ := s
  unfold checkBuiltinCall
  rw [kindGa.1,kindGa.2]
  refine wpAny_bind (one.at ?_)
  repeat (first | assumption | wp_step)
theorem zde {n : Tok} (X : K.In s.heap) (I : InstAt s.heap a o C none) (k : ExK K C) (hq : R (.ok (.ret (.ref C))) s) : codeAny (model prog w) A (.call (.builtin "BaseException.__getattribute__") ⟨[.ref a,.str "__class__" n],[]⟩) R s:= by
  refine codeAny_call_builtin F.excAttr_ValueError.ga.plain F.entry_bexc_ga (zdd X I k ?_)
  have own := I.type (M := model prog w)
  have entry := looks_findIn (M := model prog w) X k.cl
  have of_get := F.slot_gs_get.lookup
  have of_set := F.slot_gs_set.lookup
  have kind := F.typeOf_object_class
  have kindIs : s.TypeIs (.builtin "object.__class__") "getset_descriptor" := kind
  obtain ⟨hh,g,d,t,os⟩ := s
  repeat (any_goals (first | assumption | with_reducible refine own.at ?_ | with_reducible refine entry.at ?_ | wp_step))
  exact class_get (s := ⟨hh,g,d,t,os⟩) X I k.ob (by repeat (any_goals (first | assumption | wp_step)))
end
theorem zb2 {Q : Option Value→Shared→Prop} (X : K.In h) (I : InstAt h a o C none) (k : ExK K C) (hq : Q (some (.ref C)) ⟨h,g,d,t + 1,os⟩) :
    wpAny (model prog w) A (getAttr? (.ref a) "__class__") Q E ⟨h,g,d,t,os⟩:= by
  have own := I.type (M := model prog w)
  have first_ := looks_findIn (M := model prog w) X k.ga
  have then_ := looks_findIn (M := model prog w) X k.ng
  have bound := F.excAttr_ValueError.ga.bind (.ref a)
  have other := zhg
  have apart : (onTheHeap (Value.ref C) && Value.builtin "BaseException.__getattribute__" == Value.builtin "object.__getattribute__") = false := by rw [other]; rfl
  unfold getAttr? getAttrBy?
  repeat (any_goals (first | assumption | with_reducible refine own.at ?_ | with_reducible refine first_.at ?_ | with_reducible refine then_.at ?_ | wp_step))
  exact zde X I k (by repeat (any_goals (first | assumption | wp_step)))
def zkw (a C : Addr) (h : Heap) : Prop := ∃ o,InstAt h a o C none
theorem zdf (k : ExK K C) : KitX K (.ref a) (.ref C) (zkw a C) where
  ty:= fun _ _ _ ⟨_,I⟩ => I.type
  it:= fun _ _ X _ => (kit_cls X k.se).2.1
  ne:= fun h tp dd its n sl X htp => by
    cases z : (Value.ref C == Value.ref tp) with
    | false => rfl
    | true =>
      obtain rfl : C = tp := by simpa using z
      obtain ⟨oc,od,cd,osl,lk⟩ := k.lk
      have := X _ _ lk
      rw [htp] at this
      simp at this
  ca:= fun {prog w A E Q s} X ⟨o,I⟩ hq => by
    obtain ⟨hh,g,d,t,os⟩ := s
    exact zb2 X I k hq
end
inductive Ty where
  | non | bl | int | str | tup | lst | dct | exc (c : Nat)
def tyD : Dv→Hs→Option Ty
  | .non,_ => some .non
  | .bl _,_ => some .bl
  | .int _,_ => some .int
  | .str _,_ => some .str
  | .tup _,_ => some .tup
  | .ref i,h => match getL h i with
    | some _ => some .lst
    | none => none
  | .edc,_ => some .dct
  | .exc c,_ => some (.exc c)
  | .scr,_ => none
def valT (cl : Nat→Addr) : Ty→Value
  | .non => .type "NoneType"
  | .bl => .type "bool"
  | .int => .type "int"
  | .str => .type "str"
  | .tup => .type "tuple"
  | .lst => .type "list"
  | .dct => .type "dict"
  | .exc c => .ref (cl c)
def isiD (f : Ty→Option Bool) (d : Dv) (h : Hs) : Rs Dv := match tyD d h with
  | some ty => match f ty with
    | some b => .ok (.bl b) h
    | none => .bad
  | none => .bad
section
variable {X : Cx} {G : Cfg} {E : XK} {pins : List (Addr × Obj)} {σ : St} {H : Hp} {s : Shared}
theorem zfl {μ : Nat→Addr} {h : Hs} {d : Dv} {v : V} {u : Value} {ty : Ty} (I : Inv X pins σ H s) (sm : Sim G μ h H) (r : RelD G μ h.length H d v) (ru : RelV v u) (e : tyD d h = some ty) (hex : ∀ c,ty = .exc c→ExK X.K (G.cl c)) :
    ∃ P,KitX X.K u (valT G.cl ty) P∧P s.heap∧u ≠ .builtin "__main__.__loader__#opaque":= by
  cases d with
  | non => cases e; rw [RelD] at r; subst r; cases ru; exact ⟨_,kitx_none,trivial,fun z => nomatch z⟩
  | bl b => cases e; rw [RelD] at r; subst r; cases ru; exact ⟨_,kitx_bool,trivial,fun z => nomatch z⟩
  | int i => cases e; rw [RelD] at r; subst r; obtain ⟨t,rfl⟩ := ru; exact ⟨_,kitx_int,trivial,fun z => nomatch z⟩
  | str i => cases e; rw [RelD] at r; subst r; obtain ⟨t,rfl⟩ := ru; exact ⟨_,kitx_str,trivial,fun z => nomatch z⟩
  | tup ds =>
    cases e
    obtain ⟨a,vs,rfl,ea,_⟩ := r
    cases ru
    obtain ⟨_,_,_,o,h1,h2,_⟩ := (show ObjOk X.prog X.w H s.heap a (.tup vs) from I.hok a _ ea)
    exact ⟨_,kitx_tuple,⟨o,h1,h2⟩,fun z => nomatch z⟩
  | ref i =>
    dsimp only [tyD] at e
    cases g : getL h i with
    | none => rw [g] at e; cases e
    | some xs =>
      rw [g] at e; cases e
      obtain ⟨_,rfl⟩ := r
      cases ru
      obtain ⟨vs,ea,_⟩ := sm.ob i _ (z0h g)
      obtain ⟨_,_,n,_,h1⟩ := (show ObjOk X.prog X.w H s.heap (μ i) (.lst vs) from I.hok _ _ ea)
      exact ⟨_,kitx_list,⟨_,h1,rfl⟩,fun z => nomatch z⟩
  | edc =>
    cases e
    obtain ⟨a,rfl,ea⟩ := r
    cases ru
    obtain ⟨_,_,vs,_,p⟩ := (show ObjOk X.prog X.w H s.heap a (.dK []) from I.hok a _ ea)
    obtain ⟨o,es,ep,h1,h2,_⟩ := p
    exact ⟨_,kitx_dict,⟨o,h1,h2.1⟩,fun z => nomatch z⟩
  | exc c =>
    cases e
    obtain ⟨a,o,uo,rfl,ea,hc,hdn,vs,hd⟩ := r
    cases ru
    obtain ⟨h1,_⟩ := (show ObjOk X.prog X.w H s.heap a (.frz o uo) from I.hok a _ ea)
    refine ⟨_,zdf (hex c rfl),⟨o,h1,hc, ?_, ?_⟩,fun z => nomatch z⟩
    · unfold notCls; rw [hd]
    · rw [hdn]; trivial
  | scr => cases e
end
section
variable {X : Cx} {G : Cfg} {E : XK} {a b : Expr} {ma : M Dv} {p pos : Pos} {f : Ty→Option Bool}
theorem zkx : bootBuiltins "isinstance" = some (.builtin "isinstance") := by decide +kernel
def rIsi (G : Cfg) (f : Ty→Option Bool) (c : V) : List V→Hp→VK→Prop:= fun xs H Q => ∃ μ h d v ty bb,xs = [v,c]∧Sim G μ h H∧RelD G μ h.length H d v∧tyD d h = some ty∧f ty = some bb∧Q (.bl bb) H
theorem zdg {c : V} {u : Value} (hc : (∃ T,c = .ty T) ∨ ∃ C,c = .ref C) (rc : RelV c u) (hf : ∀ ty bb,f ty = some bb→kitOne X.K (valT G.cl ty) u = some bb) (hex : ∀ c bb,f (.exc c) = some bb→ExK X.K (G.cl c)) : CallR X (.builtin "isinstance") (rIsi G f c):= by
  intro pins s σ H xs us Q I rv ⟨μ,h,d,v,ty,bb,e1,sm,r,et,ef,q⟩
  subst e1
  obtain ⟨u1,u2,rfl,r1,r2⟩ := za9 rv
  have e2 : u2 = u:= by
    rcases hc with ⟨T,rfl⟩ | ⟨C,rfl⟩ <;> (cases rc; cases r2; rfl)
  subst e2
  obtain ⟨P,Z,hP,hne⟩ := zfl I sm r r1 et (fun c z => by subst z; exact hex c bb ef)
  exact kia_one Z I.kIn hP (hf ty bb ef) hne fun tk => ⟨.bl bb,H,I.tok _,rfl,q⟩
theorem z7x {x : Str} {T : String} (hg : Gl X x) (hm : X.mg x = none) (hv : bootBuiltins x = some (.type T)) (hn : x ≠ "__name__" := by decide) (hd : (x == ("__debug__" : Str)) = false := by decide) : PE X (.Name x pos) (tC (.ty T)) :=
  fun pins s σ H Q I h => z5a I hg hm hv ⟨.ty T,H,I,rfl,h⟩ hn hd
theorem z3h {c : V} {u : Value} (hg : Gl X "isinstance") (hm : X.mg "isinstance" = none) (ha : Snd X G E a ma) (hb : PE X b (tC c)) (hc : (∃ T,c = .ty T) ∨ ∃ C,c = .ref C) (rc : RelV c u)
    (hf : ∀ ty bb,f ty = some bb→kitOne G.K (valT G.cl ty) u = some bb) (hex : ∀ c bb,f (.exc c) = some bb→ExK G.K (G.cl c))
    (he : starEach [a,b] X.env = [(false,eval a X.env),(false,eval b X.env)] := by rfl) (he2 : starEach [b] X.env = [(false,eval b X.env)] := by rfl) :
    Snd X G E (.Call (.Name "isinstance" p) [a,b] [] pos) (m1 (isiD f) ma):= fun hK =>
  PE.imp (z3z (zdg (G := G) (f := f) hc rc (by rw [hK]; exact hf) (by rw [hK]; exact hex)) hg hm zkx (z1r (ha hK) (z1r hb z3s he2) (by rw [he,he2])) (by decide) (by decide) (by rw [he,he2]) (by rw [he2]; rfl))
    fun σ H Q ⟨μ,ρ,h,rs,s,o⟩ => z0u rs s o fun μ1 d h1 v H1 x1 rs1 s1 r1 o1 => by
      show rIsi G f c [v,c] H1 Q
      unfold isiD at o1
      cases q : tyD d h1 with
      | none => rw [q] at o1; exact o1.elim
      | some ty =>
        rw [q] at o1
        dsimp only at o1
        cases q2 : f ty with
        | none => rw [q2] at o1; exact o1.elim
        | some bb =>
          rw [q2] at o1
          exact ⟨μ1,h1,d,v,ty,bb,rfl,s1,r1,q,q2,o1.val s1 rfl⟩
def zky (G : Cfg) (f : Ty→Option Bool) (cs : List V) : List V→Hp→VK→Prop:= fun xs H Q => ∃ μ h d v ty bb tp,xs = [v,.ref tp]∧H tp = some (.tup cs)∧Sim G μ h H∧RelD G μ h.length H d v∧tyD d h = some ty∧f ty = some bb∧Q (.bl bb) H
theorem zb3 {cs : List V} {us : List Value} (hcs : ∀ us',Vals cs us'→us' = us) (hf : ∀ ty bb,f ty = some bb→kitAny X.K (valT G.cl ty) us = some bb) (hex : ∀ c bb,f (.exc c) = some bb→ExK X.K (G.cl c)) : CallR X (.builtin "isinstance") (zky G f cs):= by
  intro pins s σ H xs uu Q I rv ⟨μ,h,d,v,ty,bb,tp,e1,etp,sm,r,et,ef,q⟩
  subst e1
  obtain ⟨u1,u2,rfl,r1,r2⟩ := za9 rv
  cases r2
  obtain ⟨_,its,rits,o,h1,h2,_,n,h3⟩ := (show ObjOk X.prog X.w H s.heap tp (.tup cs) from I.hok tp _ etp)
  have eits := hcs its rits
  subst eits
  obtain ⟨oc,od,odata,osl⟩ := o
  cases h2; cases h3
  obtain ⟨P,Z,hP,hne⟩ := zfl I sm r r1 et (fun c z => by subst z; exact hex c bb ef)
  exact kia_tup Z I.kIn hP h1 (hf ty bb ef) hne fun tk => ⟨.bl bb,H,I.tok _,rfl,q⟩
theorem zdh {cs : List V} {us : List Value} {bs : List Expr} {kt : Nat} {tpos : Pos} (hg : Gl X "isinstance") (hm : X.mg "isinstance" = none) (ha : Snd X G E a ma) (hb : PA X bs (fun _ H Q => Q cs H)) (hl : cs.length ≤ sizeLine) (hcs : ∀ us',Vals cs us'→us' = us)
    (hf : ∀ ty bb,f ty = some bb→kitAny G.K (valT G.cl ty) us = some bb) (hex : ∀ c bb,f (.exc c) = some bb→ExK G.K (G.cl c))
    (he : starEach [a,.Tuple bs kt tpos] X.env = [(false,eval a X.env),(false,eval (.Tuple bs kt tpos) X.env)] := by rfl) (he2 : starEach [.Tuple bs kt tpos] X.env = [(false,eval (.Tuple bs kt tpos) X.env)] := by rfl) :
    Snd X G E (.Call (.Name "isinstance" p) [a,.Tuple bs kt tpos] [] pos) (m1 (isiD f) ma):= fun hK =>
  PE.imp (z3z (zb3 (G := G) (f := f) hcs (by rw [hK]; exact hf) (by rw [hK]; exact hex)) hg hm zkx (z1r (ha hK) (z1r (zf6 hb) z3s he2) (by rw [he,he2])) (by decide) (by decide) (by rw [he,he2]) (by rw [he2]; rfl))
    fun σ H Q ⟨μ,ρ,h,rs,s,o⟩ => z0u rs s o fun μ1 d h1 v H1 x1 rs1 s1 r1 o1 => by
      refine ⟨hl,fun tp htp => ?_⟩
      show zky G f cs [v,.ref tp] (upd H1 tp (.tup cs)) Q
      unfold isiD at o1
      cases q : tyD d h1 with
      | none => rw [q] at o1; exact o1.elim
      | some ty =>
        rw [q] at o1
        dsimp only at o1
        cases q2 : f ty with
        | none => rw [q2] at o1; exact o1.elim
        | some bb =>
          rw [q2] at o1
          have x2 : Ext μ1 h1.length H1 μ1 h1.length (upd H1 tp (.tup cs)) := Ext.same (z0k htp)
          exact ⟨μ1,h1,d,v,ty,bb,tp,rfl,z0i,s1.same (z0k htp),RelD.mono x2 _ _ r1,q,q2,o1 μ1 _ _ x2 (s1.same (z0k htp)) rfl⟩
end
def blD : Dv→Option Bool
  | .bl b => some b
  | _ => none
theorem z67 {α β : Type} {f : α→Option β} : ∀ {xs : List α} {ys : List β},optL f xs = some ys→ys.length = xs.length
  | [],ys,e => by cases e; rfl
  | x :: xs,ys,e => by
    unfold optL at e
    cases q : f x with
    | none => rw [q] at e; cases e
    | some y =>
      rw [q] at e
      dsimp only at e
      cases q2 : optL f xs with
      | none => rw [q2] at e; cases e
      | some zs => rw [q2] at e; cases e; simp [z67 q2]
theorem z70 {G : Cfg} {μ : Nat→Addr} {n : Nat} {H : Hp} : ∀ {xs : List Dv} {vs : List V} {bs : List Bool},RelDL G μ n H xs vs→optL blD xs = some bs→vs = bs.map V.bl
  | [],vs,bs,r,e => by cases e; rw [RelDL] at r; exact r
  | x :: xs,vs,bs,r,e => by
    rw [RelDL] at r; obtain ⟨v,rr,rfl,r1,r2⟩ := r
    unfold optL at e
    cases x with
    | bl b =>
      dsimp only [blD] at e
      cases q : optL blD xs with
      | none => rw [q] at e; cases e
      | some zs =>
        rw [q] at e; cases e
        rw [RelD] at r1; subst r1
        rw [z70 r2 q]; rfl
    | _ => cases e
section
variable {X : Cx} {pins : List (Addr × Obj)} {σ : St} {H : Hp} {s : Shared}
theorem zb4 (bs : List Bool) : (List.range bs.length).all (fun i => bs.getD i false) = bs.all id:= by
  rw [Bool.eq_iff_iff,List.all_eq_true,List.all_eq_true]
  constructor
  · intro h b hb
    obtain ⟨i,hi,rfl⟩ := List.mem_iff_getElem.mp hb
    simpa [List.getD,hi] using h i (List.mem_range.mpr hi)
  · intro h i hi
    have hi := List.mem_range.mp hi
    simpa [List.getD,hi] using h _ (List.getElem_mem hi)
theorem zhh {bs : List Bool} {its : List Value} (rv : Vals (bs.map V.bl) its) {i : Nat} {v : Value} (e : its.toArray[i]? = some v) : v = .bool (bs.getD i false):= by
  have hl := rv.length
  rw [List.length_map] at hl
  have e' : its[i]? = some v := by simpa using e
  have hi : i < its.length := (List.getElem?_eq_some_iff.mp e').1
  have hb : i < bs.length := by omega
  obtain ⟨u,e2,r⟩ := rv.get (i := i) (x := V.bl bs[i]) (by simp [hb])
  rw [e'] at e2; cases e2
  have hg : bs.getD i false = bs[i] := by simp [List.getD,hb]
  rw [hg]
  exact r
theorem z7y {bs : List Bool} {its : List Value} {A : Around} (rv : Vals (bs.map V.bl) its) : TruthOf X.prog X.w A (fun i v => its.toArray[i]? = some v) (fun i => bs.getD i false):= by
  intro i v s Q E e q
  rw [zhh rv e]
  exact wpAny_truthy_bool q
theorem z3i {o : Obj} {h' : Heap} {tk : Nat} (I : Inv X pins σ H s) (k : ∀ b u,b ∉ [s.heap.objs.size]→(s.heap.push o).get? b = some u→h'.get? b = some u) : Inv X pins σ H { s with heap := h',toks := tk }:= by
  have I1 : Inv X pins σ H { s with heap := s.heap.push o } := I.kept (t' := s.toks) fun b u e => Heap.get?_push_of_some _ e
  obtain ⟨f0,f1,f2,f3,f4,f5⟩ := I.fpOk (Nat.le_refl s.heap.objs.size) I.fresh
  exact I1.turned (t' := tk) (fun b u hb e => k b u (by simpa using hb) e) f0 f1 f3 f4 f5
theorem zb5 (hc : X.calm = true) : CallR X (.builtin "all") (fun xs H Q => ∃ (p : Addr) (bs : List Bool),xs = [.ref p]∧H p = some (.lst (bs.map V.bl))∧Q (.bl (bs.all id)) H):= by
  intro pins s σ H xs us Q I rv ⟨p,bs,e,hp,q⟩
  subst e
  obtain ⟨u,rfl,ru⟩ := z5u rv
  cases ru
  obtain ⟨its,rits,pl,hz⟩ := I.list (SqL.of hp)
  have hn : its.toArray.size = bs.length := by have := rits.length; simp at this ⊢; omega
  have ne : p ≠ s.heap.objs.size := Nat.ne_of_lt (I.hok.lt hp)
  refine call_all_walk (wpAny_pyIter_list pl.isList ⟨_,_,_,_,_,_,fun i => bs.getD i false,rfl,Walks.list (A := X.A.in1) (show X.A.in1.handled = none from I.ok.hd hc) _ p ne its.toArray,⟨⟨_,Heap.get?_push_size _ rfl,rfl,rfl⟩,pl.isList.push _⟩,z7y rits,fun h' tk k => ?_⟩)
  rw [hn,zb4]
  exact ⟨.bl _,H,(z3i (tk := tk) I k : Inv X pins σ H { s with heap := h',toks := tk }),rfl,q⟩
end
section
variable {X : Cx} {G : Cfg} {E : XK} {e : Expr} {ml : M (List Dv)} {x : Str} {p pos : Pos} {bid T : String}
def mL (f : List Dv→Hs→Rs Dv) (ml : M (List Dv)) : M Dv:= fun ρ h => (ml ρ h).bind f
def LstD (G : Cfg) (r : List V→Hp→VK→Prop) (f : List Dv→Hs→Rs Dv) : Prop := ∀ (E : XK) (μ : Nat→Addr) (h : Hs) (H : Hp) (xs : List Dv) (a : Addr) (vs : List V) (Q : VK),Sim G μ h H→H a = some (.lst vs)→RelDL G μ h.length H xs vs→Out G E μ h.length H (f xs h) (RelD G) Q→r [.ref a] H Q
theorem znb {r : List V→Hp→VK→Prop} {f : List Dv→Hs→Rs Dv} (hd : LstD G r f) {σ : St} {H : Hp} {Q : VK} (t : tOf G E (mL f ml) σ H Q) : tCB r (zkb (tlOf G E ml) tNil) σ H Q:= by
  obtain ⟨μ,ρ,h,rs,s,o⟩ := t
  refine ⟨μ,ρ,h,rs,s,(o.bind (R1 := RL G)).mono fun v H1 ⟨μ1,xs,h1,x1,s1,⟨a,vs,ev,ea,_,r1⟩,o1⟩ => ?_⟩
  subst ev
  exact hd E μ1 h1 H1 xs a vs Q s1 ea r1 o1
theorem zkz {r : List V→Hp→VK→Prop} {f : List Dv→Hs→Rs Dv} (hc : CallR X (.builtin bid) r) (hd : LstD G r f) (hg : Gl X x) (hm : X.mg x = none) (hv : bootBuiltins x = some (.builtin bid)) (ha : SndL X G E e ml) (hn : x ≠ "__name__" := by decide) (hdb : (x == ("__debug__" : Str)) = false := by decide)
    (he : starEach [e] X.env = [(false,eval e X.env)] := by rfl) : Snd X G E (.Call (.Name x p) [e] [] pos) (mL f ml):= fun hK =>
  PE.imp (z3z hc hg hm hv (z1r (ha hK) z3s he) hn hdb he rfl) fun _ _ _ t => znb hd t
theorem znc : bootBuiltins "all" = some (.builtin "all") := by decide +kernel
def allF (xs : List Dv) (h : Hs) : Rs Dv := match optL blD xs with
  | some bs => .ok (.bl (bs.all id)) h
  | none => .bad
theorem zb6 (hc : X.calm = true) (hg : Gl X "all") (hm : X.mg "all" = none) (ha : SndL X G E e ml) (he : starEach [e] X.env = [(false,eval e X.env)] := by rfl) : Snd X G E (.Call (.Name "all" p) [e] [] pos) (mL allF ml) :=
  zkz (zb5 hc) (fun E μ h H xs a vs Q s ea r o => by
    unfold allF at o
    cases q : optL blD xs with
    | none => rw [q] at o; exact o.elim
    | some bs => rw [q] at o; exact ⟨a,bs,rfl,by rw [ea,z70 r q],o.val s rfl⟩) hg hm znc ha (by decide) (by decide) he
end
section
variable {X : Cx} {G : Cfg} {E : XK} {o e i : Expr} {mo me mi : M Dv} {ml : M (List Dv)} {pos apos cpos : Pos}
theorem tyL {H : Hp} {a : Addr} {vs : List V} (e : H a = some (.lst vs)) : tyV X.K "list" (.ref a) H := .inl ⟨rfl,vs,SqL.of e⟩
def appD (o d : Dv) (h : Hs) : Rs Dv := match o with
  | .ref j => match getL h j with
    | some xs => if xs.length < 1000000 then .ok .non (h.set j (.lst (xs ++ [d]))) else .bad
    | none => .bad
  | _ => .bad
def isL (o : Dv) (h : Hs) : Bool := match o with
  | .ref j => (getL h j).isSome
  | _ => false
def mApp (mo me : M Dv) : M Dv:= fun ρ h => (mo ρ h).bind fun x h1 => if isL x h1 = true then (me ρ h1).bind fun d h2 => appD x d h2 else .bad
theorem zl0 {μ : Nat→Addr} {h : Hs} {H : Hp} {x : Dv} {v : V} (s : Sim G μ h H) (r : RelD G μ h.length H x v) (e : isL x h = true) : tyV X.K "list" v H:= by
  cases x with
  | ref j =>
    obtain ⟨xs,q⟩ := Option.isSome_iff_exists.mp (show (getL h j).isSome = true from e)
    obtain ⟨vs,ea,_⟩ := s.ob j _ (z0h q)
    obtain ⟨_,rfl⟩ := r
    exact tyL ea
  | _ => cases e
theorem z3j {y : Str} {np : Pos} (ho : Snd X G E (.Name y np) mo) (he : Snd X G E e me) (hs : starEach [e] X.env = [(false,eval e X.env)] := by rfl) (hl : (apos.endLine == cpos.line) = true := by rfl) : Snd X G E (.Call (.Attribute (.Name y np) "append" apos) [e] [] cpos) (mApp mo me):= fun hK =>
  PE.imp (zn6 PySem.F.plainAttrs_list PySem.F.slot_list_append PySem.F.type_list_append zah (ho hK) (z1r (he hK) z3s hs) rfl (by rw [hs]; rfl) hl hs rfl) fun σ H Q ⟨μ,ρ,h,rs,s,oo⟩ => z0u rs s oo fun μ1 x h1 vx H1 x1 rs1 s1 r1 o1 => by
    split at o1
    · rename_i hl
      refine ⟨zl0 s1 r1 hl,z0u rs1 s1 o1 fun μ2 d h2 vd H2 x2 rs2 s2 r2 o2 => ?_⟩
      cases x with
      | ref j =>
        dsimp only [appD] at o2
        cases q : getL h2 j with
        | none => rw [q] at o2; exact o2.elim
        | some xs =>
          rw [q] at o2
          dsimp only at o2
          split at o2
          · rename_i hz
            obtain ⟨vs,ea,ra⟩ := s2.ob j _ (z0h q)
            obtain ⟨_,rfl⟩ := RelD.mono x2 _ _ r1
            obtain ⟨x3,s3⟩ := s2.write (z0h q) (ra.append (RelDL.cons r2 RelDL.nil))
            exact ⟨_,vs,vd,rfl,rfl,ea,by rw [ra.length]; exact Nat.lt_of_lt_of_le hz (by decide),o2 μ2 _ _ x3 s3 rfl⟩
          · exact o2.elim
      | _ => exact o2.elim
    · exact o1.elim
end
section
variable {X : Cx} {G : Cfg} {E : XK} {e i : Expr} {mo me mi : M Dv} {ml : M (List Dv)} {pos apos cpos np : Pos} {y : Str}
def extD (o : Dv) (ys : List Dv) (h : Hs) : Rs Dv := match o with
  | .ref j => match getL h j with
    | some xs => lim (xs.length + ys.length) (.ok .non (h.set j (.lst (xs ++ ys))))
    | none => .bad
  | _ => .bad
def setD (o i d : Dv) (h : Hs) : Option Hs := match o,i with
  | .ref j,.int k => match getL h j with
    | some xs => match ixN xs.length k with
      | some n => some (h.set j (.lst (xs.set n d)))
      | none => none
    | none => none
  | _,_ => none
def z24 (mo mi me : M Dv) : MS:= fun ρ h => (me ρ h).thenS fun d h1 => (mo ρ h1).thenS fun o h2 => (mi ρ h2).thenS fun i h3 => match setD o i d h3 with
  | some h4 => .nx ρ h4
  | none => .bad
theorem z36 {o : Expr} {spos : Pos} (ho : Snd X G E o mo) (hi : Snd X G E i mi) (he : Snd X G E e me)
    (ha : ∀ v,assign (.Subscript o i spos) X.env v = (do
      let ov ← holding [v] (eval o X.env)
      let iv ← holding [v,ov] (eval i X.env)
      standAt spos
      holding [v,ov,iv] (setItem ov iv v)
      release [v,ov,iv] []) := by intro _; rfl)
    (hs : swapsWithSole [.Subscript o i spos] e pos.line X.env = pure false := by rfl) (hw : swappedStores [.Subscript o i spos] e X.env = pure none := by rfl)
    (h1 : (assignEach [.Subscript o i spos] X.env).map (·.2) = [assign (.Subscript o i spos) X.env] := by rfl) : SndS X G E (.Assign [.Subscript o i spos] e pos) (z24 mo mi me):= fun hK =>
  PS.imp (zjx (he hK) (zjw (ho hK) (hi hK) zd0 ha) hs hw h1) fun D σ H ⟨μ,ρ,h,rs,s,oo⟩ => z1s rs s oo fun μ1 d h1 v H1 x1 rs1 s1 r1 o1 => z1s rs1 s1 o1 fun μ2 ob h2 vo H2 x2 rs2 s2 r2 o2 => z1s rs2 s2 o2 fun μ3 ix h3 vi H3 x3 rs3 s3 r3 o3 => by
    cases ob with
    | ref j =>
      cases ix with
      | int k =>
        dsimp only [setD] at o3
        cases q : getL h3 j with
        | none => rw [q] at o3; exact o3.elim
        | some xs =>
          rw [q] at o3
          dsimp only at o3
          cases q2 : ixN xs.length k with
          | none => rw [q2] at o3; exact o3.elim
          | some n =>
            rw [q2] at o3
            obtain ⟨vs,ea,ra⟩ := s3.ob j _ (z0h q)
            obtain ⟨_,rfl⟩ := RelD.mono x3 _ _ r2
            rw [RelD] at r3; subst r3
            obtain ⟨x4,s4⟩ := s3.write (z0h q) (RelDL.set (RelD.mono (x2.trans x3) _ _ r1) n ra)
            exact ⟨_,vs,k,n,rfl,rfl,ea,by rw [ra.length]; exact q2,o3 μ3 _ σ x4 s4 (rs3.mono x4)⟩
      | _ => exact o3.elim
    | _ => cases ix <;> exact o3.elim
end
section
variable {prog : Program} {w : World} {A : Around} {E : Value→Shared→Prop} {s : Shared}
theorem zdi {it t : Addr} {i : Nat} {items : Array Value} {x : Value} {Q : Value→Shared→Prop} (hit : s.heap.IsTupleIter it t i) (ht : s.heap.IsTuple t items) (hx : items[i]? = some x)
    (k : ∀ h',h'.IsTupleIter it t (i + 1)→Heap.SameBut it s.heap h'→Q x { s with heap := h' }) : wpAny (model prog w) A (Builtin.SmallTypes.nextOf (.ref it)) Q E s:= by
  obtain ⟨o,ho,hc,hd⟩ := id hit
  obtain ⟨ol,hol,hcl,nl,hdl⟩ := id ht
  refine wpAny_bind (wpAny_callSpecial?_slot (name := Str.ofString "__next__") hit.typeIs F.slot_tuple_iterator_next (wpAny_call_entry F.slot_tuple_iterator_next hit.typeIs F.entry_tuple_iterator_next ?_ (F.args_tuple_iterator_next_1 _)))
  have q0 : ∀ {Q' : Value→Shared→Prop} {E' : Value→Shared→Prop} {B : Around},Q' (.ref t) s→wpAny (model prog w) B (field (.ref it) 0) Q' E' s:= fun q => wpAny_field ho hd (x := .ref t) rfl q
  have q1 : ∀ {Q' : Value→Shared→Prop} {E' : Value→Shared→Prop} {B : Around},Q' (.int i 0) s→wpAny (model prog w) B (field (.ref it) 1) Q' E' s:= fun q => wpAny_field ho hd (x := .int i 0) rfl q
  refine wpAny_bind (wpAny_pure (wpAny_bind (q0 ?_)))
  dsimp only
  rw [if_neg (by simp)]
  refine wpAny_bind (q1 (wpAny_bind (wpAny_seqItems hol hdl ?_)))
  rw [show ((i : Int)).toNat = i from Int.toNat_natCast i]
  dsimp only
  rw [hx]
  refine wpAny_bind (wpAny_setField ho hd (by simp) (wpAny_pure ⟨x,rfl,wpAny_pure (k _ ⟨_,Heap.get?_update_self _ ho (Obj.isFreed_of_fields (Obj.data_mapFields hd _)), ?_, ?_⟩ (Heap.SameBut.update ..))⟩))
  · rw [Obj.cls_mapFields]; exact hc
  · rw [Obj.data_mapFields hd]; simp [rawInt]
end
section
variable {prog : Program} {w : World} {A : Around} {E : Value→Shared→Prop} {s : Shared}
theorem z9p {α : Type} {Q : α→Shared→Prop} (hh : A.handled = none) (k : ∀ h' e,(∀ b o,s.heap.get? b = some o→h'.get? b = some o)→(∃ o,h'.get? e = some o∧o.cls = .type "StopIteration")→E (.ref e) { s with heap := h' }) :
    wpAny (model prog w) A (Builtin.SmallTypes.stopIteration : Sem α) Q E s:= by
  have e0 : firstArgMember (.type "StopIteration") [] = pure Value.none:= by
    show (pure (if _ then Value.none else Value.none) : Sem Value) = _
    rw [ite_self]
  unfold Builtin.SmallTypes.stopIteration newExc newTuple
  refine wpAny_bind (wpAny_bind (wpAny_newObj_type (wpAny_bind (wpAny_of_eq e0 (wpAny_newObj_type (wpAny_raiseNew_none hh (k _ _ (fun b o q => Heap.get?_push_of_some _ (Heap.get?_push_of_some _ q)) ⟨_,Heap.get?_push_size _ rfl,rfl⟩)) (by size_fits)))) (by size_fits)))
theorem zdj {it t : Addr} {i : Nat} {items : Array Value} {Q : Value→Shared→Prop} (hh : A.handled = none) (hit : s.heap.IsTupleIter it t i) (ht : s.heap.IsTuple t items) (hx : items[i]? = none)
    (k : ∀ h' e,Heap.ExtBut it s.heap h'→(∃ o,h'.get? e = some o∧o.cls = .type "StopIteration")→E (.ref e) { s with heap := h' }) : wpAny (model prog w) A (Builtin.SmallTypes.nextOf (.ref it)) Q E s:= by
  obtain ⟨o,ho,hc,hd⟩ := id hit
  obtain ⟨ol,hol,hcl,nl,hdl⟩ := id ht
  refine wpAny_bind (wpAny_callSpecial?_slot (name := Str.ofString "__next__") hit.typeIs F.slot_tuple_iterator_next (wpAny_call_entry F.slot_tuple_iterator_next hit.typeIs F.entry_tuple_iterator_next ?_ (F.args_tuple_iterator_next_1 _)))
  have q0 : ∀ {Q' : Value→Shared→Prop} {E' : Value→Shared→Prop} {B : Around},Q' (.ref t) s→wpAny (model prog w) B (field (.ref it) 0) Q' E' s:= fun q => wpAny_field ho hd (x := .ref t) rfl q
  have q1 : ∀ {Q' : Value→Shared→Prop} {E' : Value→Shared→Prop} {B : Around},Q' (.int i 0) s→wpAny (model prog w) B (field (.ref it) 1) Q' E' s:= fun q => wpAny_field ho hd (x := .int i 0) rfl q
  refine wpAny_bind (wpAny_pure (wpAny_bind (q0 ?_)))
  dsimp only
  rw [if_neg (by simp)]
  refine wpAny_bind (q1 (wpAny_bind (wpAny_seqItems hol hdl ?_)))
  rw [show ((i : Int)).toNat = i from Int.toNat_natCast i]
  dsimp only
  rw [hx]
  refine wpAny_bind (wpAny_rule (wpAny_bind (wpAny_setField ho hd (by simp) (z9p (show A.in1.handled = none from hh) fun h' e kp st => k h' e (fun b u hb q => kp b u ?_) st))))
  rw [Heap.get?_update_other _ _ (Ne.symm hb)]
  exact q
end
structure Draws (prog : Program) (w : World) (it src : Addr) (xs : List Value) (st : Nat→Heap→Prop) : Prop where
  keep : ∀ i h h',st i h→(∀ b o,b = it ∨ b = src→h.get? b = some o→h'.get? b = some o)→st i h'
  there : ∀ i h,st i h→∃ o vs,h.get? it = some o∧o.data = .fields vs
  item : ∀ (A : Around) (i : Nat) (x : Value) (s : Shared) (Q : Value→Shared→Prop) (E : Value→Shared→Prop),xs[i]? = some x→st i s.heap →
    (∀ h',st (i + 1) h'→Heap.SameBut it s.heap h'→Q x { s with heap := h' })→wpAny (model prog w) A (Builtin.SmallTypes.nextOf (.ref it)) Q E s
  done : ∀ (A : Around) (i : Nat) (s : Shared) (Q : Value→Shared→Prop) (E : Value→Shared→Prop),A.handled = none→xs[i]? = none→st i s.heap →
    (∀ h' e,Heap.ExtBut it s.heap h'→(∃ o,h'.get? e = some o∧o.cls = .type "StopIteration")→E (.ref e) { s with heap := h' })→wpAny (model prog w) A (Builtin.SmallTypes.nextOf (.ref it)) Q E s
structure Four (z TI TO i j u v : Addr) : Prop where
  a : z ≠ TO
  b : z ≠ i
  c : z ≠ j
  d : TO ≠ i
  e : TO ≠ j
  f : i ≠ j
  g : TI ≠ z
  h : TI ≠ TO
  k : TI ≠ i
  l : TI ≠ j
  u1 : u ≠ z
  u2 : u ≠ TO
  u3 : u ≠ i
  u4 : u ≠ j
  v1 : v ≠ z
  v2 : v ≠ TO
  v3 : v ≠ i
  v4 : v ≠ j
theorem ne2 {b x y c : Addr} (h : b = x ∨ b = y) (p : x ≠ c) (q : y ≠ c) : b ≠ c:= by
  rcases h with h | h
  · rw [h]; exact p
  · rw [h]; exact q
def But (z TO i j : Addr) (h h' : Heap) : Prop := ∀ b o,b ≠ z→b ≠ TO→b ≠ i→b ≠ j→h.get? b = some o→h'.get? b = some o
section
variable {prog : Program} {w : World} {A : Around} {E : Value→Shared→Prop} {s : Shared} {z TI TO i j u v : Addr} {xs ys : List Value} {st su : Nat→Heap→Prop}
theorem zdk {n : Nat} {x y a b : Value} {Q : Value→Shared→Prop} (F4 : Four z TI TO i j u v) (P : Draws prog w i u xs st) (R : Draws prog w j v ys su) (hz : IsZip s.heap z TI TO .none) (hTI : IsPair s.heap TI (.ref i) (.ref j)) (hTO : IsPair s.heap TO a b)
    (p : st n s.heap) (r : su n s.heap) (hx : xs[n]? = some x) (hy : ys[n]? = some y)
    (k : ∀ h' T,s.heap.objs.size ≤ T→IsZip h' z TI TO (rawInt T)→IsPair h' TI (.ref i) (.ref j)→IsPair h' TO x y→st (n + 1) h'→su (n + 1) h'→IsPair h' T x y→But z TO i j s.heap h'→Q (.ref T) { s with heap := h' }) :
    wpAny (model prog w) A (Builtin.«zip.__next__» ⟨[.ref z],[]⟩) (fun fin s' => ∃ v,fin = .done (.ret v)∧Q v s') E s:= by
  refine wpAny_bind (wpAny_pure (wpAny_bind (wpAny_field hz rfl (x := .bool false) rfl (wpAny_bind (wpAny_field hz rfl (x := .ref TI) rfl (wpAny_bind (wpAny_seqItems hTI rfl ?_)))))))
  have fr : ∀ {Q' : Bool→Shared→Prop} {E' : Value→Shared→Prop},Q' true s→wpAny (model prog w) A (Builtin.SmallTypes.ownedTupleIsFree (.ref z)) Q' E' s:= fun q => wpAny_bind (wpAny_field hz rfl (x := .none) rfl (wpAny_pure q))
  refine wpAny_bind (fr ?_)
  rw [if_pos rfl]
  refine wpAny_bind (wpAny_rule (wpAny_bind (wpAny_field hz rfl (x := .ref TO) rfl (wpAny_bind (wpAny_setField_rec hz (by simp) fun g1 z1 b1 => ?_)))))
  have z1' : IsZip g1 z TI TO .ellipsis := z1
  refine wpAny_bind ?_
  show wpAny _ _ (forIn [(Value.ref i,0),(Value.ref j,1)] _ _) _ _ _
  rw [List.forIn_cons]
  refine wpAny_bind (wpAny_bind (wpAny_onRaise ?_))
  show wpAny _ _ (Builtin.SmallTypes.nextOf (.ref i) >>= _) _ _ _
  refine wpAny_bind (P.item A n x _ _ _ hx (P.keep n _ _ p fun b o hb q => b1.extBut _ _ (ne2 hb (Ne.symm F4.b) F4.u1) q) fun g2 p2 b2 => wpAny_pure ?_)
  have t2 : IsPair g2 TO a b := b2.extBut _ _ F4.d (b1.extBut _ _ (Ne.symm F4.a) hTO)
  refine wpAny_bind (wpAny_seqItems t2 rfl (wpAny_bind (wpAny_updateSeq_pair t2 fun g3 t3 b3 => wpAny_bind (wpAny_letGo (wpAny_pure ?_)))))
  have t3' : IsPair g3 TO x b := t3
  dsimp only
  rw [List.forIn_cons]
  refine wpAny_bind (wpAny_bind (wpAny_onRaise ?_))
  show wpAny _ _ (Builtin.SmallTypes.nextOf (.ref j) >>= _) _ _ _
  have r3 : su n g3 := R.keep n _ _ r fun b o hb q => b3.extBut _ _ (ne2 hb (Ne.symm F4.e) F4.v2) (b2.extBut _ _ (ne2 hb (Ne.symm F4.f) F4.v3) (b1.extBut _ _ (ne2 hb (Ne.symm F4.c) F4.v1) q))
  refine wpAny_bind (R.item A n y _ _ _ hy r3 fun g4 r4 b4 => wpAny_pure ?_)
  have t4 : IsPair g4 TO x b := b4.extBut _ _ F4.e t3'
  refine wpAny_bind (wpAny_seqItems t4 rfl (wpAny_bind (wpAny_updateSeq_pair t4 fun g5 t5 b5 => wpAny_bind (wpAny_letGo (wpAny_pure ?_)))))
  have t5' : IsPair g5 TO x y := t5
  dsimp only
  rw [List.forIn_nil]
  refine wpAny_pure ?_
  refine wpAny_bind (wpAny_seqItems t5' rfl (wpAny_bind (wpAny_newTuple ?_)))
  have z5 : IsZip g5 z TI TO .ellipsis := b5.extBut _ _ F4.a (b4.extBut _ _ F4.c (b3.extBut _ _ F4.a (b2.extBut _ _ F4.b z1')))
  have sz : g5.objs.size = s.heap.objs.size := by rw [b5.1,b4.1,b3.1,b2.1,b1.1]
  have all5 : But z TO i j s.heap g5:= fun c o c1 c2 c3 c4 q => b5.extBut _ _ c2 (b4.extBut _ _ c4 (b3.extBut _ _ c2 (b2.extBut _ _ c3 (b1.extBut _ _ c1 q))))
  have p5 : st (n + 1) g5 := P.keep _ _ _ p2 fun b o hb q => b5.extBut _ _ (ne2 hb (Ne.symm F4.d) F4.u2) (b4.extBut _ _ (ne2 hb F4.f F4.u4) (b3.extBut _ _ (ne2 hb (Ne.symm F4.d) F4.u2) q))
  have r5 : su (n + 1) g5 := R.keep _ _ _ r4 fun b o hb q => b5.extBut _ _ (ne2 hb (Ne.symm F4.e) F4.v2) q
  generalize hob : ({ cls := .type "tuple",dict := none,data := .seq [x,y].toArray } : Obj) = ob
  have zp : IsZip (g5.push ob) z TI TO .ellipsis := Heap.get?_push_of_some _ z5
  refine wpAny_bind (wpAny_bind (wpAny_setField_rec zp (by simp) fun g7 z7 b7 => ?_))
  have z7' : IsZip g7 z TI TO (rawInt g5.objs.size) := z7
  refine wpAny_setField_rec z7' (by simp) fun g8 z8 b8 => wpAny_pure ⟨_,rfl, ?_⟩
  have up : ∀ c o,c ≠ z→g5.get? c = some o→g8.get? c = some o:= fun c o c1 q => b8.extBut _ _ c1 (b7.extBut _ _ c1 (Heap.get?_push_of_some _ q))
  have lz : z < g5.objs.size := Heap.lt_size z5
  have T8 : IsPair g8 g5.objs.size x y := b8.extBut _ _ (Nat.ne_of_gt lz) (b7.extBut _ _ (Nat.ne_of_gt lz) (by rw [← hob]; exact Heap.get?_push_size _ rfl))
  refine k g8 g5.objs.size (Nat.le_of_eq sz.symm) z8 (up _ _ F4.g (all5 _ _ F4.g F4.h F4.k F4.l hTI)) (up _ _ (Ne.symm F4.a) t5') (P.keep _ _ _ p5 fun b o hb q => up _ _ (ne2 hb (Ne.symm F4.b) F4.u1) q) (R.keep _ _ _ r5 fun b o hb q => up _ _ (ne2 hb (Ne.symm F4.c) F4.v1) q) T8 fun c o c1 c2 c3 c4 q => up _ _ c1 (all5 c o c1 c2 c3 c4 q)
end
section
variable {prog : Program} {w : World} {A : Around} {E : Value→Shared→Prop} {s : Shared} {z TI TO i j u v : Addr} {xs ys : List Value} {st su : Nat→Heap→Prop}
theorem zdl {n : Nat} {a b : Value} {Q : PySem.Fin→Shared→Prop} (hh : A.handled = none) (F4 : Four z TI TO i j u v) (P : Draws prog w i u xs st) (R : Draws prog w j v ys su) (hz : IsZip s.heap z TI TO .none) (hTI : IsPair s.heap TI (.ref i) (.ref j)) (hTO : IsPair s.heap TO a b)
    (p : st n s.heap) (r : su n s.heap) (hend : xs[n]? = none ∨ ys[n]? = none)
    (k : ∀ h' e,But z TO i j s.heap h'→(∃ o,h'.get? e = some o∧o.cls = .type "StopIteration")→E (.ref e) { s with heap := h' }) :
    wpAny (model prog w) A (Builtin.«zip.__next__» ⟨[.ref z],[]⟩) Q E s:= by
  refine wpAny_bind (wpAny_pure (wpAny_bind (wpAny_field hz rfl (x := .bool false) rfl (wpAny_bind (wpAny_field hz rfl (x := .ref TI) rfl (wpAny_bind (wpAny_seqItems hTI rfl ?_)))))))
  have fr : ∀ {Q' : Bool→Shared→Prop} {E' : Value→Shared→Prop},Q' true s→wpAny (model prog w) A (Builtin.SmallTypes.ownedTupleIsFree (.ref z)) Q' E' s:= fun q => wpAny_bind (wpAny_field hz rfl (x := .none) rfl (wpAny_pure q))
  refine wpAny_bind (fr ?_)
  rw [if_pos rfl]
  refine wpAny_bind (wpAny_rule (wpAny_bind (wpAny_field hz rfl (x := .ref TO) rfl (wpAny_bind (wpAny_setField_rec hz (by simp) fun g1 z1 b1 => ?_)))))
  have z1' : IsZip g1 z TI TO .ellipsis := z1
  have p1 : st n g1 := P.keep n _ _ p fun b o hb q => b1.extBut _ _ (ne2 hb (Ne.symm F4.b) F4.u1) q
  have fin : ∀ (g : Heap) (e : Addr),IsZip g z TI TO .ellipsis→But z TO i j s.heap g→(∃ o,g.get? e = some o∧o.cls = .type "StopIteration") →
      wpAny (model prog w) A (setField (.ref z) 0 .none) (fun _ s' => E (.ref e) s') E { s with heap := g }:= fun g e zz bt ⟨o,he,hc⟩ =>
    wpAny_setField_rec zz (by simp) fun g' _ b' => k g' e (fun c u c1 c2 c3 c4 q => b'.extBut _ _ c1 (bt c u c1 c2 c3 c4 q)) ⟨o,b'.extBut _ _ (fun q => by subst q; rw [zz] at he; cases he; simp at hc) he,hc⟩
  refine wpAny_bind ?_
  show wpAny _ _ (forIn [(Value.ref i,0),(Value.ref j,1)] _ _) _ _ _
  rw [List.forIn_cons]
  refine wpAny_bind (wpAny_bind (wpAny_onRaise ?_))
  show wpAny _ _ (Builtin.SmallTypes.nextOf (.ref i) >>= _) _ _ _
  cases hx : xs[n]? with
  | none => exact wpAny_bind (P.done A n _ _ _ hh hx p1 fun g2 e b2 he => fin g2 e (b2 _ _ F4.b z1') (fun c u c1 _ c3 _ q => b2 _ _ c3 (b1.extBut _ _ c1 q)) he)
  | some x =>
    have hy : ys[n]? = none:= by
      rcases hend with q | q
      · rw [hx] at q; cases q
      · exact q
    refine wpAny_bind (P.item A n x _ _ _ hx p1 fun g2 p2 b2 => wpAny_pure ?_)
    have t2 : IsPair g2 TO a b := b2.extBut _ _ F4.d (b1.extBut _ _ (Ne.symm F4.a) hTO)
    refine wpAny_bind (wpAny_seqItems t2 rfl (wpAny_bind (wpAny_updateSeq_pair t2 fun g3 t3 b3 => wpAny_bind (wpAny_letGo (wpAny_pure ?_)))))
    dsimp only
    rw [List.forIn_cons]
    refine wpAny_bind (wpAny_bind (wpAny_onRaise ?_))
    show wpAny _ _ (Builtin.SmallTypes.nextOf (.ref j) >>= _) _ _ _
    have r3 : su n g3 := R.keep n _ _ r fun b o hb q => b3.extBut _ _ (ne2 hb (Ne.symm F4.e) F4.v2) (b2.extBut _ _ (ne2 hb (Ne.symm F4.f) F4.v3) (b1.extBut _ _ (ne2 hb (Ne.symm F4.c) F4.v1) q))
    exact wpAny_bind (R.done A n _ _ _ hh hy r3 fun g4 e b4 he => fin g4 e (b4 _ _ F4.c (b3.extBut _ _ F4.a (b2.extBut _ _ F4.b z1'))) (fun c u c1 c2 c3 c4 q => b4 _ _ c4 (b3.extBut _ _ c2 (b2.extBut _ _ c3 (b1.extBut _ _ c1 q)))) he)
theorem z37 {it t : Addr} {items : Array Value} (hne : t ≠ it) : Draws prog w it t items.toList (fun i h => h.IsTupleIter it t i∧h.IsTuple t items) where
  keep:= fun i h h' ⟨⟨o,e,r⟩,⟨o2,e2,r2⟩⟩ k => ⟨⟨o,k _ _ (.inl rfl) e,r⟩,⟨o2,k _ _ (.inr rfl) e2,r2⟩⟩
  there:= fun i h ⟨⟨o,e,_,d⟩,_⟩ => ⟨o,_,e,d⟩
  item:= fun A i x s Q E hx ⟨a,b⟩ k => zdi a b (by simpa using hx) fun h' a' sb => k h' ⟨a',b.extBut sb.extBut hne⟩ sb
  done:= fun A i s Q E hh hx ⟨a,b⟩ k => zdj hh a b (by simpa using hx) k
end
def Itz (K : PySem.W.Frag) (t u : Addr) : It :=
  ⟨fun i H => ∃ vs ws v w,SqT K H t vs∧SqT K H u ws∧vs[i]? = some v∧ws[i]? = some w,
   fun i H x H' => ∃ p v w,x = .ref p∧H p = none∧H' = upd H p (.tup [v,w])∧(∀ vs,SqT K H t vs→vs[i]? = some v)∧∀ ws,SqT K H u ws→ws[i]? = some w,
   fun i H => ∃ vs ws,SqT K H t vs∧SqT K H u ws∧(vs.length ≤ i ∨ ws.length ≤ i)⟩
structure ZipAt (z TI TO i j t u : Addr) (n : Nat) (h : Heap) : Prop where
  zp : IsZip h z TI TO .none
  ti : IsPair h TI (.ref i) (.ref j)
  to : ∃ a b,IsPair h TO a b
  i1 : h.IsTupleIter i t n
  i2 : h.IsTupleIter j u n
section
variable {X : Cx} {pins : List (Addr × Obj)} {σ : St} {H : Hp} {s : Shared}
theorem Inv.turns {h' : Heap} {ch : List Addr} {T : Addr} {vs : List V} {its : List Value} (I : Inv X pins σ H s) (hch : ∀ b ∈ ch,FpOk X pins H b) (k : ∀ b o,b ∉ ch→s.heap.get? b = some o→h'.get? b = some o) (there : ∀ b ∈ ch,∃ o,h'.get? b = some o)
    (hT : s.heap.objs.size ≤ T) (hv : Vals vs its) (hl : vs.length ≤ sizeLine) (tp : IsTupX h' T its.toArray) : Inv X pins σ (upd H T (.tup vs)) { s with heap := h' }:= by
  have nT : H T = none := I.hok.fresh hT
  have nch : ∀ b o,H b = some o→b ∉ ch:= fun b o q z => by rw [(hch b z).1] at q; cases q
  have un : Un (frs X.stack) ch H (upd H T (.tup vs)) s.heap h' :=
    ⟨fun b o q _ _ hb => k b o hb q,fun b o q _ _ hb => ⟨o.slots,k b o hb q⟩,fun b o q n _ => by rw [z0g (Nat.ne_of_lt (Nat.lt_of_lt_of_le (Heap.lt_size q) hT))]; exact n,
      fun b o q hb => ⟨o,k b o hb q⟩,fun b xs q => z0k nT b _ q,fun b o u q => z0k nT b _ q,fun b ps q => ⟨#[],by rw [z0k nT b _ q]; simp⟩⟩
  have ok : HOk X.prog X.w (upd H T (.tup vs)) h':= fun b o q => by
    by_cases hb : b = T
    · subst hb; rw [z0i] at q; cases q; exact ⟨hl,its,hv,tp⟩
    · rw [z0g hb] at q
      refine (I.hok b o q).stay (fun c v hc z => k c v ?_ z) (fun c z => z0k nT c _ z) fun c xs z => z0k nT c _ z
      rcases hc with rfl | hc
      · exact nch c o q
      · exact nch c _ hc
  exact I.call (g' := s.gens) (d' := s.drawn) (t' := s.toks) un ok I.bare fun b hb => let ⟨_,f1,_,f3,f4,f5⟩ := hch b hb; ⟨f3,f1,f4,f5⟩
theorem Inv.turns0 {h' : Heap} {ch : List Addr} (I : Inv X pins σ H s) (hch : ∀ b ∈ ch,FpOk X pins H b) (k : ∀ b o,b ∉ ch→s.heap.get? b = some o→h'.get? b = some o) : Inv X pins σ H { s with heap := h' }:= by
  have nch : ∀ b o,H b = some o→b ∉ ch:= fun b o q z => by rw [(hch b z).1] at q; cases q
  refine I.call (g' := s.gens) (d' := s.drawn) (t' := s.toks) (ch := ch) ⟨fun b o q _ _ hb => k b o hb q,fun b o q _ _ hb => ⟨o.slots,k b o hb q⟩,fun _ _ _ n _ => n,fun b o q hb => ⟨o,k b o hb q⟩,fun _ _ q => q,fun _ _ _ q => q,fun b ps q => ⟨#[],by rw [q]; simp⟩⟩ (fun b o q => ?_) I.bare fun b hb => let ⟨_,f1,_,f3,f4,f5⟩ := hch b hb; ⟨f3,f1,f4,f5⟩
  refine (I.hok b o q).stay (fun c v hc z => k c v ?_ z) (fun _ z => z) fun _ _ z => z
  rcases hc with rfl | hc
  · exact nch c o q
  · exact nch c _ hc
end
theorem zdm {P : Program} {w : World} {K : PySem.W.Frag} {elts : List Expr} {kk : Nat} {tp : Pos} {z TI TO i j t u : Addr} (F4 : Four z TI TO i j t u) (hti : t ≠ i) (huj : u ≠ j) :
    Turn P w K (.Tuple elts kk tp) (Itz K t u) [z,TI,TO,i,j] z (ZipAt z TI TO i j t u) where
  mem := by simp
  obj:= fun n h st b hb => by
    obtain ⟨zp,ti,⟨a,b',to⟩,⟨o1,e1,_,d1⟩,⟨o2,e2,_,d2⟩⟩ := st
    simp at hb
    rcases hb with rfl | rfl | rfl | rfl | rfl
    · exact ⟨_,zp,fun v q => by cases q⟩
    · exact ⟨_,ti,fun v q => by cases q⟩
    · exact ⟨_,to,fun v q => by cases q⟩
    · exact ⟨_,e1,fun v q => by rw [d1] at q; cases q⟩
    · exact ⟨_,e2,fun v q => by rw [d2] at q; cases q⟩
  keep:= fun n h h' st k => by
    obtain ⟨zp,ti,⟨a,b',to⟩,⟨o1,e1,r1⟩,⟨o2,e2,r2⟩⟩ := st
    exact ⟨k _ (by simp) _ zp,k _ (by simp) _ ti,⟨a,b',k _ (by simp) _ to⟩,⟨o1,k _ (by simp) _ e1,r1⟩,⟨o2,k _ (by simp) _ e2,r2⟩⟩
  item:= by
    intro X hP hw hK hc n pins s σ H E I hf st hg
    subst hP hw hK
    obtain ⟨vs,ws,v,w',hq,hr,hv,hw'⟩ := hg
    obtain ⟨its,rv,p1,z1⟩ := I.tuple hq
    obtain ⟨jts,rw',p2,z2⟩ := I.tuple hr
    obtain ⟨x,hx,rx⟩ := rv.get hv
    obtain ⟨y,hy,ry⟩ := rw'.get hw'
    obtain ⟨zp,ti,⟨a,b,to⟩,i1,i2⟩ := st
    have hT : s.TypeIs (.ref z) "zip" := ⟨_,zp,rfl⟩
    unfold pyNext
    refine wpAny_bind (wpAny_attempt (wpAny_callSpecial?_slot (name := Str.ofString "__next__") hT F.slot_zip_next (wpAny_call_entry F.slot_zip_next hT F.entry_zip_next
      (zdk F4 (z37 (items := its.toArray) hti) (z37 (items := jts.toArray) huj) zp ti to ⟨i1,p1⟩ ⟨i2,p2⟩ (by simpa using hx) (by simpa using hy) fun h' T hnew a1 a2 a3 a4 a5 a6 bt => wpAny_pure ⟨_,rfl, ?_⟩) (F.args_zip_next_1 _))))
    refine wpAny_letOwnedTupleGo_zip a1 fun h2 z2' sb => ?_
    have kp : ∀ b o,b ∉ [z,TI,TO,i,j]→s.heap.get? b = some o→h2.get? b = some o:= fun b o hb q => by
      simp at hb
      obtain ⟨n1,n2,n3,n4,n5⟩ := hb
      exact sb.extBut _ _ n1 (bt b o n1 n3 n4 n5 q)
    have Tz : T ≠ z := Nat.ne_of_gt (Nat.lt_of_lt_of_le (Heap.lt_size zp) hnew)
    have T2 : IsPair h2 T x y := sb.extBut _ _ Tz a6
    have th : ∀ b ∈ [z,TI,TO,i,j],∃ o,h2.get? b = some o:= fun b hb => by
      obtain ⟨⟨o1,e1,_⟩,_⟩ := a4
      obtain ⟨⟨o2,e2,_⟩,_⟩ := a5
      simp at hb
      rcases hb with rfl | rfl | rfl | rfl | rfl
      · exact ⟨_,z2'⟩
      · exact ⟨_,sb.extBut _ _ F4.g a2⟩
      · exact ⟨_,sb.extBut _ _ (Ne.symm F4.a) a3⟩
      · exact ⟨_,sb.extBut _ _ (Ne.symm F4.b) e1⟩
      · exact ⟨_,sb.extBut _ _ (Ne.symm F4.c) e2⟩
    have I2 := Inv.turns (T := T) (vs := [v,w']) (its := [x,y]) I hf kp th hnew (.cons rx (.cons ry .nil)) (by show 2 ≤ sizeLine; decide) ⟨_,T2,rfl,rfl,_,rfl⟩
    have nT : H T = none := I.hok.fresh hnew
    refine ⟨.ref T,_,I2,rfl,⟨T,v,w',rfl,nT,rfl,fun vs' h' => by rw [I.tuple_inj h' hq]; exact hv,fun ws' h' => by rw [I.tuple_inj h' hr]; exact hw'⟩, ?_,fun b hb => ?_⟩
    · exact ⟨z2',sb.extBut _ _ F4.g a2,⟨_,_,sb.extBut _ _ (Ne.symm F4.a) a3⟩,a4.1.extBut sb.extBut (Ne.symm F4.b),a5.1.extBut sb.extBut (Ne.symm F4.c)⟩
    · obtain ⟨o,q,_⟩ : ∃ o,s.heap.get? b = some o∧True:= by
        obtain ⟨o1,e1,_⟩ := i1
        obtain ⟨o2,e2,_⟩ := i2
        simp at hb
        rcases hb with rfl | rfl | rfl | rfl | rfl
        · exact ⟨_,zp,trivial⟩
        · exact ⟨_,ti,trivial⟩
        · exact ⟨_,to,trivial⟩
        · exact ⟨_,e1,trivial⟩
        · exact ⟨_,e2,trivial⟩
      rw [z0g (Nat.ne_of_lt (Nat.lt_of_lt_of_le (Heap.lt_size q) hnew))]
      exact (hf b hb).1
  done:= by
    intro X hP hw hK hc n pins s σ H E I hf st hg
    subst hP hw hK
    obtain ⟨vs,ws,hq,hr,hend⟩ := hg
    obtain ⟨its,rv,p1,z1⟩ := I.tuple hq
    obtain ⟨jts,rw',p2,z2⟩ := I.tuple hr
    have l1 := rv.length
    have l2 := rw'.length
    obtain ⟨zp,ti,⟨a,b,to⟩,i1,i2⟩ := st
    have hT : s.TypeIs (.ref z) "zip" := ⟨_,zp,rfl⟩
    unfold pyNext
    refine wpAny_bind (wpAny_attempt (wpAny_callSpecial?_slot (name := Str.ofString "__next__") hT F.slot_zip_next (wpAny_call_entry F.slot_zip_next hT F.entry_zip_next
      (zdl (show X.A.in1.handled = none from I.ok.hd hc) F4 (z37 (items := its.toArray) hti) (z37 (items := jts.toArray) huj) zp ti to ⟨i1,p1⟩ ⟨i2,p2⟩ (by
        rcases hend with q | q
        · exact .inl (by simp; omega)
        · exact .inr (by simp; omega)) fun h' e bt ⟨o,he,hcl⟩ => wpAny_bind (wpAny_isInstance (T := "StopIteration") (b := true) ⟨o,he,hcl⟩ isSubtype_stop (wpAny_pure ⟨rfl, ?_⟩))) (F.args_zip_next_1 _))))
    refine Inv.turns0 I hf fun b o hb q => ?_
    simp at hb
    exact bt b o hb.1 hb.2.2.1 hb.2.2.2.1 hb.2.2.2.2 q
  self:= fun _ _ _ _ _ st h => wpAny_pyIter_zip st.zp h
def zfm (t u : Addr) (h : Heap) (z : Addr) (h' : Heap) : Prop := ∃ TI TO i j,ZipAt z TI TO i j t u 0 h'∧Four z TI TO i j t u∧(∀ b ∈ [z,TI,TO,i,j],h.objs.size ≤ b)∧∀ b o,h.get? b = some o→h'.get? b = some o
theorem z71 {h h' : Heap} {o : Obj} (e : h' = h.push o) (nf : o.isFreed = false) : h'.get? h.objs.size = some o := by rw [e]; exact Heap.get?_push_size _ nf
theorem zl1 (n t u : Nat) (lt : t < n) (lu : u < n) : Four (n + 4) (n + 2) (n + 3) n (n + 1) t u:= by
  have ne : ∀ {a b : Nat},(a < b ∨ b < a)→a ≠ b:= fun h => by omega
  exact ⟨ne (by omega),ne (by omega),ne (by omega),ne (by omega),ne (by omega),ne (by omega),ne (by omega),ne (by omega),ne (by omega),ne (by omega),ne (by omega),ne (by omega),ne (by omega),ne (by omega),ne (by omega),ne (by omega),ne (by omega),ne (by omega)⟩
theorem five {t u : Addr} {hp h1 h2 h3 h4 h5 : Heap} {n : Nat} (hn : n = hp.objs.size) (lt : t < n) (lu : u < n)
    (e1 : h1 = hp.push { cls := .type "tuple_iterator",data := .fields #[.ref t,.int 0 0] }) (e2 : h2 = h1.push { cls := .type "tuple_iterator",data := .fields #[.ref u,.int 0 0] }) (e3 : h3 = h2.push { cls := .type "tuple",data := .seq #[.ref n,.ref (n + 1)] })
    (e4 : h4 = h3.push { cls := .type "tuple",data := .seq #[.none,.none] }) (e5 : h5 = h4.push { cls := .type "zip",data := .fields #[.none,.bool false,.bool false,.ref (n + 2),.ref (n + 3)] }) : zfm t u hp (n + 4) h5:= by
  have z1 : h1.objs.size = n + 1 := by rw [e1,Heap.size_push,hn]
  have z2 : h2.objs.size = n + 2 := by rw [e2,Heap.size_push,z1]
  have z3 : h3.objs.size = n + 3 := by rw [e3,Heap.size_push,z2]
  have z4 : h4.objs.size = n + 4 := by rw [e4,Heap.size_push,z3]
  have up : ∀ (h : Heap) (o : Obj) (b : Addr) (q : Obj),h.get? b = some q→(h.push o).get? b = some q:= fun h o b q e => Heap.get?_push_of_some _ e
  have g1 := z71 e1 rfl
  have g2 := z71 e2 rfl
  have g3 := z71 e3 rfl
  have g4 := z71 e4 rfl
  have g5 := z71 e5 rfl
  rw [← hn] at g1
  rw [z1] at g2
  rw [z2] at g3
  rw [z3] at g4
  rw [z4] at g5
  have u2 : ∀ b q,h2.get? b = some q→h5.get? b = some q:= fun b q e => by rw [e5,e4,e3]; exact up _ _ _ _ (up _ _ _ _ (up _ _ _ _ e))
  have u1 : ∀ b q,h1.get? b = some q→h5.get? b = some q:= fun b q e => u2 b q (by rw [e2]; exact up _ _ _ _ e)
  have u3 : ∀ b q,h3.get? b = some q→h5.get? b = some q:= fun b q e => by rw [e5,e4]; exact up _ _ _ _ (up _ _ _ _ e)
  have u4 : ∀ b q,h4.get? b = some q→h5.get? b = some q:= fun b q e => by rw [e5]; exact up _ _ _ _ e
  refine ⟨n + 2,n + 3,n,n + 1,⟨g5,u3 _ _ g3,⟨_,_,u4 _ _ g4⟩,⟨_,u1 _ _ g1,rfl,rfl⟩,⟨_,u2 _ _ g2,rfl,rfl⟩⟩, ?_, ?_,fun b q e => u1 b q (by rw [e1]; exact up _ _ _ _ e)⟩
  · exact zl1 n t u lt lu
  · intro b hb
    rw [← hn]
    simp at hb
    rcases hb with rfl | rfl | rfl | rfl | rfl
    · exact Nat.le_add_right _ _
    · exact Nat.le_add_right _ _
    · exact Nat.le_add_right _ _
    · exact Nat.le_refl _
    · exact Nat.le_add_right _ _
theorem zdn {t u : Addr} (xs ys : Array Value) : Meets (Builtin.«zip.__new__» ⟨[.type "zip",.ref t,.ref u],[]⟩) (fun _ R s => s.heap.IsTuple t xs∧s.heap.IsTuple u ys∧∀ h' z,zfm t u s.heap z h'→R (.ok (.ret (.ref z))) { s with heap := h' }) :=
  .of_wp fun prog w A R s h => by
    obtain ⟨ht,hu,k⟩ := h
    obtain ⟨hp,g,d,tk,os⟩ := s
    have sub := sub_zip
    have ht' : (⟨hp,g,d,tk,os⟩ : Shared).heap.IsTuple t xs := ht
    have hu' : (⟨hp.push { cls := .type "tuple_iterator",data := .fields #[.ref t,.int 0 0] },g,d,tk,os⟩ : Shared).heap.IsTuple u ys := hu.push _
    wp_walk using wpAny_pyIter_tuple ht',wpAny_pyIter_tuple hu'
    have lt : t < hp.objs.size := by obtain ⟨o,e,_⟩ := ht; exact Heap.lt_size e
    have lu : u < hp.objs.size := by obtain ⟨o,e,_⟩ := hu; exact Heap.lt_size e
    simp only [Heap.size_push]
    refine ⟨_,rfl,k _ _ (five rfl lt lu rfl rfl rfl rfl ?_)⟩
    simp only [Heap.size_push]
    rfl
section
variable {X : Cx} {G : Cfg} {E : XK} {a b : Expr} {elts : List Expr} {kk : Nat} {tp p pos : Pos} {ta : TA} {ms : M (List Dv)}
def iZip (K : PySem.W.Frag) (ta : TA) : TI:= fun σ H R => ta σ H fun vs H1 => ∃ t u xs ys,vs = [.ref t,.ref u]∧SqT K H1 t xs∧SqT K H1 u ys∧R (Itz K t u) H1
theorem znd : bootBuiltins "zip" = some (.type "zip") := by decide +kernel
theorem zl2 (hg : Gl X "zip") (hm : X.mg "zip" = none) (ha : PA X [a,b] ta) (hs : starEach [a,b] X.env = [(false,eval a X.env),(false,eval b X.env)] := by rfl) (hs2 : starEach [b] X.env = [(false,eval b X.env)] := by rfl) :
    PI X (.Tuple elts kk tp) (.Call (.Name "zip" p) [a,b] [] pos) (iZip X.K ta):= by
  intro pins s σ H R I h
  refine Call_ (z5a I hg hm znd (PyProof.Rows.callWith_type1 (thn (ha pos pins s σ H _ I h) fun us s1 ⟨vs,H1,I1,r1,q1⟩ => ?_) (by rw [hs,hs2]) (by rw [hs2]; rfl)))
  obtain ⟨t,u,xs,ys,e,hq,hr,q⟩ := q1
  subst e
  obtain ⟨u1,u2,rfl,e1,e2⟩ := za9 r1
  cases e1
  cases e2
  obtain ⟨its,rv,p1,_⟩ := I1.tuple hq
  obtain ⟨jts,rw',p2,_⟩ := I1.tuple hr
  refine callType_new F.called_zip (by decide) (F.typeCall_zip_2 _ _) (F.newCall_zip_2 _ _) (fun obj => F.args_object_init_3 obj _ _) F.entry_zip_new (zdn its.toArray jts.toArray) ⟨p1,p2,fun h' z nz => ?_⟩
  obtain ⟨TI,TO,i,j,za,f4,fresh,kp⟩ := nz
  refine ⟨⟨_,za.zp,rfl⟩, ?_⟩
  have I2 : Inv X pins σ H1 { s1 with heap := h' } := I1.kept (t' := s1.toks) kp
  refine wpAny_pyIter_zip za.zp ⟨z,[z,TI,TO,i,j],_,_,H1,rfl,I2,zdm f4 f4.u3 f4.v4,za,fun b hb => I1.fpOk (fresh b hb) (I1.hok.fresh (fresh b hb)),q⟩
def srcZ (xs ys : List Dv) : Src := srcL ((xs.zip ys).map fun q => .tup [q.1,q.2])
def zipS : List Dv→Hs→Rs Src
  | [.tup xs,.tup ys],h => .ok (srcZ xs ys) h
  | _,_ => .bad
theorem ItOk.zip {μ : Nat→Addr} {n : Nat} {H : Hp} {t u : Addr} {vs ws : List V} {xs ys : List Dv} {K : PySem.W.Frag} (e : H t = some (.tup vs)) (e' : H u = some (.tup ws)) (r : RelDL G μ n H xs vs) (r' : RelDL G μ n H ys ws) : ItOk G μ n H (srcZ xs ys) (Itz K t u):= by
  intro k μ2 h2 H2 x2 s2
  have f := x2.im t (.tup vs) trivial e
  have f' := x2.im u (.tup ws) trivial e'
  have g := RelDL.mono x2 _ _ r
  have g' := RelDL.mono x2 _ _ r'
  have hl : (srcZ xs ys).n = min xs.length ys.length := by simp [srcZ,srcL]
  constructor
  · intro hk d hd
    have hd' : ((xs.zip ys).map fun q => Dv.tup [q.1,q.2])[k]? = some d := hd
    rw [List.getElem?_map] at hd'
    cases q : (xs.zip ys)[k]? with
    | none => rw [q] at hd'; cases hd'
    | some xy =>
      rw [q] at hd'; cases hd'
      obtain ⟨qx,qy⟩ := List.getElem?_zip_eq_some.mp q
      obtain ⟨v,ev,rv⟩ := g.get qx
      obtain ⟨w',ew,rw'⟩ := g'.get qy
      refine ⟨⟨vs,ws,v,w',SqT.of f,SqT.of f',ev,ew⟩,fun x H' hy => ?_⟩
      obtain ⟨pp,v1,w1,rfl,np,rfl,a1,a2⟩ := hy
      have b1 := a1 vs (SqT.of f)
      have b2 := a2 ws (SqT.of f')
      rw [ev] at b1; rw [ew] at b2
      cases b1; cases b2
      have sm : Same H2 (upd H2 pp (.tup [v,w'])) := z0k np
      exact ⟨sm,pp,_,rfl,z0i,RelDL.cons (RelD.mono (Ext.same sm) _ _ rv) (RelDL.cons (RelD.mono (Ext.same sm) _ _ rw') RelDL.nil)⟩
  · intro hk _
    refine ⟨vs,ws,SqT.of f,SqT.of f', ?_⟩
    rw [g.length,g'.length,hk,hl]
    omega
theorem zl3 (hg : Gl X "zip") (hm : X.mg "zip" = none) (ha : SndA X G E [a,b] ms) (hs : starEach [a,b] X.env = [(false,eval a X.env),(false,eval b X.env)] := by rfl) (hs2 : starEach [b] X.env = [(false,eval b X.env)] := by rfl) :
    SndI X G E (.Tuple elts kk tp) (.Call (.Name "zip" p) [a,b] [] pos) (mas zipS ms):= fun hK =>
  PI.imp (zl2 hg hm (ha hK) hs hs2) fun σ H R ⟨μ,ρ,h,rs,s,o⟩ => z1k rs s o fun μ1 ds h1 vs H1 x1 rs1 s1 r1 o1 => by
    unfold zipS at o1
    split at o1
    · rename_i xs ys
      obtain ⟨v,v',rfl,rv,rv'⟩ := z4j r1
      obtain ⟨t,us,rfl,e,r⟩ := rv
      obtain ⟨u,ws,rfl,e',r'⟩ := rv'
      exact ⟨t,u,us,ws,rfl,SqT.of e,SqT.of e',o1.val s1 (ItOk.zip e e' r r')⟩
    · exact o1.elim
end
section
variable {prog : Program} {w : World} {A : Around} {E : Value→Shared→Prop} {s : Shared} {K : Frag} {e C N : Addr} {o : Obj}
theorem z7z {Q : Bool→Shared→Prop} (X : K.In s.heap) (he : s.heap.get? e = some o) (hc : o.cls = .ref C) (hn : subIn K (.ref N) (.type "BaseException") = some true) (ht : subIn K (.type "type") (.type "tuple") = some false) (hk : kitCls K (.ref N) (.ref N) = some true) {b : Bool} (hs : subIn K (.ref C) (.ref N) = some b) (q : Q b s) :
    wpAny (model prog w) A (excMatches (.ref e) (.ref N)) Q E s:= by
  have L1 := (kit_cls (M := model prog w) X hk).1
  have L2 := (kit_cls (M := model prog w) X hk).2.1
  have L3 := looks_subIn (M := model prog w) X hn
  have L4 := looks_subIn (M := model prog w) X hs
  have L5 := looks_subIn (M := model prog w) X ht
  obtain ⟨hp,g,d,tk,os⟩ := s
  unfold excMatches
  repeat (any_goals (first | assumption | (with_reducible refine wpAny_loadPart_at he ?_; rw [hc]) | with_reducible refine L1.at ?_ | with_reducible refine L2.at ?_ | with_reducible refine L3.at ?_ | with_reducible refine L4.at ?_ | with_reducible refine L5.at ?_ | wp_step))
  cases b
  all_goals (repeat (any_goals (first | assumption | wp_step)))
end
def z3k (P : Program) (w : World) (K : PySem.W.Frag) (mg : Str→Option Value) (base : Heap) (N : List Str) (qual : Str) (scope : Scope) (f : Addr) (cd : Value) (cl : List (Str × Addr)) (A : Around) (outer : List Env) (s : Shared) (H : Hp) (E : XK) : Cx where
  prog := P
  w := w
  K := K
  mg := mg
  base := base
  A := A.deeper (PySem.W.envX qual scope s.heap.objs.size f cd cl)
  N := N
  s₀ := s
  H₀ := H
  env := PySem.W.envX qual scope s.heap.objs.size f cd cl
  outer := outer
  stack := PySem.W.envX qual scope s.heap.objs.size f cd cl :: outer
  ex := []
  calm := true
  fn:= fun _ => false
  pn := []
  xe:= fun e s' => wpAny (model P w) (A.deeper (PySem.W.envX qual scope s.heap.objs.size f cd cl)) (leaving (PySem.W.envX qual scope s.heap.objs.size f cd cl) e) (fun _ s'' => CXm P w base outer H s E e s'') (fun e' s'' => CXm P w base outer H s E e' s'') s'
structure LamScope (N : List Str) (sc : Scope) : Prop where
  kind : sc.kind = .function
  co : sc.isCoroutine = false
  gen : sc.isGenerator = false
  nocell : ∀ x ∈ sc.names,x.2 ≠ .cell
  fr : ∀ x ∈ N,sc.names.lookup x = some .free
  all : ∀ x ∈ sc.names,x.2 = .free→x.1 ∈ N
structure LamAt (G : Cfg) (base : Heap) (H : Hp) (μ : Nat→Addr) (n : Nat) (N : List Str) (params : Arguments) (body : Expr) (scope : Scope) (f c' : Addr) (cl : List (Str × Addr)) (ds : List Dv) : Prop where
  ob : ∃ pm ctv,H f = some (.frz (PySem.W.kla_obj "<lambda>" G.lq params body scope cl pm c' ctv) (.own 0))
  cd : ∃ oc,H c' = some (.frz oc (.own 0))∧zd1 G.lq oc
  inj : ∀ x y c,cl.lookup x = some c→cl.lookup y = some c→x = y
  len : ds.length = N.length
  at_ : ∀ (i : Nat) (x : Str),N[i]? = some x→∃ c,cl.lookup x = some c
  cell : ∀ (x : Str) (c : Addr),cl.lookup x = some c→∃ o u,base.get? c = some o∧o.data = .cell u
  val : ∀ (i : Nat) (x : Str) (c : Addr) (d : Dv),N[i]? = some x→ds[i]? = some d→cl.lookup x = some c→∃ o u v,base.get? c = some o∧o.data = .cell (some u)∧RelV v u∧RelD G μ n H d v
section
variable {P : Program} {w : World} {K : PySem.W.Frag} {mg : Str→Option Value} {base : Heap} {N : List Str} {qual : Str} {scope : Scope} {f : Addr} {cdv : Value} {cl : List (Str × Addr)} {A : Around} {outer : List Env} {s0 : Shared} {H0 : Hp} {E0 : XK} {G : Cfg} {E : XK} {k : Nat}
theorem zdo (hr : Room k (A.deeper (PySem.W.envX qual scope s0.heap.objs.size f cdv cl))) (hK : K = G.K) (hE : ∀ u H',E u none H'→E0 u none H') (hF : Firm E) :
    Good (z3k P w K mg base N qual scope f cdv cl A outer s0 H0 E0) G E k where
  calm := rfl
  room := hr
  K := hK
  own := PassesOwn.leaving
  pas:= by
    intro pins σ H s u s' I ⟨e,C,H',eu,os,bare,un,hok,fl,he⟩
    subst eu
    have I' := I.call' os un hok bare (fun b z => absurd z (by simp))
    refine wpAny_bind (z66 (P := P) (w := w) (H := H') (base := base) I'.ok.frames I'.stack rfl hok I'.stkFree fl fun h'' H'' un2 hok2 fl2 sx => ?_)
    have I2 := I'.call (h' := h'') (g' := s'.gens) (d' := s'.drawn) (t' := s'.toks) un2 hok2 I'.bare (fun b z => absurd z (by simp))
    obtain ⟨T,a0,h1,_⟩ := id fl
    obtain ⟨T2,a2,h3,_⟩ := id fl2
    have xe1 : ExO C e T a0 s'.heap := (show ObjOk P w H' s'.heap e _ from hok e _ h1).1
    have : E (.ref e) none H'' := hF e H' H'' sx ⟨C,T,a0,T2,a2,h1,⟨_,xe1⟩,h3⟩ he
    exact ⟨e,C,H'',rfl,I2.os,I2.bare,I2.base,hok2,fl2,hE _ _ this⟩
  rais:= by
    intro pins σ H s h' e C args I mx he
    refine wpAny_bind (z8n (P := P) (w := w) (H := H) (base := base) I.ok.frames I.stack rfl I.hok I.stkFree I.bk mx fun h'' H'' un2 hok2 fl2 sm => ?_)
    have I2 := I.call (h' := h'') (g' := s.gens) (d' := s.drawn) (t' := s.toks) un2 hok2 I.bare (fun b z => absurd z (by simp))
    obtain ⟨T2,a2,h3,_⟩ := id fl2
    exact ⟨e,C,H'',rfl,I2.os,I2.bare,I2.base,hok2,fl2,hE _ _ (he H'' sm ⟨T2,a2,h3⟩)⟩
end
def exOf {α : Type} : Rs α→Sr
  | .ex c h => .ex c h
  | _ => .bad
section
variable {P : Program} {w : World} {K : PySem.W.Frag} {mg : Str→Option Value} {base : Heap} {N : List Str} {params : Arguments} {body : Expr} {scope : Scope} {f c' : Addr} {cl : List (Str × Addr)} {A : Around} {outer : List Env} {s : Shared} {H : Hp} {E : XK} {G : Cfg} {k : Nat} {μ : Nat→Addr} {h : Hs} {ds : List Dv}
theorem zhi {h1 : Heap} {tk : Nat} {σ : St} {E₀ : XK} (S : LamScope N scope) (hd : A.handled = none) (e0 : Env0 P w K mg base A outer s H) (L : LamAt G base H μ h.length N params body scope f c' cl ds)
    (hall : ∀ x c,cl.lookup x = some c→x ∈ N)
    (hns : h1.Ns s.heap.objs.size fun _ => none) (hk1 : ∀ b o,s.heap.get? b = some o→h1.get? b = some o)
    (hσ : σ.length = N.length) (hv : ∀ (i : Nat) (x : Str) (v : V),N[i]? = some x→σ[i]? = some (some v)→∃ c o u,cl.lookup x = some c∧base.get? c = some o∧o.data = .cell (some u)∧RelV v u) :
    Inv (z3k P w K mg base N G.lq scope f (.ref c') cl A outer s H E₀) [] σ H { s with heap := h1,toks := tk }:= by
  have noA : ∀ b : Addr,b ∉ (z3k P w K mg base N G.lq scope f (.ref c') cl A outer s H E₀).ex:= fun b z => absurd (show b ∈ ([] : List Addr) from z) (by simp)
  have kfree : ∀ x,scope.names.lookup x = some .free→x ∈ N:= fun x e => S.all _ (PySem.mem_of_lookup e) rfl
  refine ⟨⟨e0.mod,S.kind,rfl,rfl,Nat.le_refl _,L.inj,fun x hx => ?_,fun x c z => (nomatch z),fun _ => hd,Around.frames_deeper e0.frames,.inr ⟨rfl,rfl⟩,fun b z => absurd z (noA b),e0.bs,e0.bsz,fun b _ _ => noA b,fun b z => absurd z (noA b),e0.funs,e0.frf⟩,
    rfl,e0.bare,Un.kept hk1,⟨_,hns,fun i x v h1' h2 h3 => ?_⟩,fun x c e => ?_,e0.hok.fresh (Nat.le_refl _),fun x c e => ?_,fun p hp => absurd (show p ∈ ([] : List (Addr × Obj)) from hp) (by simp),e0.hok.kept hk1,hσ⟩
  · have hx : scope.names.lookup x = some .cell ∨ scope.names.lookup x = some .free := hx
    rcases hx with hx | hx
    · exact absurd rfl (S.nocell _ (PySem.mem_of_lookup hx))
    · obtain ⟨i,hi⟩ := List.getElem?_of_mem (kfree x hx)
      exact L.at_ i x hi
  · obtain ⟨c,o,u,e1,e2,e3,r⟩ := hv i x v h1' h2
    refine ⟨u,r,.inr ⟨.inr (S.fr x (List.mem_of_getElem? h1')),c,e1,o,hk1 _ _ (e0.bs _ _ e2).1,e3⟩⟩
  · obtain ⟨o,u,e2,e3⟩ := L.cell x c e
    exact ⟨u,o,hk1 _ _ (e0.bs _ _ e2).1,e3⟩
  · obtain ⟨o,u,e2,e3⟩ := L.cell x c e
    exact (e0.bs _ _ e2).2
theorem zhj {me : M Dv} {Q : VK} (S : LamScope N scope) (hK : K = G.K) (hb : ∀ (cl : List (Str × Addr)) (pm cdv ct : Value),bindArgs (PySem.W.kla_fn "<lambda>" G.lq params body scope cl pm cdv ct) ⟨[],[]⟩ = pure [])
    (hbody : ∀ (f : Addr) (cdv : Value) (cl : List (Str × Addr)) (A : Around) (outer : List Env) (s : Shared) (H : Hp) (E₀ E : XK),Good (z3k P w K mg base N G.lq scope f cdv cl A outer s H E₀) G E k→Snd (z3k P w K mg base N G.lq scope f cdv cl A outer s H E₀) G E body me)
    (hr : Room (k + 1) A) (e0 : Env0 P w K mg base A outer s H) (L : LamAt G base H μ h.length N params body scope f c' cl ds) (hall : ∀ x c,cl.lookup x = some c→x ∈ N) (sm : Sim G μ h H) (o : Out G E μ h.length H (me (ds.map some) h) (RelD G) Q) :
    codeAny (model P w) A (.call (.ref f) ⟨[],[]⟩) (CR (CXm P w base) outer P w H s Q E) s:= by
  obtain ⟨pm,ctv,ho⟩ := L.ob
  obtain ⟨oc,hc,vs,t,hcd,hq⟩ := L.cd
  have lim : s.heap.NoLimit := e0.mod.nolimit.keeps fun b o e => (e0.bs b o e).1
  have gc : s.heap.get? c' = some oc := (e0.hok c' _ hc).1
  refine PySem.W.kla_callFunE hr.depth (e0.hok f _ ho).1 rfl S.co S.gen rfl ⟨c',oc,vs,t,rfl,gc,hcd,hq⟩ ?_
  rw [hb]
  refine wpAny_pure (wpAny_newFunctionEnv S.nocell (fun x hx => absurd hx (by simp)) (fun h₁ hns hsb => ⟨lim.fresh _ hsb, ?_⟩) S.kind)
  show codeAny _ _ (.expr body (PySem.W.envX G.lq scope s.heap.objs.size f (.ref c') cl)) _ _
  have hk₁ : ∀ b o,s.heap.get? b = some o→h₁.get? b = some o:= fun b o e => hsb.extBut b o (Nat.ne_of_lt (Heap.lt_size e)) (Heap.get?_push_of_some _ e)
  have hvs : ∀ (i : Nat),i < N.length→∃ v : V,∀ d,ds[i]? = some d→RelD G μ h.length H d v∧∀ x,N[i]? = some x→∃ c o u,cl.lookup x = some c∧base.get? c = some o∧o.data = .cell (some u)∧RelV v u:= fun i hi => by
    obtain ⟨x,hx⟩ : ∃ x,N[i]? = some x := ⟨_,List.getElem?_eq_getElem hi⟩
    obtain ⟨d,hd⟩ : ∃ d,ds[i]? = some d := ⟨_,List.getElem?_eq_getElem (by rw [L.len]; exact hi)⟩
    obtain ⟨c,ec⟩ := L.at_ i x hx
    obtain ⟨oo,u,v,e1,e2,r1,r2⟩ := L.val i x c d hx hd ec
    refine ⟨v,fun d' hd' => ?_⟩
    rw [hd] at hd'; cases hd'
    refine ⟨r2,fun x' hx' => ?_⟩
    rw [hx] at hx'; cases hx'
    exact ⟨c,oo,u,ec,e1,e2,r1⟩
  have hch : ∃ vs : List V,vs.length = N.length∧∀ (i : Nat) (v : V),vs[i]? = some v→∀ d,ds[i]? = some d→RelD G μ h.length H d v∧∀ x,N[i]? = some x→∃ c o u,cl.lookup x = some c∧base.get? c = some o∧o.data = .cell (some u)∧RelV v u:= by
    have : ∀ m,m ≤ N.length→∃ vs : List V,vs.length = m∧∀ (i : Nat) (v : V),vs[i]? = some v→∀ d,ds[i]? = some d→RelD G μ h.length H d v∧∀ x,N[i]? = some x→∃ c o u,cl.lookup x = some c∧base.get? c = some o∧o.data = .cell (some u)∧RelV v u:= by
      intro m
      induction m with
      | zero => exact fun _ => ⟨[],rfl,fun i v e => by simp at e⟩
      | succ m ih =>
        intro hm
        obtain ⟨vs,hl,hv⟩ := ih (by omega)
        obtain ⟨v,hv'⟩ := hvs m (by omega)
        refine ⟨vs ++ [v],by simp [hl],fun i v' e d hd => ?_⟩
        by_cases hi : i < vs.length
        · rw [List.getElem?_append_left hi] at e
          exact hv i v' e d hd
        · rw [List.getElem?_append_right (by omega)] at e
          have : i = m:= by
            have := (List.getElem?_eq_some_iff.mp e).1
            simp at this; omega
          subst this
          simp [hl] at e; subst e
          exact hv' d hd
    exact this _ (Nat.le_refl _)
  obtain ⟨vs',hl,hv⟩ := hch
  have I : Inv (z3k P w K mg base N G.lq scope f (.ref c') cl A outer s H E) [] (vs'.map some) H { s with heap := h₁,toks := s.toks + ([] : List (Str × Value)).length }:= by
    refine zhi S hr.hd e0 L hall hns hk₁ (by simp [hl]) fun i x v h1 h2 => ?_
    have h3 : vs'[i]? = some v:= by
      rw [List.getElem?_map] at h2
      cases q : vs'[i]? with
      | none => rw [q] at h2; cases h2
      | some a => rw [q] at h2; cases h2; rfl
    obtain ⟨d,hd⟩ : ∃ d,ds[i]? = some d := ⟨_,List.getElem?_eq_getElem (by rw [L.len]; exact (List.getElem?_eq_some_iff.mp h1).1)⟩
    exact (hv i v h3 d hd).2 x h1
  have rs : RelS G μ h.length H (ds.map some) (vs'.map some) := ⟨by simp [hl,L.len],fun i d e => by
    have h3 : ds[i]? = some d:= by
      rw [List.getElem?_map] at e
      cases q : ds[i]? with
      | none => rw [q] at e; cases e
      | some a => rw [q] at e; cases e; rfl
    have hi : i < vs'.length := by rw [hl,← L.len]; exact (List.getElem?_eq_some_iff.mp h3).1
    exact ⟨vs'[i],by rw [List.getElem?_map,List.getElem?_eq_getElem hi]; rfl,(hv i _ (List.getElem?_eq_getElem hi) d h3).1⟩⟩
  have gd : Good (z3k P w K mg base N G.lq scope f (.ref c') cl A outer s H E) G (EB G μ h.length H (exOf (me (ds.map some) h))) k := zdo (hr.deeper _) hK (fun u H' ⟨c,h',μ',er,x,s',fl⟩ => by
    cases q : me (ds.map some) h with
    | ok d hh => rw [q] at er; cases er
    | bad => rw [q] at er; cases er
    | ex c1 h1 =>
      rw [q] at er o
      cases er
      exact o μ' H' u x s' fl) z7w
  refine PySem.W.kla_codeExpr (wpAny_mono (hbody f (.ref c') cl A outer s H E _ gd hK [] _ (vs'.map some) H Q I ⟨μ,ds.map some,h,rs,sm, ?_⟩) (fun u s' ⟨v,H',J,rv,q⟩ => ⟨v,H',J.os,J.bare,J.base,J.hok,rv,q⟩) fun e s' hs => hs)
  cases q : me (ds.map some) h with
  | ok d hh => rw [q] at o; exact o
  | bad => rw [q] at o; exact o
  | ex c1 h1 => exact fun μ' H' u x' s' fl => ⟨c1,h1,μ',rfl,x',s',fl⟩
end
section
variable {X : Cx} {pins : List (Addr × Obj)} {σ : St} {H : Hp} {s : Shared}
theorem z9q {i : Nat} {x : Str} {h' : Heap} {tk : Nat} {m : Str→Option Value} {v : Option Value} (I : Inv X pins σ H s) (hN : X.N.Nodup) (hi : X.N[i]? = some x) (hn : s.heap.Ns X.env.locals m)
    (hl : ∀ (i : Nat) (x : Str) (v : V),X.N[i]? = some x→σ[i]? = some (some v)→Vis X.env.scope x→∃ u,RelV v u∧Look X.env s.heap m x u)
    (hs : Heap.SameBut X.env.locals s.heap h') (hn' : h'.Ns X.env.locals (fun y => if y = x then v else m y)) : Inv X pins (σ.set i none) H { s with heap := h',toks := tk }:= by
  have cne := I.cne
  have hok : HOk X.prog X.w H h':= fun b ob e => by
    refine (I.hok b ob e).stay (fun c w' hc q => (hs.2 c ?_).trans q) (fun _ q => q) fun _ _ q => q
    rintro rfl
    have hfree := I.free
    rcases hc with hc | hc
    · rw [← hc] at e; rw [hfree] at e; cases e
    · rw [hfree] at hc; cases hc
  refine ⟨I.ok,I.os,I.bare,⟨fun b o e n hb hx => ?_,fun b o e n hb hx => ?_,I.base.free,fun b o e hx => ?_,I.base.tups,I.base.frzs,I.base.tbls⟩,⟨_,hn',fun j y v' e1 e2 e3 => ?_⟩,fun y c e => ?_,I.free,I.freeC,fun p hp => ?_,hok,by simpa using I.len⟩
  · exact (hs.2 b (Nat.ne_of_lt (Nat.lt_of_lt_of_le (Heap.lt_size e) I.ok.above))).trans (I.base.keep b o e n hb hx)
  · obtain ⟨sl,e1⟩ := I.base.slot b o e n hb hx
    exact ⟨sl,(hs.2 b (Nat.ne_of_lt (Nat.lt_of_lt_of_le (Heap.lt_size e) I.ok.above))).trans e1⟩
  · obtain ⟨o',e1⟩ := I.base.there b o e hx
    exact ⟨o',(hs.2 b (Nat.ne_of_lt (Nat.lt_of_lt_of_le (Heap.lt_size e) I.ok.above))).trans e1⟩
  · by_cases hj : j = i
    · subst hj
      have hiσ : j < σ.length := by rw [I.len]; exact (List.getElem?_eq_some_iff.mp hi).1
      rw [List.getElem?_set_self hiσ] at e2
      cases e2
    · rw [List.getElem?_set_ne (Ne.symm hj)] at e2
      obtain ⟨u',r',q⟩ := hl j y v' e1 e2 e3
      refine ⟨u',r', ?_⟩
      rcases q with ⟨k,e⟩ | ⟨k,c,e,z⟩
      · refine .inl ⟨k, ?_⟩
        have : y ≠ x:= fun e => hj (z5s hN e1 (e ▸ hi))
        show (if y = x then v else m y) = some u'
        rw [if_neg this]; exact e
      · exact .inr ⟨k,c,e,z.sameBut hs (cne y c e)⟩
  · obtain ⟨w',z⟩ := I.cell y c e
    exact ⟨w',z.sameBut hs (cne y c e)⟩
  · obtain ⟨e,n,ne,nf,d⟩ := I.pin p hp
    exact ⟨(hs.2 p.1 ne).trans e,n,ne,nf,d⟩
def z5k (X : Cx) (e : Value) : Cx := { X with A := X.A.mark (some e),calm := false,xe:= fun _ _ => False }
theorem z8r (e : Value) (I : Inv X pins σ H s) : Inv (z5k X e) pins σ H s :=
  have ok := I.ok
  ⟨⟨ok.mod,ok.kind,ok.glob,ok.blt,ok.above,ok.inj,ok.has,ok.cab,fun z => (nomatch z),ok.frames,ok.stk,ok.exf,ok.bs,ok.bsz,ok.noex,ok.exfs,ok.funs,ok.frf⟩,I.os,I.bare,I.base,I.loc,I.cell,I.free,I.freeC,I.pin,I.hok,I.len⟩
theorem z9r {e : Value} (ok : X.Ok) (I : Inv (z5k X e) pins σ H s) : Inv X pins σ H s := ⟨ok,I.os,I.bare,I.base,I.loc,I.cell,I.free,I.freeC,I.pin,I.hok,I.len⟩
end
section
variable {X : Cx} {G : Cfg} {E : XK} {k : Nat} {N : List Str} {params : Arguments} {body : Expr} {scope : Scope} {me : M Dv} {ncl : Nat} {NE : Addr}
theorem zl4 {x xn en nm : Str} {p cpos epos np xp ep apos hpos tpos : Pos} {pins : List (Addr × Obj)} {σ : St} {H : Hp} {s : Shared} {D : Ends} {f c' : Addr} {cl : List (Str × Addr)} {μ : Nat→Addr} {h : Hs} {ds : List Dv}
    (hK : X.K = G.K) (hst : X.stack = X.env :: X.outer) (hfr : X.env.frame = some X.env.locals) (hnd : X.N.Nodup) (h0 : X.N[0]? = some x) (h1 : X.N[1]? = some xn) (h2 : X.N[2]? = some en) (hfn : ∀ y,X.fn y = true)
    (l0 : X.env.scope.names.lookup x = some .local) (l1 : X.env.scope.names.lookup xn = some .local) (l2 : X.env.scope.names.lookup en = some .local)
    (d0 : (x == ("__debug__" : Str)) = false) (c0 : (x == ("__classdict__" : Str)) = false) (d2 : (en == ("__debug__" : Str)) = false) (c2 : (en == ("__classdict__" : Str)) = false) (dn : (nm == ("__debug__" : Str)) = false)
    (hsw : swapsWith (.Call (.Name x p) [] [] cpos) none epos.line X.env = pure false) (hsw2 : swapsWith (.Name en ep) (some (.Name xn xp)) apos.line X.env = pure false)
    (hg : Gl X nm) (hm : X.mg nm = some (.ref NE)) (hx1 : PySem.W.subIn X.K (.ref NE) (.type "BaseException") = some true) (hx2 : PySem.W.subIn X.K (.type "type") (.type "tuple") = some false) (hx3 : PySem.W.kitCls X.K (.ref NE) (.ref NE) = some true)
    (hsub : ∀ c,c < ncl→PySem.W.subIn X.K (.ref (G.cl c)) (.ref NE) = some true)
    (S : LamScope N scope) (hb : ∀ (cl : List (Str × Addr)) (pm cdv ct : Value),bindArgs (PySem.W.kla_fn "<lambda>" G.lq params body scope cl pm cdv ct) ⟨[],[]⟩ = pure [])
    (hbody : ∀ (f : Addr) (cdv : Value) (cl : List (Str × Addr)) (A : Around) (outer : List Env) (s : Shared) (H : Hp) (E₀ E : XK),Good (z3k X.prog X.w X.K X.mg X.base N G.lq scope f cdv cl A outer s H E₀) G E k→Snd (z3k X.prog X.w X.K X.mg X.base N G.lq scope f cdv cl A outer s H E₀) G E body me)
    (hr : Room (k + 1) X.A) (I : Inv X pins σ H s) (hσ : σ[0]? = some (some (.ref f))) (L : LamAt G X.base H μ h.length N params body scope f c' cl ds) (hall : ∀ x c,cl.lookup x = some c→x ∈ N) (sm : Sim G μ h H)
    (hD : match me (ds.map some) h with
      | .ok _ h1 => ∀ μ' H',Ext μ h.length H μ' h1.length H'→Sim G μ' h1 H'→D.nx σ H'
      | .ex c h1 => c < ncl∧∀ μ' H' a,Ext μ h.length H μ' h1.length H'→Sim G μ' h1 H'→RelD G μ' h1.length H' (.exc c) (.ref a)→D.nx (((σ.set 2 (some (.ref a))).set 1 (some (.ref a))).set 2 none) H'
      | .bad => False) :
    wpAny (model X.prog X.w) X.A (exec (.Try [.Expr (.Call (.Name x p) [] [] cpos) epos] [.ExceptHandler (some (.Name nm np)) (some en) [.Assign [.Name xn xp] (.Name en ep) apos] hpos] [] [] tpos) X.env) (SP X pins D) X.xe s:= by
  have hcls : (X.env.scope.kind == .class || (X.env.scope.kind == .module && X.env.locals != X.env.globals)) = false := by rw [I.ok.kind]; rfl
  refine wpAny_Try_except ?_
  obtain ⟨pm,ctv,ho⟩ := L.ob
  refine wpAny_execs_cons (wpAny_Expr_any (wpAny_Call_Name_kw (thn (wpAny_mono (za2 (X := X.nox) (pos := p) h0 (.inl l0) d0 c0 pins s σ H (fun v H' => v = .ref f∧H' = H) (I.wish _) ⟨_,hσ,rfl,rfl⟩) (fun _ _ q => q) fun _ _ z => False.elim z) fun u s1 ⟨v,H',I',r,e1,e2⟩ => ?_)) I.quiet hsw)
  subst e1; subst e2
  cases r
  have I1 : Inv X pins σ H' s1 := I'.unwish
  refine PySem.W.callWith_F0 ⟨_,_,_,_,(I1.hok f _ ho).1⟩ ?_
  refine wpAny_call (codeAny_mono (zhj (E := EB G μ h.length H' (exOf (me (ds.map some) h))) (Q:= fun _ H2 => ∃ d hh μ',me (ds.map some) h = .ok d hh∧Ext μ h.length H' μ' hh.length H2∧Sim G μ' hh H2) S hK hb hbody hr I1.env0 L hall sm ?_) fun r s' hq => ?_)
  · cases q : me (ds.map some) h with
    | ok d hh => exact fun μ' H' v x' s' _ => ⟨d,hh,μ',rfl,x',s'⟩
    | bad => rw [q] at hD; exact hD.elim
    | ex c1 h1 => exact fun μ' H' u x' s' fl => ⟨c1,h1,μ',rfl,x',s',fl⟩
  cases r with
  | ok fl =>
    cases fl with
    | ret u =>
      obtain ⟨v,H2,I2,r2,d,hh,μ',e1,x1,s1⟩ := I1.after hq
      refine wpAny_execs_nil (wpAny_execs_nil ?_)
      rw [e1] at hD
      exact ⟨σ,H2,I2,hD μ' H2 x1 s1⟩
    | next => exact False.elim hq
    | brk => exact False.elim hq
    | cont => exact False.elim hq
  | error ev =>
    obtain ⟨e,C,H2,rfl,os,bare,un,hok,fl,c,hh,μ',er,x1,sm1,e',φ,eu,g1,g2⟩ := hq
    cases eu
    cases qm : me (ds.map some) h with
    | ok d h3 => rw [qm] at er; cases er
    | bad => rw [qm] at er; cases er
    | ex c3 h3 =>
    rw [qm] at er hD
    cases er
    obtain ⟨hc,hD⟩ := hD
    have I2 : Inv X pins σ H2 s' := I1.call' os un hok bare (fun b z => absurd z (by simp))
    refine z66 (P := X.prog) (w := X.w) (H := H2) (base := X.base) (env := X.env) (outer := X.outer) (by rw [← hst]; exact I2.ok.frames) (by rw [← hst]; exact I2.stack) hfr hok (by rw [← hst]; exact I2.stkFree) fl fun h4 H4 un4 hok4 fl4 sx4 => ?_
    have I4 : Inv X pins σ H4 { s' with heap := h4 } := I2.call (h' := h4) (g' := s'.gens) (d' := s'.drawn) (t' := s'.toks) (by rw [hst]; exact un4) hok4 I2.bare (fun b z => absurd z (by simp))
    obtain ⟨sm4,x4⟩ := sm1.sameX sx4 ⟨_,g1⟩
    obtain ⟨T,a0,w1,w2,w3,w4⟩ := id fl4
    obtain ⟨T0,b0,v1,_,_,_⟩ := id fl
    have hC : C = .ref (G.cl c):= by
      have xo : ExO C e T0 b0 s'.heap := (show ObjOk X.prog X.w H2 s'.heap e _ from hok e _ v1).1
      rw [v1] at g1; cases g1
      obtain ⟨oo,q1,q2⟩ := g2 _ xo
      obtain ⟨o2,vs2,q3,q4,_⟩ := xo
      rw [q3] at q1; cases q1
      rw [← q4,q2]
    subst hC
    have xo4 : ExO (.ref (G.cl c)) e T a0 h4 := (show ObjOk X.prog X.w H4 h4 e _ from hok4 e _ w1).1
    obtain ⟨oe,vs,y1,y2,y3,y4,y5,y6⟩ := id xo4
    refine wpAny_handleBy_cons (codeAny_handlers_test (wpAny_mono (z47 (X := z5k X (.ref e)) (E:= fun _ _ => False) (Q:= fun u s5 => u = .ref NE∧Inv X pins σ H4 s5∧s5.heap = h4) (z8r _ I4) hg hm ⟨rfl,I4,rfl⟩ dn) (fun cv s5 hs5 => ?_) fun _ _ z => False.elim z)) (by intro z; cases z)
    obtain ⟨rfl,I5,e5⟩ := hs5
    refine z7z (K := X.K) I5.kIn (by rw [e5]; exact y1) y2 hx1 hx2 hx3 (hsub c hc) ?_
    obtain ⟨oT,ts,z1,z2,z3⟩ : TbO T h4 := (show ObjOk X.prog X.w H4 h4 T _ from hok4 T _ w2).1
    have l3 : 3 < ts.size := (Array.getElem?_eq_some_iff.mp z3).1
    refine codeAny_handlers_suite_as (land (e := e) (T := T) (by rw [e5]; exact y1) y3 y5 (by rw [e5]; exact z1) z2 l3 fun h6 sb6 tb6 => ?_)
    rw [e5] at sb6
    have ge6 : h6.get? e = some oe := sb6.extBut _ _ (Ne.symm w4) y1
    have I6 : Inv X pins σ (upd H4 T (.ext (TbO T))) { s5 with heap := h6 } := I5.write (x := T) (e := T) (o := .ext (TbO T)) (h' := h6) (t' := s5.toks) (by rw [w2]; trivial) (.inl rfl) (fun b u hb q => by rw [e5] at q; exact sb6.extBut _ _ hb q) (let ⟨oo,_,q,_⟩ := tb6; ⟨oo,q⟩) (z8m tb6)
    have se : Same H4 (upd H4 T (.ext (TbO T))):= fun b o q => by
      by_cases hb : b = T
      · subst hb; rw [w2] at q; cases q; exact z0i
      · rw [z0g hb]; exact q
    have w1' : (upd H4 T (.ext (TbO T))) e = some (.ext (ExO (.ref (G.cl c)) e T a0)) := se _ _ w1
    have I7 : Inv X pins σ (upd (upd H4 T (.ext (TbO T))) e (.frz oe (.own 0))) { s5 with heap := h6 } := I6.write (x := e) (e := e) (o := .frz oe (.own 0)) (h' := h6) (t' := s5.toks) (by rw [w1']; trivial) (.inl rfl) (fun b u hb q => q) ⟨_,ge6⟩ ⟨ge6,oe,ge6⟩
    have sx7 : zb1 e (upd H4 T (.ext (TbO T))) (upd (upd H4 T (.ext (TbO T))) e (.frz oe (.own 0))):= fun b o hb q => by rw [z0g hb]; exact q
    obtain ⟨sm7,x7⟩ := (sm4.same se).sameX sx7 ⟨_,w1'⟩
    have xx : Ext μ h.length H' μ' hh.length (upd (upd H4 T (.ext (TbO T))) e (.frz oe (.own 0))) := x1.trans ((x4 _).trans ((Ext.same se).trans (x7 _)))
    generalize hH7 : upd (upd H4 T (.ext (TbO T))) e (.frz oe (.own 0)) = H7 at *
    have rl : RelD G μ' hh.length H7 (.exc c) (.ref e):= by
      rw [RelD,← hH7]
      exact ⟨e,oe,.own 0,rfl,z0i,y2,y6,vs,y3⟩
    refine z5t (v := .ref e) I7 hnd h2 (.inl l2) rfl (fun s8 I8 => ?_) (.inr l2)
    have I8' : Inv (z5k X (.ref e)) pins (σ.set 2 (some (.ref e))) H7 s8 := z8r _ I8
    have hlen : 2 < σ.length := by rw [I.len]; exact (List.getElem?_eq_some_iff.mp h2).1
    refine wpAny_mono (za4 (za5 (X := z5k X (.ref e)) (i := 1) (pos := apos) (pos' := xp) hnd h1 (.inl l1) (za2 (X := z5k X (.ref e)) (pos := ep) h2 (.inl l2) d2 c2) hsw2 (.inr l1)) pins s8 (σ.set 2 (some (.ref e))) H7 { nx:= fun σ' H' => σ' = (σ.set 2 (some (.ref e))).set 1 (some (.ref e))∧H' = H7,rt:= fun _ _ => False } I8' ⟨.ref e,List.getElem?_set_self hlen,rfl,rfl⟩) (fun fl9 s9 hs9 => ?_) fun _ _ z => False.elim z
    cases fl9 with
    | ret u => obtain ⟨_,_,_,_,_,z⟩ := hs9; exact z.elim
    | brk => obtain ⟨_,_,_,z⟩ := hs9; exact z.elim
    | cont => obtain ⟨_,_,_,z⟩ := hs9; exact z.elim
    | next =>
      obtain ⟨σ9,H9,I9,e9,f9⟩ := hs9
      subst e9; subst f9
      have I9' : Inv X pins _ H9 s9 := z9r I8.ok I9
      obtain ⟨m,hn,hl⟩ := id I9'.loc
      refine wpAny_nameGoes_keeps l2 hn hcls fun h10 v10 hn10 hs10 => ?_
      exact ⟨_,H9,z9q I9' hnd h2 hn hl hs10 hn10,hD μ' H9 e xx sm7 rl⟩
end
def z72 : Sr→Rs Dv
  | .rt d h => .ok d h
  | .nx _ h => .ok .non h
  | _ => .bad
def z2y (n : Nat) (d : Dv) : Ev := none :: some d :: List.replicate (n - 2) none
def refM (n ncl : Nat) (mb : MS) : Rs Dv→Rs Dv
  | .ok _ h1 => z72 (mb (z2y n .non) h1)
  | .ex c h1 => if c < ncl then z72 (mb (z2y n (.exc c)) h1) else .bad
  | .bad => .bad
def zdp (G : Cfg) (base : Heap) (Nl : List Str) (params : Arguments) (body : Expr) (scope : Scope) (me : M Dv) (n ncl : Nat) (mb : MS) : Sp:= fun vs H Q E =>
  ∃ f c' cl ds μ h,vs = [.ref f]∧LamAt G base H μ h.length Nl params body scope f c' cl ds∧(∀ x c,cl.lookup x = some c→x ∈ Nl)∧Sim G μ h H∧Out G E μ h.length H (refM n ncl mb (me (ds.map some) h)) (RelD G) Q
theorem z5l {G : Cfg} {E : XK} {μ μ1 : Nat→Addr} {n n1 : Nat} {H H1 : Hp} {r : Sr} {Q : VK} (o : Out G E μ n H (z72 r) (RelD G) Q) (x : Ext μ n H μ1 n1 H1) : SOut G (fun _ _ _ => False) μ1 n1 H1 r { nx:= fun _ H' => Q .non H',rt := Q }:= by
  cases r with
  | nx ρ h' => exact fun μ' H' σ' y s _ => o μ' H' .non (x.trans y) s rfl
  | rt d h' => exact fun μ' H' v y s r => o μ' H' v (x.trans y) s r
  | bk ρ h' => exact o.elim
  | ct ρ h' => exact o.elim
  | ex c h' => exact o.elim
  | bad => exact o
theorem z8s {G : Cfg} {μ : Nat→Addr} {n : Nat} {H : Hp} {m : Nat} {d : Dv} {v : V} {σ : St} (hl : σ.length = m) (hm : 2 ≤ m) (h1 : σ[1]? = some (some v)) (r : RelD G μ n H d v) : RelS G μ n H (z2y m d) σ:= by
  refine ⟨by simp [z2y,hl]; omega,fun i d' e => ?_⟩
  unfold z2y at e
  match i,e with
  | 0,e => simp at e
  | 1,e => simp at e; subst e; exact ⟨v,h1,r⟩
  | i + 2,e =>
    simp only [List.getElem?_cons_succ,List.getElem?_replicate] at e
    split at e <;> cases e
section
variable {P : Program} {w : World} {K : PySem.W.Frag} {mg : Str→Option Value} {base : Heap} {f : Addr} {G : Cfg} {k : Nat} {Nm Nl : List Str} {params : Arguments} {body : Expr} {scope : Scope} {me : M Dv} {ncl : Nat} {NE : Addr} {mb : MS}
theorem zl5 {x xn en nm q qual : Str} {st : Stmt} {fd : FuncData} {p cpos epos np xp ep apos hpos tpos zpos zp npos : Pos} {j : Nat} {rest : List Stmt} (Fn : Fun K q qual st f fd) (S : FnScope Nm [x] (z03 st)) (hK : K = G.K)
    (hdef : z07 st = .Assign [.Name xn zp] (.Constant .none j npos) zpos :: .Try [.Expr (.Call (.Name x p) [] [] cpos) epos] [.ExceptHandler (some (.Name nm np)) (some en) [.Assign [.Name xn xp] (.Name en ep) apos] hpos] [] [] tpos :: rest)
    (h0 : Nm[0]? = some x) (h1 : Nm[1]? = some xn) (h2 : Nm[2]? = some en)
    (l0 : (z03 st).names.lookup x = some .local) (l1 : (z03 st).names.lookup xn = some .local) (l2 : (z03 st).names.lookup en = some .local)
    (d0 : (x == ("__debug__" : Str)) = false) (c0 : (x == ("__classdict__" : Str)) = false) (d2 : (en == ("__debug__" : Str)) = false) (c2 : (en == ("__classdict__" : Str)) = false) (dn : (nm == ("__debug__" : Str)) = false)
    (hsw : ∀ L cd,swapsWith (.Call (.Name x p) [] [] cpos) none epos.line (envOfC qual (z03 st) L f cd) = pure false) (hsw2 : ∀ L cd,swapsWith (.Name en ep) (some (.Name xn xp)) apos.line (envOfC qual (z03 st) L f cd) = pure false)
    (hsw3 : ∀ L cd,swapsWith (.Constant .none j npos) (some (.Name xn zp)) zpos.line (envOfC qual (z03 st) L f cd) = pure false)
    (hg : (z03 st).names.lookup nm = some .globalImplicit) (hm : mg nm = some (.ref NE)) (hx1 : PySem.W.subIn K (.ref NE) (.type "BaseException") = some true) (hx2 : PySem.W.subIn K (.type "type") (.type "tuple") = some false) (hx3 : PySem.W.kitCls K (.ref NE) (.ref NE) = some true)
    (hsub : ∀ c,c < ncl→PySem.W.subIn K (.ref (G.cl c)) (.ref NE) = some true)
    (LS : LamScope Nl scope) (hb : ∀ (cl : List (Str × Addr)) (pm cdv ct : Value),bindArgs (PySem.W.kla_fn "<lambda>" G.lq params body scope cl pm cdv ct) ⟨[],[]⟩ = pure [])
    (hbody : ∀ (f : Addr) (cdv : Value) (cl : List (Str × Addr)) (A : Around) (outer : List Env) (s : Shared) (H : Hp) (E₀ E : XK),Good (z3k P w K mg base Nl G.lq scope f cdv cl A outer s H E₀) G E k→Snd (z3k P w K mg base Nl G.lq scope f cdv cl A outer s H E₀) G E body me)
    (hrest : ∀ (cdv : Value) (A : Around) (outer : List Env) (s : Shared) (H : Hp) (E₀ E : XK),Good (cxOf (CXm P w base) P w K mg base Nm qual (z03 st) f cdv A outer s H E₀) G E (k + 1)→z3w (cxOf (CXm P w base) P w K mg base Nm qual (z03 st) f cdv A outer s H E₀) G E rest mb) :
    FnOk P w K mg base (CXm P w base) (k + 2) f fd [x] (zdp G base Nl params body scope me Nm.length ncl mb):= by
  obtain ⟨oc,od,kV,doc,pm,an,cdv,ct,osl,rfl,lk,hcd⟩ := Fn.ex
  have hNl : 2 < Nm.length := (List.getElem?_eq_some_iff.mp h2).1
  refine zcx lk hcd S (fun vs H Q E ⟨f,c',cl,ds,μ,h,e,_⟩ => by rw [e]; rfl) fun A outer s H vs Q E hr hsp => ?_
  obtain ⟨fl,c',cl,ds,μ,h,rfl,L,hall,sm,o⟩ := hsp
  refine ⟨fun D σ H1 => σ = start Nm [.ref fl]∧H1 = H∧D = { nx:= fun _ H' => Q .non H',rt := Q }, ?_,rfl,rfl,rfl⟩
  intro pins s1 σ H1 D I ⟨eσ,eH,eD⟩
  subst eH
  have hσl : σ.length = Nm.length := I.len
  have hσ0 : σ[0]? = some (some (.ref fl)) := by rw [eσ]; rfl
  rw [hdef]
  have gd : Good (cxOf (CXm P w base) P w K mg base Nm qual (z03 st) f cdv A outer s H1 E) G (fun _ _ _ => False) (k + 1) := z7v hr hK (fun _ _ z => z.elim) (fun _ _ _ _ _ z => z)
  have hset : (σ.set 1 (some .non))[0]? = some (some (.ref fl)) := by rw [List.getElem?_set_ne (by decide)]; exact hσ0
  refine wpAny_execs_cons (thn (za5 (X := cxOf (CXm P w base) P w K mg base Nm qual (z03 st) f cdv A outer s H1 E) (i := 1) (pos := zpos) (pos' := zp) S.nd h1 (.inl l1) (zf4 (j := j) (pos := npos)) (hsw3 _ _) (.inl rfl) pins s1 σ H1 { nx:= fun σ' H' => σ' = σ.set 1 (some .non)∧H' = H1,rt:= fun _ _ => False } I ⟨rfl,rfl⟩) fun fl2 s2 q2 => ?_)
  cases fl2 with
  | ret u => obtain ⟨_,_,_,_,_,z⟩ := q2; exact z.elim
  | brk => obtain ⟨_,_,_,z⟩ := q2; exact z.elim
  | cont => obtain ⟨_,_,_,z⟩ := q2; exact z.elim
  | next =>
    obtain ⟨σ2,H2,I2,e2,f2⟩ := q2
    subst e2; subst f2
    refine wpAny_execs_cons (thn (zl4 (X := cxOf (CXm P w base) P w K mg base Nm qual (z03 st) f cdv A outer s H2 E) (G := G) (N := Nl) (me := me) (ncl := ncl) (NE := NE) (k := k) (D := { nx := tsOf G (fun _ _ _ => False) mb D,rt:= fun _ _ => False })
      hK rfl rfl S.nd h0 h1 h2 (fun _ => rfl) l0 l1 l2 d0 c0 d2 c2 dn (hsw _ _) (hsw2 _ _) hg hm hx1 hx2 hx3 hsub LS hb hbody hr I2 hset L hall sm ?_) fun fl3 s3 q3 => ?_)
    · cases qm : me (ds.map some) h with
      | bad => rw [qm] at o; exact o
      | ok d hh =>
        rw [qm] at o
        intro μ' H' x' s'
        refine ⟨μ',z2y Nm.length .non,hh,z8s (v := .non) (by rw [List.length_set]; exact hσl) (by omega) (List.getElem?_set_self (by omega)) rfl,s', ?_⟩
        rw [eD]
        exact z5l o x'
      | ex c hh =>
        rw [qm] at o
        unfold refM at o
        dsimp only at o
        split at o
        · rename_i hc
          refine ⟨hc,fun μ' H' a x' s' r' => ?_⟩
          refine ⟨μ',z2y Nm.length (.exc c),hh,z8s (v := .ref a) (by simp only [List.length_set]; exact hσl) (by omega) ?_ r',s', ?_⟩
          · rw [List.getElem?_set_ne (by decide),List.getElem?_set_self (by simp only [List.length_set]; omega)]
          · rw [eD]
            exact z5l o x'
        · exact o.elim
    · cases fl3 with
      | ret u => obtain ⟨_,_,_,_,_,z⟩ := q3; exact z.elim
      | brk => obtain ⟨_,_,_,z⟩ := q3; exact z.elim
      | cont => obtain ⟨_,_,_,z⟩ := q3; exact z.elim
      | next =>
        obtain ⟨σ3,H3,I3,q3⟩ := q3
        exact hrest cdv A outer s H2 E _ gd hK pins s3 σ3 H3 D I3 q3
end
theorem z80 : ∀ (l : List Value) (a b : Int) (t u : Tok) (c : Value),TriplesOk l→TriplesOk (l ++ [.int a t,.int b u,c]):= by
  intro l a b t u c h
  fun_induction TriplesOk l with
  | case1 => trivial
  | case2 x t y u z rest ih => exact ih h
  | case3 l h1 h2 => exact h.elim
theorem zb7 {pos : Pos} {cv c : Value} {a b : Int} {t u : Tok} : ∀ (l : List Value),TriplesOk l→codeAmong pos (l ++ [.int a t,.int b u,c]) = some cv→codeAmong pos l = some cv ∨ cv = c:= by
  intro l h
  fun_induction TriplesOk l with
  | case1 =>
    intro e
    simp only [List.nil_append,codeAmong] at e
    split at e
    · cases e; exact .inr rfl
    · cases e
  | case2 x t y u z rest ih =>
    intro e
    simp only [List.cons_append,codeAmong] at e ⊢
    split at e
    · rename_i hc; rw [if_pos hc]; exact .inl e
    · rename_i hc; rw [if_neg hc]; exact ih h e
  | case3 l h1 h2 => exact h.elim
def z56 (mg : Str→Option Value) (base : Heap) : Prop := ∃ bm ob,mg "__builtins__" = some (.ref bm)∧bm ≠ builtinsNs∧base.get? bm = some ob∧ob.cls = .type "module"∧ob.dict = some builtinsNs∧ob.data = .plain
def zl6 (H H' : Hp) : Prop := ∀ a o,(∀ ps,o ≠ .tbl ps)→H a = some o→H' a = some o
section
variable {X : Cx} {G : Cfg} {params : Arguments} {body : Expr} {scope : Scope} {lpos : Pos} {c P : Addr}
theorem zl7 (hdef : defaultsOf params X.env = ([],[])) (hq : X.env.qual ++ "<lambda>" = G.lq) (hP : G.tab = some P) (hcode : X.env.code = .ref c) (hC : PySem.W.CodeHd X.base c P) (hB : z56 X.mg X.base)
    (hfree : ∀ x,(x,NameKind.free) ∈ scope.names→X.env.kindOf x = some .cell ∨ X.env.kindOf x = some .free) :
    PE X (.Lambda params body scope lpos) (fun σ H Q => TabOk G H∧∀ f c' pm ctv oc H1,zl6 H H1→TabOk G H1→H1 f = some (.frz (PySem.W.kla_obj "<lambda>" G.lq params body scope (z1b X.env scope.names []) pm c' ctv) (.own 0))→H1 c' = some (.frz oc (.own 0))→zd1 G.lq oc→Q (.ref f) H1):= by
  intro pins s σ H Q I ⟨hT,h⟩
  obtain ⟨ps,t1,t2,t3⟩ := hT P hP
  have gP : s.heap.get? P = some (PySem.W.tabObj ps) := I.hok P _ t1
  have hcl : closureFor scope X.env = pure (z1b X.env scope.names []) := z25 fun x hx => I.ok.has x (hfree x hx)
  have hgs : s.heap.Ns mainGlobals X.mg := I.mod.glob.keeps I.bk
  obtain ⟨bm,ob,b1,b2,b3,b4,b5,b6⟩ := hB
  have b3' := I.bk _ _ b3
  have hgP : mainGlobals ≠ P:= fun q => by
    obtain ⟨o,es,ep,e,hd,_⟩ := hgs
    rw [q,gP] at e; cases e; cases hd
  have hbP : bm ≠ P:= fun q => by rw [q,gP] at b3'; cases b3'; cases b4
  have hbG : bm ≠ mainGlobals:= fun q => by
    obtain ⟨o,es,ep,e,hd,_⟩ := hgs
    rw [← q,b3'] at e; cases e; rw [hd] at b6; cases b6
  have hba : s.heap.BuiltinsAt X.mg P := ⟨bm,ob,b1,b2,hbG,hbP,b3',b4,b5,b6⟩
  refine PySem.W.kla_eval hdef ?_
  rw [hq]
  cases hc : codeAmong lpos ps.toList with
  | some cv =>
    obtain ⟨c',oc,ec,h2,h3⟩ := t3 lpos cv hc
    subst ec
    refine PySem.W.kla_makeFunctionHit (mg := X.mg) hcl I.ok.glob hgs hcode (hC.keeps I.bk) gP t2 hc hba fun ctv h' tk hk hsz => ?_
    have hn : H h'.objs.size = none := I.hok.fresh hsz
    have kk : ∀ b u,s.heap.get? b = some u→(h'.push { cls := .type "function",data := .func (PySem.W.kla_fn "<lambda>" G.lq params body scope (z1b X.env scope.names []) ((X.mg "__name__").getD .none) (.ref c') ctv) }).get? b = some u:= fun b u q => Heap.get?_push_of_some _ (hk b u q)
    have gf := Heap.get?_push_size h' (o := PySem.W.kla_obj "<lambda>" G.lq params body scope (z1b X.env scope.names []) ((X.mg "__name__").getD .none) c' ctv) rfl
    have I1 := I.laid (a := h'.objs.size) (o := .frz (PySem.W.kla_obj "<lambda>" G.lq params body scope (z1b X.env scope.names []) ((X.mg "__name__").getD .none) c' ctv) (.own 0)) (t' := tk) kk hsz ⟨gf,_,gf⟩
    have sm : Same H (upd H h'.objs.size (.frz (PySem.W.kla_obj "<lambda>" G.lq params body scope (z1b X.env scope.names []) ((X.mg "__name__").getD .none) c' ctv) (.own 0))) := z0k hn
    exact ⟨.ref h'.objs.size,_,I1,rfl,h _ c' _ ctv oc _ (fun a o _ q => sm a o q) (hT.keep fun a o _ _ q => sm a o q) z0i (sm _ _ h2) h3⟩
  | none =>
    refine PySem.W.kla_makeFunction (mg := X.mg) hcl I.ok.glob hgs hcode (hC.keeps I.bk) gP t2 hc hgP hba fun c' ctv h' tk hx hge hlt hrec htb => ?_
    obtain ⟨c₂,oc,vs,t,e2,hoc,hd,hv⟩ := hrec
    cases e2
    generalize hfo : PySem.W.kla_obj "<lambda>" G.lq params body scope (z1b X.env scope.names []) ((X.mg "__name__").getD .none) c' ctv = fo
    have nfo : fo.isFreed = false := by rw [← hfo]; rfl
    have gf : (h'.push fo).get? h'.objs.size = some fo := Heap.get?_push_size h' nfo
    have goc : (h'.push fo).get? c' = some oc := Heap.get?_push_of_some _ hoc
    have gP' := Heap.get?_push_of_some fo htb
    generalize hps : ps ++ #[rawInt lpos.line,rawInt lpos.col,.ref c'] = ps' at gP'
    have lP : P < s.heap.objs.size := Heap.lt_size gP
    have kk : ∀ b u,b ≠ P→s.heap.get? b = some u→(h'.push fo).get? b = some u:= fun b u hb q => Heap.get?_push_of_some _ (hx b u hb q)
    have lt0 : ∀ b u,s.heap.get? b = some u→b < s.heap.objs.size:= fun b u q => Heap.lt_size q
    have nPc : P ≠ c' := Nat.ne_of_lt (Nat.lt_of_lt_of_le lP hge)
    have nPf : P ≠ h'.objs.size := Nat.ne_of_lt (Nat.lt_of_lt_of_le lP (Nat.le_trans hge (Nat.le_of_lt hlt)))
    have ncf : c' ≠ h'.objs.size := Nat.ne_of_lt hlt
    have lH : ∀ b o,H b = some o→b < s.heap.objs.size:= fun b o q => I.hok.lt q
    have H1e : ∀ b,b ≠ P→b < s.heap.objs.size→upd (upd (upd H P (.tbl ps')) c' (.frz oc (.own 0))) h'.objs.size (.frz fo (.own 0)) b = H b:= fun b h1 h2 => by
      rw [z0g (Nat.ne_of_lt (Nat.lt_of_lt_of_le h2 (Nat.le_trans hge (Nat.le_of_lt hlt)))),z0g (Nat.ne_of_lt (Nat.lt_of_lt_of_le h2 hge)),z0g h1]
    have eP : upd (upd (upd H P (.tbl ps')) c' (.frz oc (.own 0))) h'.objs.size (.frz fo (.own 0)) P = some (.tbl ps') := by rw [z0g nPf,z0g nPc,z0i]
    have ec : upd (upd (upd H P (.tbl ps')) c' (.frz oc (.own 0))) h'.objs.size (.frz fo (.own 0)) c' = some (.frz oc (.own 0)) := by rw [z0g ncf,z0i]
    have ef : upd (upd (upd H P (.tbl ps')) c' (.frz oc (.own 0))) h'.objs.size (.frz fo (.own 0)) h'.objs.size = some (.frz fo (.own 0)) := z0i
    have cases1 : ∀ b o,upd (upd (upd H P (.tbl ps')) c' (.frz oc (.own 0))) h'.objs.size (.frz fo (.own 0)) b = some o→(b = h'.objs.size∧o = .frz fo (.own 0)) ∨ (b = c'∧o = .frz oc (.own 0)) ∨ (b = P∧o = .tbl ps') ∨ (b ≠ P∧H b = some o):= fun b o q => by
      by_cases q1 : b = h'.objs.size
      · subst q1; rw [z0i] at q; cases q; exact .inl ⟨rfl,rfl⟩
      rw [z0g q1] at q
      by_cases q2 : b = c'
      · subst q2; rw [z0i] at q; cases q; exact .inr (.inl ⟨rfl,rfl⟩)
      rw [z0g q2] at q
      by_cases q3 : b = P
      · subst q3; rw [z0i] at q; cases q; exact .inr (.inr (.inl ⟨rfl,rfl⟩))
      rw [z0g q3] at q
      exact .inr (.inr (.inr ⟨q3,q⟩))
    generalize upd (upd (upd H P (.tbl ps')) c' (.frz oc (.own 0))) h'.objs.size (.frz fo (.own 0)) = H1 at *
    have keepO : ∀ b o,(∀ ps,o ≠ .tbl ps)→H b = some o→H1 b = some o:= fun b o hn q => by
      rw [H1e b (fun z => by subst z; rw [t1] at q; cases q; exact hn _ rfl) (lH b o q)]; exact q
    have un : Un X.fs [] H H1 s.heap (h'.push fo):= by
      have nP : ∀ b,H b = none→b ≠ P:= fun b n z => by subst z; rw [t1] at n; cases n
      refine ⟨fun b o q n _ _ => kk b o (nP b n) q,fun b o q n _ _ => ⟨o.slots,kk b o (nP b n) q⟩,fun b o q n _ => by rw [H1e b (nP b n) (lt0 b o q)]; exact n,fun b o q _ => ?_,fun b xs q => keepO b _ (fun _ z => by cases z) q,fun b o u q => keepO b _ (fun _ z => by cases z) q,fun b qs q => ?_⟩
      · by_cases hb : b = P
        · subst hb; exact ⟨_,gP'⟩
        · exact ⟨_,kk b o hb q⟩
      · by_cases hb : b = P
        · subst hb
          rw [t1] at q; cases q
          exact ⟨#[rawInt lpos.line,rawInt lpos.col,.ref c'],by rw [eP,hps]⟩
        · exact ⟨#[],by rw [H1e b hb (lH b _ q),q]; simp⟩
    have hok1 : HOk X.prog X.w H1 (h'.push fo):= fun b o q => by
      rcases cases1 b o q with ⟨rfl,rfl⟩ | ⟨rfl,rfl⟩ | ⟨rfl,rfl⟩ | ⟨hb,q⟩
      · exact ⟨gf,_,gf⟩
      · exact ⟨goc,_,goc⟩
      · exact gP'
      · refine (I.hok b o q).stay (fun b2 u hb2 z => kk b2 u ?_ z) (fun b2 z => keepO b2 _ (fun _ z => by cases z) z) fun b2 xs z => keepO b2 _ (fun _ z => by cases z) z
        rcases hb2 with rfl | hb2
        · exact hb
        · rintro rfl; rw [t1] at hb2; cases hb2
    have I1 : Inv X pins σ H1 { s with heap := h'.push fo,toks := tk } := I.un un hok1
    refine ⟨.ref h'.objs.size,H1,I1,rfl,h h'.objs.size c' ((X.mg "__name__").getD .none) ctv oc H1 keepO ?_ (by rw [hfo]; exact ef) ec ⟨vs,t,hd,hv⟩⟩
    intro P' eP'
    rw [hP] at eP'; cases eP'
    have hl : ps'.toList = ps.toList ++ [rawInt lpos.line,rawInt lpos.col,.ref c'] := by rw [← hps]; simp
    refine ⟨ps',eP,by rw [hl]; exact z80 _ _ _ _ _ _ t2,fun pos cv q => ?_⟩
    rw [hl] at q
    rcases zb7 _ t2 q with q | q
    · obtain ⟨a,oa,z1,z2,z3⟩ := t3 pos cv q
      exact ⟨a,oa,z1,keepO a _ (fun _ z => by cases z) z2,z3⟩
    · exact ⟨c',oc,q,ec,vs,t,hd,hv⟩
end
def capD : List Nat→Ev→Option (List Dv)
  | [],_ => some []
  | i :: r,ρ => match ρ[i]? with
    | some (some d) => (match capD r ρ with
      | some ds => some (d :: ds)
      | none => none)
    | _ => none
theorem z8t {ρ : Ev} : ∀ {caps : List Nat} {ds : List Dv},capD caps ρ = some ds→ds.length = caps.length∧∀ (i : Nat) (d : Dv),ds[i]? = some d→∃ j,caps[i]? = some j∧ρ[j]? = some (some d)
  | [],ds,e => by
    unfold capD at e; cases e
    exact ⟨rfl,fun i d e => by simp at e⟩
  | j :: r,ds,e => by
    unfold capD at e
    split at e
    · rename_i d0 h0
      split at e
      · rename_i ds0 h1
        cases e
        obtain ⟨l,k⟩ := z8t h1
        refine ⟨by simp [l],fun i d q => ?_⟩
        cases i with
        | zero => simp at q; subst q; exact ⟨j,rfl,h0⟩
        | succ i => exact k i d (by simpa using q)
      · cases e
    · cases e
def mRef (caps : List Nat) (n ncl : Nat) (mb : MS) (me : M Dv) : M Dv:= fun ρ h => match capD caps ρ with
  | some ds => refM n ncl mb (me (ds.map some) h)
  | none => .bad
def z3l (base h : Heap) (cs : List Addr) : Heap := PySem.W.hideAll h ((List.range h.objs.size).filter fun b => !((base.get? b).isSome || cs.contains b))
theorem z4n {base h : Heap} {cs : List Addr} {b : Addr} {o : Obj} (e : h.get? b = some o) (hb : (∃ u,base.get? b = some u) ∨ b ∈ cs) : (z3l base h cs).get? b = some o :=
  PySem.W.hideAll_get _ e fun z => by
    have := (List.mem_filter.mp z).2
    rcases hb with ⟨u,hb⟩ | hb
    · simp [hb] at this
    · simp [hb] at this
theorem z8u {base h : Heap} {cs : List Addr} {b : Addr} {o : Obj} (e : (z3l base h cs).get? b = some o) : h.get? b = some o∧((∃ u,base.get? b = some u) ∨ b ∈ cs):= by
  have e1 := PySem.W.of_hideAll _ e
  refine ⟨e1, ?_⟩
  by_cases hb : (∃ u,base.get? b = some u) ∨ b ∈ cs
  · exact hb
  · exfalso
    have hm : b ∈ (List.range h.objs.size).filter fun b => !((base.get? b).isSome || cs.contains b):= by
      refine List.mem_filter.mpr ⟨List.mem_range.mpr (Heap.lt_size e1), ?_⟩
      cases q : base.get? b with
      | some u => exact absurd (.inl ⟨u,q⟩) hb
      | none =>
        have : b ∉ cs:= fun z => hb (.inr z)
        simp [this]
    have := PySem.W.hideAll_none (h := h) _ hm
    unfold z3l at e
    rw [this] at e; cases e
theorem Out.ext {α β : Type} {G : Cfg} {E : XK} {μ μ1 : Nat→Addr} {n n1 : Nat} {H H1 : Hp} {r : Rs α} {R : (Nat→Addr)→Nat→Hp→α→β→Prop} {Q : β→Hp→Prop} (o : Out G E μ n H r R Q) (x : Ext μ n H μ1 n1 H1) : Out G E μ1 n1 H1 r R Q:= by
  cases r with
  | bad => exact o
  | ex c h' => exact fun μ' H' u y => o μ' H' u (x.trans y)
  | ok d h' => exact fun μ' H' u y => o μ' H' u (x.trans y)
theorem z8v {env : Env} {scope : Scope} {x : Str} {c : Addr} (hf : ∀ x,(x,NameKind.free) ∈ scope.names→∃ c,env.cells.lookup x = some c) (e : (z1b env scope.names []).lookup x = some c) : (x,NameKind.free) ∈ scope.names∧env.cells.lookup x = some c:= by
  rcases z2n _ _ e with q | ⟨q1,q2⟩
  · cases q
  · obtain ⟨c',h'⟩ := hf x q1
    rw [h'] at q2
    subst q2
    exact ⟨q1,h'⟩
section
variable {X : Cx} {G : Cfg} {E : XK} {k : Nat} {q x : Str} {p pos lpos : Pos} {params : Arguments} {body : Expr} {scope : Scope} {c P fr : Addr} {fdr : FuncData} {Nl : List Str} {me : M Dv} {n ncl j : Nat} {mb : MS} {caps : List Nat}
theorem zhk (g : Good X G E k) (hj : j ≤ k) (hfn : ∀ y,X.fn y = true)
    (F : ∀ base,X.K.In base→base.Ns mainGlobals X.mg→FnOk X.prog X.w X.K X.mg base (CXm X.prog X.w base) j fr fdr [x] (zdp G base Nl params body scope me n ncl mb))
    (hg : Gl X q) (hm : X.mg q = some (.ref fr)) (hk : PySem.W.keepIn X.K (.ref fr) = true) (hb : Binds X.K fdr [x] [])
    (hdef : defaultsOf params X.env = ([],[])) (hq : X.env.qual ++ "<lambda>" = G.lq) (hP : G.tab = some P) (hcode : X.env.code = .ref c) (hC : PySem.W.CodeHd X.base c P) (hB : z56 X.mg X.base)
    (LS : LamScope Nl scope) (hkind : ∀ y ∈ Nl,X.env.scope.names.lookup y = some .cell) (hcl : caps.length = Nl.length) (hcap : ∀ (i j : Nat) (y : Str),caps[i]? = some j→Nl[i]? = some y→X.N[j]? = some y)
    (hdb : (q == ("__debug__" : Str)) = false) (he : starEach [.Lambda params body scope lpos] X.env = [(false,eval (.Lambda params body scope lpos) X.env)] := by rfl) :
    Snd X G E (.Call (.Name q p) [.Lambda params body scope lpos] [] pos) (mRef caps n ncl mb me):= by
  intro hK pins s σ H Q I ⟨μ,ρ,h,rs,sm,o⟩
  unfold mRef at o
  cases hcd : capD caps ρ with
  | none => rw [hcd] at o; exact o.elim
  | some ds =>
  rw [hcd] at o
  obtain ⟨hdl,hdg⟩ := z8t hcd
  have hfree : ∀ y,(y,NameKind.free) ∈ scope.names→X.env.kindOf y = some .cell ∨ X.env.kindOf y = some .free:= fun y hy => .inl (hkind y (LS.all _ hy rfl))
  have hfc : ∀ y,(y,NameKind.free) ∈ scope.names→∃ c,X.env.cells.lookup y = some c:= fun y hy => I.ok.has y (hfree y hy)
  refine wpAny_Call_Name_kw (z47 I hg hm ?_ hdb)
  refine PySem.W.callWith_K (h₀ := X.base) I.ok.mod.kin hk (thn (z1r (zl7 (G := G) (lpos := lpos) (body := body) hdef hq hP hcode hC hB hfree) z3s he pos pins s σ H
    (fun vs H1 => ∃ f c' pm ctv oc,vs = [.ref f]∧zl6 H H1∧TabOk G H1∧H1 f = some (.frz (PySem.W.kla_obj "<lambda>" G.lq params body scope (z1b X.env scope.names []) pm c' ctv) (.own 0))∧H1 c' = some (.frz oc (.own 0))∧zd1 G.lq oc) I
    ⟨sm.tab,fun f c' pm ctv oc H1 st tb e1 e2 e3 => ⟨f,c',pm,ctv,oc,rfl,st,tb,e1,e2,e3⟩⟩) fun us s1 ⟨vs,H1,I1,r,f,c',pm,ctv,oc,ev,st,tb,e1,e2,e3⟩ => ⟨I1.kIn, ?_⟩) he rfl
  subst ev
  generalize hcs : z1b X.env scope.names [] = cl at *
  have kb : ∀ b u,X.base.get? b = some u→(z3l X.base s1.heap (cl.map (·.2))).get? b = some u:= fun b u e => z4n (I1.bk _ _ e) (.inl ⟨u,e⟩)
  have clc : ∀ y cc,(y,cc) ∈ cl→cl.lookup y = some cc→X.env.cells.lookup y = some cc:= fun y cc _ e => (z8v hfc (by rw [hcs]; exact e)).2
  have memc : ∀ b,b ∈ cl.map (·.2)→∃ y,X.env.cells.lookup y = some b:= fun b hb => by
    obtain ⟨⟨y,cc⟩,hm1,rfl⟩ := List.mem_map.mp hb
    have : ∀ (l : List (Str × NameKind)) (acc : List (Str × Addr)),(∀ y cc,(y,cc) ∈ acc→X.env.cells.lookup y = some cc)→(∀ y,(y,NameKind.free) ∈ l→∃ c,X.env.cells.lookup y = some c)→∀ y cc,(y,cc) ∈ z1b X.env l acc→X.env.cells.lookup y = some cc:= by
      intro l
      induction l with
      | nil => exact fun acc h1 _ => h1
      | cons a l ih =>
        obtain ⟨y0,k0⟩ := a
        intro acc h1 h2
        rw [z1b]
        refine ih _ (fun y cc hm2 => ?_) fun y hy => h2 y (List.mem_cons_of_mem _ hy)
        cases hk0 : k0 == NameKind.free with
        | true =>
          rw [hk0,if_pos rfl] at hm2
          rcases List.mem_cons.mp hm2 with z | z
          · cases z
            have ek : k0 = .free := by cases k0 <;> first | rfl | cases hk0
            subst ek
            obtain ⟨c3,h3⟩ := h2 y0 (List.mem_cons_self ..)
            rw [h3]; rfl
          · exact h1 _ _ z
        | false =>
          rw [hk0,if_neg (by simp)] at hm2
          exact h1 _ _ hm2
    exact ⟨y,this scope.names [] (fun _ _ z => by cases z) hfc y cc (by rw [hcs]; exact hm1)⟩
  have M0 := I1.ok.mod
  have nsk : ∀ {a : Addr} {m : Str→Option Value},X.base.Ns a m→(z3l X.base s1.heap (cl.map (·.2))).Ns a m:= fun hn => hn.keeps kb
  have hM : Mod X.K X.mg (z3l X.base s1.heap (cl.map (·.2))) := ⟨M0.kin.keeps kb,nsk M0.glob,(let ⟨mb,a,b⟩ := M0.blt; ⟨mb,nsk a,b⟩),M0.nolimit.keeps kb⟩
  have hbs : ∀ b u,(z3l X.base s1.heap (cl.map (·.2))).get? b = some u→s1.heap.get? b = some u∧H1 b = none:= fun b u e => by
    obtain ⟨g1,g2⟩ := z8u e
    refine ⟨g1, ?_⟩
    rcases g2 with ⟨u',g2⟩ | g2
    · exact (I1.bs _ _ g2).2
    · obtain ⟨y,hy⟩ := memc b g2
      exact I1.freeC y b hy
  have nbf : ∀ b ∈ frs X.stack,(z3l X.base s1.heap (cl.map (·.2))).get? b = none:= fun b hb => by
    cases qq : (z3l X.base s1.heap (cl.map (·.2))).get? b with
    | none => rfl
    | some u =>
      exfalso
      obtain ⟨g1,g2⟩ := z8u qq
      rcases g2 with ⟨u',g2⟩ | g2
      · have := (I1.stack.mem hb).1
        rw [this] at g2; cases g2
      · obtain ⟨y,hy⟩ := memc b g2
        rcases List.mem_cons.mp (I1.stkSub b hb) with z | z
        · exact I1.cne y b hy z
        · obtain ⟨v0,ob,ho1,hd1⟩ := I1.cell y b hy
          have fm : ∀ z ∈ X.fs,z < X.s₀.heap.objs.size:= fun z hz => by
            obtain ⟨_,o2,h2,_⟩ := I1.ok.funs.mem hz
            exact Heap.lt_size h2
          exact absurd (Nat.lt_of_lt_of_le (fm b z) (I1.ok.cab y b (hfn y) hy)) (Nat.lt_irrefl _)
  have hfun : s1.heap.FunFrames (z3l X.base s1.heap (cl.map (·.2))) X.stack:= by
    have all : ∀ (l : List Env),(∀ b ∈ frs l,b ∈ frs X.stack)→s1.heap.FunFrames X.base l→s1.heap.FunFrames (z3l X.base s1.heap (cl.map (·.2))) l:= by
      intro l
      induction l with
      | nil => intro _ _; trivial
      | cons env r ih =>
        intro hs hl
        obtain ⟨hk',⟨L,o',hf',hn',ho',hd'⟩,hr'⟩ := hl
        have hL : L ∈ frs (env :: r) := by unfold frs; rw [List.filterMap_cons,hf']; exact List.mem_cons_self
        exact ⟨hk',⟨L,o',hf',nbf L (hs L hL),ho',hd'⟩,ih (fun b hb => hs b (by unfold frs; rw [List.filterMap_cons,hf']; exact List.mem_cons_of_mem _ hb)) hr'⟩
    exact all X.stack (fun _ hb => hb) I1.stack
  have e0 : Env0 X.prog X.w X.K X.mg (z3l X.base s1.heap (cl.map (·.2))) X.A X.stack s1 H1 := ⟨I1.ok.frames,hM,hbs,Nat.le_of_eq (PySem.W.hideAll_size _ _),hfun,I1.stkFree,I1.hok,I1.bare⟩
  have xt : Ext μ h.length H μ h.length H1 := ⟨Nat.le_refl _,fun _ _ => rfl,fun a u im z => st a u (fun ps w => by subst w; exact im) z⟩
  have sm1 : Sim G μ h H1 := ⟨sm.inj,fun i ob z => by
    have r0 := sm.ob i ob z
    cases ob with
    | lst xs => obtain ⟨vs,z1,z2⟩ := r0; exact ⟨vs,st _ _ (fun _ w => by cases w) z1,RelDL.mono xt _ _ z2⟩,tb⟩
  have look : ∀ y cc,cl.lookup y = some cc→(y,NameKind.free) ∈ scope.names∧X.env.cells.lookup y = some cc:= fun y cc e => z8v hfc (by rw [hcs]; exact e)
  have memL : ∀ y cc,cl.lookup y = some cc→cc ∈ cl.map (·.2):= fun y cc e => List.mem_map.mpr ⟨(y,cc),PySem.mem_of_lookup e,rfl⟩
  have L : LamAt G (z3l X.base s1.heap (cl.map (·.2))) H1 μ h.length Nl params body scope f c' cl ds:= by
    refine ⟨⟨pm,ctv,e1⟩,⟨oc,e2,e3⟩,fun y z cc a b => I1.ok.inj y z cc (look y cc a).2 (look z cc b).2,hdl.trans hcl,fun i y hy => ?_,fun y cc e => ?_,fun i y cc d hy hd e => ?_⟩
    · have hf1 := LS.fr y (List.mem_of_getElem? hy)
      have := z2f (env := X.env) (x := y) scope.names [] (.inl (PySem.mem_of_lookup hf1))
      rw [hcs] at this
      exact ⟨_,this⟩
    · obtain ⟨v0,ob,ho1,hd1⟩ := I1.cell y cc (look y cc e).2
      exact ⟨ob,v0,z4n ho1 (.inr (memL y cc e)),hd1⟩
    · obtain ⟨jj,hjj,hρ⟩ := hdg i d hd
      obtain ⟨v,hv,rd⟩ := rs.at_ jj d hρ
      have hNj := hcap i jj y hjj hy
      have hyk := hkind y (List.mem_of_getElem? hy)
      obtain ⟨m,hn,hl⟩ := I1.loc
      obtain ⟨u,ru,lk⟩ := hl jj y v hNj hv (.inr (.inl hyk))
      rcases lk with ⟨kl,_⟩ | ⟨_,c4,ec4,ob,ho1,hd1⟩
      · have kl' : X.env.scope.names.lookup y = some .local := kl
        rw [hyk] at kl'; cases kl'
      · rw [(look y cc e).2] at ec4; cases ec4
        exact ⟨ob,u,v,z4n ho1 (.inr (memL y cc e)),hd1,ru,RelD.mono xt _ _ rd⟩
  have hall : ∀ y cc,cl.lookup y = some cc→y ∈ Nl:= fun y cc e => LS.all _ (look y cc e).1 rfl
  have hlen : (us ++ ([] : List Value)).length = [x].length := by rw [List.append_nil,← r.length]; rfl
  have hbt := hb s1 us I1.kIn hlen
  rw [List.append_nil] at hbt
  refine wpAny_call (codeAny_mono ((F _ hM.kin hM.glob).run X.A X.stack s1 H1 ⟨us,[]⟩ us [.ref f] Q E (g.room.mono hj) e0 hbt r ⟨f,c',cl,ds,μ,h,rfl,L,hall,sm1,o.ext xt⟩) fun rr s' hq' => ?_)
  cases rr with
  | ok fl =>
    cases fl with
    | ret u => exact I1.after hq'
    | next => exact False.elim hq'
    | brk => exact False.elim hq'
    | cont => exact False.elim hq'
  | error ev =>
    obtain ⟨e,C,H',eu,os,bare,un,hok,fl,hE⟩ := hq'
    refine g.pas pins σ H1 s1 ev s' I1 ⟨e,C,H',eu,os,bare,un,hok, ?_,hE⟩
    obtain ⟨T,a0,w1,w2,w3,w4⟩ := fl
    refine ⟨T,a0,w1,w2, ?_,w4⟩
    cases qq : X.base.get? e with
    | none => rfl
    | some u => have := kb e u qq; rw [w3] at this; cases this
end
section
variable {X : Cx} {G : Cfg}
open Classical in
noncomputable def isT (H : Hp) (tx : Dt) (u : Value) : Bool := decide (∃ v t,RelV v u∧Den Tru H t v∧deq t tx = true)
open Classical in
theorem zfn {H : Hp} {tx t : Dt} {u : Value} {v : V} (r : RelV v u) (d : Den Tru H t v) : isT H tx u = deq t tx:= by
  unfold isT
  cases q : deq t tx with
  | true => exact decide_eq_true ⟨v,t,r,d,q⟩
  | false =>
    refine decide_eq_false fun ⟨v',t',r',d',q'⟩ => ?_
    have e := r'.inj r
    subst e
    rw [Den.inj t' t v' d' d,q] at q'
    cases q'
theorem z81 {H : Hp} {tx : Dt} : ∀ {ts : List Dt} {vs : List V} {us : List Value},DenL Tru H ts vs→Vals vs us→us.any (isT H tx) = ts.any fun t => deq t tx
  | [],_,_,d,r => by rw [DenL] at d; subst d; cases r; rfl
  | t :: ts,_,_,d,r => by
    rw [DenL] at d; obtain ⟨v,rr,rfl,d1,d2⟩ := d
    cases r with
    | cons r1 r2 => rw [List.any_cons,List.any_cons,zfn r1 d1,z81 d2 r2]
def rInG (K : PySem.W.Frag) (neg : Bool) : R2:= fun x y H Q => ∃ a vs ts tx,y = .ref a∧(SqL K H a vs ∨ SqT K H a vs)∧DenL Tru H ts vs∧Den Tru H tx x∧(∀ t ∈ ts,dep t ≤ z16∧nod t = true)∧nod tx = true∧Q (.bl (if neg then !(ts.any fun t => deq t tx) else ts.any fun t => deq t tx)) H
theorem z8w {pins : List (Addr × Obj)} {σ : St} {H : Hp} {s : Shared} {x : V} {v : Value} {vs : List V} {its : List Value} {ts : List Dt} {tx : Dt} (hu : X.A.units + 64 < cLine) (I : Inv X pins σ H s) (rx : RelV x v) (r : Vals vs its) (d : DenL Tru H ts vs) (dx : Den Tru H tx x)
    (ht : ∀ t ∈ ts,dep t ≤ z16∧nod t = true) (nx : nod tx = true) : ∀ y,y ∈ its.toArray→SeqAt.EqAt X.A.in1 s y v (isT H tx y):= fun y hy => by
  have hy' : y ∈ its := by simpa using hy
  obtain ⟨j,hj,e⟩ := List.mem_iff_getElem.mp hy'
  have hl := r.length
  obtain ⟨u,eu,ru⟩ := r.get (i := j) (x := vs[j]'(by omega)) (List.getElem?_eq_getElem (by omega))
  have : u = y := by rw [List.getElem?_eq_getElem hj,e] at eu; cases eu; rfl
  subst this
  obtain ⟨t,et,dt⟩ := d.get (i := j) (List.getElem?_eq_getElem (by omega : j < vs.length))
  obtain ⟨h1,h2⟩ := ht t (List.mem_of_getElem? et)
  rw [zfn ru dt]
  exact (zal I.hok z16 X.A.in1 t tx _ x _ v h1 (by show X.A.units + 1 + z16 + 1 < cLine; unfold z16; omega) h2 nx dt dx ru rx).2
theorem zb8 (hu : X.A.units + 64 < cLine) : OpR X (compareOp .NotIn) (rInG X.K true):= by
  intro pins s σ H x y v u Q I r1 r2 ⟨a,vs,ts,tx,e,hs,d,dx,ht,nx,q⟩
  subst e
  cases r2
  rcases hs with hs | hs
  · obtain ⟨its,r,pl,hz⟩ := I.list hs
    refine SeqAt.notIn_listAt (isT H tx) pl.isList (z8w hu I r1 r d dx ht nx) ?_
    exact ⟨.bl _,H,I,by rw [show its.toArray.any (isT H tx) = its.any (isT H tx) by simp,z81 d r]; rfl,q⟩
  · obtain ⟨its,r,pl,hz⟩ := I.tuple hs
    refine SeqAt.notIn_tupleAt (isT H tx) pl (z8w hu I r1 r d dx ht nx) ?_
    exact ⟨.bl _,H,I,by rw [show its.toArray.any (isT H tx) = its.any (isT H tx) by simp,z81 d r]; rfl,q⟩
def inD (scr : List Int) (neg : Bool) (x c : Dv) (h : Hs) : Rs Dv := match seqD scr c h with
  | some ys => match optL (pur z16 h) ys,pur z16 h x with
    | some ts,some tx => .ok (.bl (if neg then !(ts.any fun t => deq t tx) else ts.any fun t => deq t tx)) h
    | _,_ => .bad
  | none => .bad
theorem zb9 {μ : Nat→Addr} {h : Hs} {H : Hp} (s : Sim G μ h H) : ∀ {xs : List Dv} {vs : List V} {ts : List Dt},RelDL G μ h.length H xs vs→optL (pur z16 h) xs = some ts→DenL Tru H ts vs∧∀ t ∈ ts,dep t ≤ z16∧nod t = true
  | [],_,_,r,e => by cases e; rw [RelDL] at r; subst r; exact ⟨DenL.nil,fun t ht => by simp at ht⟩
  | x :: xs,_,_,r,e => by
    rw [RelDL] at r; obtain ⟨v,rr,rfl,r1,r2⟩ := r
    unfold optL at e
    cases q : pur z16 h x with
    | none => rw [q] at e; cases e
    | some y =>
      rw [q] at e
      dsimp only at e
      cases q2 : optL (pur z16 h) xs with
      | none => rw [q2] at e; cases e
      | some ys =>
        rw [q2] at e; cases e
        obtain ⟨a1,a2,a3⟩ := z5g s _ x v y r1 q
        obtain ⟨b1,b2⟩ := zb9 s r2 q2
        refine ⟨DenL.cons a1 b1,fun t ht => ?_⟩
        rcases List.mem_cons.mp ht with rfl | ht
        · exact ⟨a2,a3⟩
        · exact b2 t ht
theorem zl8 (neg : Bool) : OpD G (rInG G.K neg) (inD G.scr neg):= by
  intro E μ h H x y vx vy Q s rx ry o
  unfold inD at o
  cases q : seqD G.scr y h with
  | none => rw [q] at o; exact o.elim
  | some ys =>
    rw [q] at o
    dsimp only at o
    split at o
    · rename_i ts tx e1 e2
      obtain ⟨a,vs,rfl,hs,r⟩ := z7u s ry q
      obtain ⟨b1,b2⟩ := zb9 s r e1
      obtain ⟨c1,c2,c3⟩ := z5g s _ x vx tx rx e2
      exact ⟨a,vs,ts,tx,rfl,hs,b1,c1,b2,c3,o.val s rfl⟩
    · exact o.elim
end
section
variable {X : Cx} {G : Cfg}
theorem zba {M : Model} {A : Around} {E : Value→Shared→Prop} {s : Shared} {x : V} {u : Value} {b : Bool} {Q : Bool→Shared→Prop} (r : RelV x u) (q : Q (decide (x = .bl b)) s) : wpAny M A (isSame u (.bool b)) Q E s:= by
  cases x with
  | non => cases r; exact wpAny_pure q
  | bl c =>
    cases r
    refine wpAny_pure ?_
    have : decide (V.bl c = V.bl b) = (Value.bool c == Value.bool b) := by cases c <;> cases b <;> rfl
    rw [this] at q
    exact q
  | int i => obtain ⟨t,rfl⟩ := r; exact wpAny_pure q
  | str i => obtain ⟨t,rfl⟩ := r; exact wpAny_pure q
  | byt i => obtain ⟨t,rfl⟩ := r; exact wpAny_pure q
  | flt i => obtain ⟨t,rfl⟩ := r; exact wpAny_pure q
  | ref a => cases r; exact wpAny_pure q
  | ty n => cases r; exact wpAny_pure q
def rIsB (neg : Bool) : R2:= fun x y H Q => ∃ b,y = .bl b∧Q (.bl (if neg then !decide (x = .bl b) else decide (x = .bl b))) H
theorem zl9 : OpR X (compareOp .Is) (rIsB false):= by
  intro pins s σ H x y v u Q I rx ry ⟨b,e,q⟩
  subst e
  cases ry
  exact wpAny_bind (zba rx (wpAny_pure ⟨.bl _,H,I,rfl,q⟩))
def z9s : Dv→Dv→Option Bool
  | .non,.non => some true
  | _,.non => some false
  | .bl a,.bl b => some (a == b)
  | _,.bl _ => some false
  | _,_ => none
def isC (neg : Bool) (x y : Dv) (h : Hs) : Rs Dv := match z9s x y with
  | some b => .ok (.bl (if neg then !b else b)) h
  | none => .bad
def rIsC (neg : Bool) : R2:= fun x y H Q => (y = .non∧Q (.bl (if neg then !decide (x = .non) else decide (x = .non))) H) ∨ rIsB neg x y H Q
theorem zla : OpR X (compareOp .Is) (rIsC false) := OpR.or zk8 zl9
theorem zhl {μ : Nat→Addr} {n : Nat} {H : Hp} {x : Dv} {v : V} {b : Bool} (r : RelD G μ n H x v) (e : z9s x .non = some b) : decide (v = .non) = b:= by
  cases x with
  | non => cases e; rw [RelD] at r; subst r; rfl
  | bl c => cases e; rw [RelD] at r; subst r; rfl
  | int c => cases e; rw [RelD] at r; subst r; rfl
  | str c => cases e; rw [RelD] at r; subst r; rfl
  | tup c => cases e; obtain ⟨a,vs,rfl,_⟩ := r; rfl
  | ref c => cases e; obtain ⟨_,rfl⟩ := r; rfl
  | edc => cases e; obtain ⟨a,rfl,_⟩ := r; rfl
  | exc c => cases e; obtain ⟨a,o,u,rfl,_⟩ := r; rfl
  | scr => cases e; obtain ⟨rfl,_⟩ := r; rfl
theorem zlb {μ : Nat→Addr} {n : Nat} {H : Hp} {x : Dv} {v : V} {b c : Bool} (r : RelD G μ n H x v) (e : z9s x (.bl c) = some b) : decide (v = .bl c) = b:= by
  cases x with
  | non => cases e; rw [RelD] at r; subst r; rfl
  | bl d => cases e; rw [RelD] at r; subst r; cases c <;> cases d <;> rfl
  | int c => cases e; rw [RelD] at r; subst r; rfl
  | str c => cases e; rw [RelD] at r; subst r; rfl
  | tup c => cases e; obtain ⟨a,vs,rfl,_⟩ := r; rfl
  | ref c => cases e; obtain ⟨_,rfl⟩ := r; rfl
  | edc => cases e; obtain ⟨a,rfl,_⟩ := r; rfl
  | exc c => cases e; obtain ⟨a,o,u,rfl,_⟩ := r; rfl
  | scr => cases e; obtain ⟨rfl,_⟩ := r; rfl
theorem zlc (neg : Bool) : OpD G (rIsC neg) (isC neg):= by
  intro E μ h H x y vx vy Q s rx ry o
  unfold isC at o
  cases q : z9s x y with
  | none => rw [q] at o; exact o.elim
  | some b =>
    rw [q] at o
    cases y with
    | non => rw [RelD] at ry; exact .inl ⟨ry,by rw [zhl rx q]; exact o.val s rfl⟩
    | bl c => rw [RelD] at ry; exact .inr ⟨c,ry,by rw [zlb rx q]; exact o.val s rfl⟩
    | _ => cases x <;> cases q
end
def z2t (c : M Bool) (body : MS) : Nat→MS
  | 0 => fun _ _ => .bad
  | f + 1 => fun ρ h => (c ρ h).thenS fun b h1 => if b = true then (match body ρ h1 with
    | .nx ρ2 h2 => z2t c body f ρ2 h2
    | .ct ρ2 h2 => z2t c body f ρ2 h2
    | .bk ρ2 h2 => .nx ρ2 h2
    | r => r) else .nx ρ h1
section
variable {X : Cx} {G : Cfg} {E : XK} {c : Expr} {body : List Stmt} {mc : M Bool} {mb : MS} {pos : Pos}
theorem zdq (n : Nat) (hp : PassesOwn (model X.prog X.w) X.A X.env X.xe) (hc : SndT X G E c mc) (hb : z3w X G E body mb) : SndS X G E (.While c body [] pos) (z2t mc mb n):= fun hK => PS.imp (zct hp (hc hK) (hb hK)) fun D σ H ⟨μ,ρ,h,rs,s,o⟩ => by
  refine ⟨fun m σ H => ∃ μ ρ h,RelS G μ h.length H ρ σ∧Sim G μ h H∧SOut G E μ h.length H (z2t mc mb m ρ h) D,⟨n,μ,ρ,h,rs,s,o⟩, ?_⟩
  rintro m σ1 H1 ⟨μ1,ρ1,h1,rs1,s1,o1⟩
  cases m with
  | zero => exact o1.elim
  | succ m =>
    refine z5j rs1 s1 o1 fun μ2 b h2 H2 x2 rs2 s2 o2 => ?_
    cases b with
    | false => rw [if_neg (by decide)] at o2 ⊢; exact o2 μ2 H2 σ1 Ext.refl s2 rs2
    | true =>
      rw [if_pos rfl] at o2 ⊢
      refine ⟨fun σ' H' => ∃ μ ρ h,RelS G μ h.length H' ρ σ'∧Sim G μ h H'∧SOut G E μ h.length H' (z2t mc mb m ρ h) D,fun σ' H' z => ⟨m,Nat.lt_succ_self m,z⟩,μ2,ρ1,h2,rs2,s2, ?_⟩
      cases q : mb ρ1 h2 with
      | nx ρ3 h3 => rw [q] at o2; exact fun μ4 H4 σ4 x4 s4 rs4 => ⟨μ4,ρ3,h3,rs4,s4,SOut.ext o2 x4⟩
      | ct ρ3 h3 => rw [q] at o2; exact fun μ4 H4 σ4 x4 s4 rs4 => ⟨μ4,ρ3,h3,rs4,s4,SOut.ext o2 x4⟩
      | bk ρ3 h3 => rw [q] at o2; exact o2
      | rt d h3 => rw [q] at o2; exact o2
      | ex d h3 => rw [q] at o2; exact o2
      | bad => rw [q] at o2; exact o2.elim
end
section
variable {X : Cx} {G : Cfg} {E : XK} {e o : Expr} {mo me : M Dv} {pos apos cpos np p2 : Pos} {y : Str}
def popD (x i : Dv) (h : Hs) : Rs Dv := match x,i with
  | .ref j,.int n => match getL h j with
    | some xs => match ixN xs.length n with
      | some k => match xs[k]? with
        | some d => if xs.length ≤ 1000000 then .ok d (h.set j (.lst (xs.eraseIdx k))) else .bad
        | none => .bad
      | none => .bad
    | none => .bad
  | _,_ => .bad
def cutD (xs : List Dv) (lo hi : Option Int) : List Dv := (xs.drop (HT.sIx xs.length 0 lo)).take (HT.sIx xs.length xs.length hi - HT.sIx xs.length 0 lo)
def slD (x : Dv) (lo hi : Option Int) (h : Hs) : Rs Dv := match x with
  | .ref j => match getL h j with
    | some xs => .ok (.ref h.length) (h ++ [.lst (cutD xs lo hi)])
    | none => .bad
  | .tup xs => if HT.sIx xs.length 0 lo = 0∧HT.sIx xs.length xs.length hi = xs.length then .bad else .ok (.tup (cutD xs lo hi)) h
  | _ => .bad
theorem zbb {μ : Nat→Addr} {n : Nat} {H : Hp} {xs : List Dv} {vs : List V} (r : RelDL G μ n H xs vs) (lo hi : Option Int) : RelDL G μ n H (cutD xs lo hi) (cutV vs lo hi):= by
  unfold cutD cutV
  rw [r.length]
  exact (r.drop _).take _
abbrev MO := Ev→Hs→Rs (Option Int)
def toOf (G : Cfg) (E : XK) (m : MO) : TO:= fun σ H Q => ∃ μ ρ h,RelS G μ h.length H ρ σ∧Sim G μ h H∧Out G E μ h.length H (m ρ h) (fun _ _ _ a b => b = a) Q
def SndO (X : Cx) (G : Cfg) (E : XK) (pe : Option Expr) (m : MO) : Prop := X.K = G.K→PO X pe (toOf G E m)
theorem PO.imp {pe : Option Expr} {t t' : TO} (h : PO X pe t) (i : ∀ σ H Q,t' σ H Q→t σ H Q) : PO X pe t':= fun pins s σ H Q I q => h pins s σ H Q I (i σ H Q q)
def mNoB : MO:= fun _ h => .ok none h
def asI : Dv→Hs→Rs (Option Int)
  | .int i,h => .ok (some i) h
  | _,_ => .bad
def mBd (m : M Dv) : MO:= fun ρ h => (m ρ h).bind asI
theorem zbc : SndO X G E none mNoB:= fun _ => PO.imp zgn fun σ H Q ⟨μ,ρ,h,rs,s,oo⟩ => oo.val s rfl
theorem zbd (he : Snd X G E e me) : SndO X G E (some e) (mBd me):= fun hK => PO.imp (zgo (he hK)) fun σ H Q ⟨μ,ρ,h,rs,s,oo⟩ => z0u rs s oo fun μ1 d h1 v H1 x1 rs1 s1 r1 o1 => by
  cases d with
  | int i => exact ⟨i,r1,o1.val s1 rfl⟩
  | _ => exact o1.elim
def mSl (m : M Dv) (lo hi : MO) : M Dv:= fun ρ h => (m ρ h).bind fun x h1 => (lo ρ h1).bind fun l h2 => (hi ρ h2).bind fun u h3 => slD x l u h3
theorem z73 {lo hi : Option Expr} {ml mh : MO} (ho : Snd X G E o mo) (hl : SndO X G E lo ml) (hh : SndO X G E hi mh) : Snd X G E (.Subscript o (.Slice lo hi none p2) pos) (mSl mo ml mh):= fun hK =>
  PE.imp (zcz (SlR.or zgq zkf) (ho hK) (hl hK) (hh hK)) fun σ H Q ⟨μ,ρ,h,rs,s,oo⟩ => z0u rs s oo fun μ1 x h1 vx H1 x1 rs1 s1 r1 o1 => by
    refine ⟨μ1,ρ,h1,rs1,s1,(o1.bind (R1:= fun _ _ _ a b => b = a)).mono fun l' H2 ⟨μ2,l,h2,x2,s2,el,o2⟩ => ?_⟩
    subst el
    refine ⟨μ2,ρ,h2,rs1.mono x2,s2,(o2.bind (R1:= fun _ _ _ a b => b = a)).mono fun u' H3 ⟨μ3,u,h3,x3,s3,eu,o3⟩ => ?_⟩
    subst eu
    have r3 := RelD.mono (x2.trans x3) _ _ r1
    cases x with
    | ref j =>
      dsimp only [slD] at o3
      cases q : getL h3 j with
      | none => rw [q] at o3; exact o3.elim
      | some xs =>
        rw [q] at o3
        obtain ⟨vs,ea,ra⟩ := s3.ob j _ (z0h q)
        obtain ⟨_,rfl⟩ := r3
        exact .inl ⟨_,vs,rfl,SqL.of ea,fun p hp => z3g s3 (zbb ra _ _) hp o3⟩
    | tup xs =>
      dsimp only [slD] at o3
      split at o3
      · exact o3.elim
      · rename_i hw
        obtain ⟨a,vs,rfl,ea,ra⟩ := r3
        exact .inr ⟨a,vs,rfl,SqT.of ea,by rw [ra.length]; exact hw,fun p hp => o3 μ3 _ _ (Ext.same (z0k hp)) (s3.same (z0k hp)) ⟨p,_,rfl,z0i,RelDL.mono (Ext.same (z0k hp)) _ _ (zbb ra _ _)⟩⟩
    | _ => exact o3.elim
end
section
variable {X : Cx} {G : Cfg} {E : XK} {pos : Pos}
theorem zhm : Snd X G E (.Dict [] [] pos) (mC .edc):= fun _ pins s σ H Q I ⟨μ,ρ,h,rs,sm,o⟩ => by
  have hb : sysModules < s.heap.objs.size := Nat.lt_trans (by decide) (I.mod.glob.keeps I.bk).lt
  have hn := I.hok.fresh (Nat.le_refl s.heap.objs.size)
  refine wpAny_Dict_empty ⟨.ref s.heap.objs.size,_,I.laid (a := s.heap.objs.size) (o := .dK []) (t' := s.toks) (fun _ _ q => Heap.get?_push_of_some _ q) (Nat.le_refl _) ⟨Nat.zero_le _,beq_eq_false_iff_ne.mpr (Ne.symm (Nat.ne_of_lt hb)),[],.nil,Heap.DictOf.new s.heap⟩,rfl, ?_⟩
  exact o μ _ _ (Ext.same (z0k hn)) (sm.same (z0k hn)) ⟨_,rfl,z0i⟩
theorem zbe {x : Str} {i : Int} {t : Tok} (hg : Gl X x) (hm : X.mg x = some (.int i t)) (hd : (x == ("__debug__" : Str)) = false := by decide) : Snd X G E (.Name x pos) (mC (.int i)):= fun _ =>
  PE.imp (za3 (v := .int i) hg hm ⟨t,rfl⟩ hd) fun σ H Q ⟨μ,ρ,h,rs,s,o⟩ => o.val s (show RelD G μ _ H (.int i) (.int i) from rfl)
def negD : Dv→Hs→Rs Dv
  | .int i,h => .ok (.int (-i)) h
  | _,_ => .bad
theorem zhn : UnD G (rU fun i => .int (-i)) negD:= by
  intro E μ h H x vx Q s r o
  cases x with
  | int i => rw [RelD] at r; subst r; exact ⟨i,rfl,o.val s rfl⟩
  | _ => exact o.elim
end
section
variable {X : Cx} {G : Cfg} {E : XK} {tg a b c : Expr} {p pos : Pos} {ms : M (List Dv)}
end
structure Lawful (lp : Program) (w : World) (K : PySem.W.Frag) (mg : Str→Option Value) (base : Heap) (k : Nat) (fa : Addr) (fd : FuncData) (x : Str) (P a : Addr) (ns : List Int) : Prop where
  ex : ∃ (G : Cfg) (lawF : List Dv→Hs→Rs Dv) (hh : Hs),G.K = K∧G.scr = ns∧G.sa = a∧G.tab = some P∧lawF [.scr] [] = .ok (.bl true) hh∧FnOk lp w K mg base (CXm lp w base) k fa fd [x] (spOf G lawF)
theorem zbf {lp : Program} {w : World} {K : PySem.W.Frag} {mg mb : Str→Option Value} {k : Nat} {fa a c P : Addr} {fd : FuncData} {x : Str} {s₁ : Shared} {vs : List Value} {ns : List Int}
    (KX : K.In s₁.heap) (hns : s₁.heap.Ns mainGlobals mg) (hb : s₁.heap.Ns builtinsNs mb) (hbb : ∀ x : Str,x ≠ "__name__"→mb x = bootBuiltins x) (hlim : s₁.heap.NoLimit) (hg : s₁.gens = #[])
    (ha : s₁.heap.get? a = some { cls := .type "list",data := .seq vs.toArray }) (hi : IntsAre vs ns) (hl : ns.length ≤ sizeLine) (hr : Room k callerA)
    (hC : PySem.W.CodeHd s₁.heap c P) (hP : s₁.heap.get? P = some (PySem.W.tabObj #[])) (hB : z56 mg s₁.heap) (hnt : PySem.W.noTabs K = true)
    (F : ∀ base : Heap,K.In base→base.Ns mainGlobals mg→PySem.W.CodeHd base c P→z56 mg base→Lawful lp w K mg base k fa fd x P a ns) (hbind : ∀ (s : Shared) (u : Value),BindsTo s fd ⟨[u],[]⟩ [(x,u)]) :
    codeAny (model lp w) callerA (.call (.ref fa) ⟨[.ref a],[]⟩) (fun r s' => r = .ok (.ret (.bool true))∧OldK s₁.heap s'.heap∧s'.os = s₁.os∧AllBare s'.gens) s₁:= by
  have rv := z2e hi
  have lenV := hi.length
  have KP : K.lookup P = none:= by
    cases q : K.lookup P with
    | none => rfl
    | some o =>
      have e := KX P o q
      rw [hP] at e; cases e
      have := List.all_eq_true.mp hnt (P,PySem.W.tabObj #[]) (PySem.W.mem_of_lookupK q)
      exact absurd (show false = true from this) Bool.false_ne_true
  have aP : a ≠ P:= fun z => by rw [z,hP] at ha; cases ha
  have core : ∀ H : Hp,H P = some (.tbl #[])→FzL K H a (ns.map V.int)→HOk lp w H s₁.heap→(∀ b,H b ≠ none→b = a ∨ b = P)→(H a ≠ none→K.lookup a = none)→(∀ u,H a = some u→∃ o xs,u = .frz o (.lst xs)) →
      codeAny (model lp w) callerA (.call (.ref fa) ⟨[.ref a],[]⟩) (fun r s' => r = .ok (.ret (.bool true))∧OldK s₁.heap s'.heap∧s'.os = s₁.os∧AllBare s'.gens) s₁:= by
    intro H hHP hS hok hA hK hF
    have base_of : ∀ {b : Addr} {o : Obj},s₁.heap.get? b = some o→H b = none→(hidT s₁.heap H).get? b = some o:= fun e n => zcq e n
    have none_of : ∀ {b : Addr},b ≠ a→b ≠ P→H b = none:= fun {b} h1 h2 => by
      cases q : H b with
      | none => rfl
      | some u => exact ((hA b (by rw [q]; simp)).elim h1 h2).elim
    have noD : ∀ {b : Addr} {o : Obj} {es : Array DictEntry} {ep : Nat},s₁.heap.get? b = some o→o.data = .dict es ep→H b = none:= fun {b o es ep} e d => none_of (fun z => by
        subst z; rw [ha] at e; cases e
        have d' : Data.seq vs.toArray _ = Data.dict es ep := d
        cases d') (fun z => by
        subst z; rw [hP] at e; cases e
        have d' : Data.fields _ = Data.dict es ep := d
        cases d')
    have nsK : ∀ {b : Addr} {m : Str→Option Value},s₁.heap.Ns b m→(hidT s₁.heap H).Ns b m:= fun {b m} ⟨o,es,ep,e,d,r⟩ => ⟨o,es,ep,base_of e (noD e d),d,r⟩
    have hKb : K.In (hidT s₁.heap H):= fun b o e => base_of (KX b o e) (by
      cases q : H b with
      | none => rfl
      | some u =>
        rcases hA b (by rw [q]; simp) with z | z
        · subst z; rw [hK (by rw [q]; simp)] at e; cases e
        · subst z; rw [KP] at e; cases e)
    have hM : Mod K mg (hidT s₁.heap H) := ⟨hKb,nsK hns,⟨mb,nsK hb,hbb⟩,let ⟨mc,h1,h2⟩ := hlim; ⟨mc,nsK h1,h2⟩⟩
    have hCb : PySem.W.CodeHd (hidT s₁.heap H) c P:= by
      obtain ⟨o,vs',file,tf,flags,tg,inF,text,tt,e1,r1,r⟩ := hC
      refine ⟨o,vs',file,tf,flags,tg,inF,text,tt,base_of e1 (none_of (fun z => ?_) r.2.2.2.2.2.2.2),r1,r⟩
      subst z; rw [ha] at e1; cases e1; exact absurd r1 (by intro w; injection w with w; exact absurd w (by decide))
    have hBb : z56 mg (hidT s₁.heap H):= by
      obtain ⟨bm,ob,b1,b2,b3,b4,b5,b6⟩ := hB
      refine ⟨bm,ob,b1,b2,base_of b3 (none_of (fun z => ?_) (fun z => ?_)),b4,b5,b6⟩
      · subst z; rw [ha] at b3; cases b3; exact absurd b4 (by intro w; injection w with w; exact absurd w (by decide))
      · subst z; rw [hP] at b3; cases b3; cases b4
    have e0 : Env0 lp w K mg (hidT s₁.heap H) callerA [] s₁ H := ⟨rfl,hM,fun b o e => zg9 e,Nat.le_of_eq (za1 _ _),trivial,fun b hb => absurd (show b ∈ ([] : List Addr) from hb) (by simp),hok,.of_eq hg⟩
    obtain ⟨G,lawF,hh,g1,g2,g3,g4,hlaw,Fn⟩ := (F _ hKb (nsK hns) hCb hBb).ex
    have rd : RelDL G (fun _ => 0) 0 H [.scr] [.ref a]:= by
      refine RelDL.cons ?_ RelDL.nil
      rw [RelD,g1,g2,g3]
      exact ⟨rfl,hS⟩
    have sm : Sim G (fun _ => 0) [] H := ⟨fun i j h1 => absurd h1 (by simp),fun i o q => by simp at q,fun P' e => by
      rw [g4] at e; cases e
      exact ⟨#[],hHP,trivial,fun pos cv q => by
        have q' : (none : Option Value) = some cv := q
        cases q'⟩⟩
    refine codeAny_mono (Fn.run callerA [] s₁ H ⟨[.ref a],[]⟩ [.ref a] [.ref a] (fun v _ => v = .bl true) (fun _ _ _ => False) hr e0 (hbind s₁ (.ref a)) (.cons rfl .nil) ⟨fun _ => 0,[],[.scr],rd,sm, ?_⟩) fun r s' h => ?_
    · rw [hlaw]
      exact fun μ' H' v _ _ r => r
    cases r with
    | error e =>
      obtain ⟨_,_,_,_,_,_,_,_,_,z⟩ := h
      exact z.elim
    | ok fl =>
      cases fl with
      | next => exact False.elim h
      | brk => exact False.elim h
      | cont => exact False.elim h
      | ret u =>
        obtain ⟨v,H',os,bare,un,hok',r',q⟩ := h
        have q' : v = .bl true := q
        subst q'
        obtain rfl : u = Value.bool true := r'
        have kept : ∀ b o,b ≠ P→s₁.heap.get? b = some o→s'.heap.get? b = some o:= fun b o hbP e => by
          cases q : H b with
          | none => exact un.keep b o e q (by intro z; exact absurd (show b ∈ ([] : List Addr) from z) (by simp)) (by simp)
          | some u =>
            rcases hA b (by rw [q]; simp) with z | z
            · subst z
              obtain ⟨ob,xs,rfl⟩ := hF u q
              have z2 := un.frzs b ob _ q
              obtain ⟨e1,_⟩ := hok b _ q
              obtain ⟨e2,_⟩ := hok' b _ z2
              rw [e] at e1; cases e1
              exact e2
            · exact absurd z hbP
        obtain ⟨more,hm⟩ := un.tbls P #[] hHP
        have gP : s'.heap.get? P = some (PySem.W.tabObj (#[] ++ more)) := hok' P _ hm
        refine ⟨rfl,⟨fun b o e => ?_,fun b o e => ?_⟩,os,bare⟩
        · by_cases hb : b = P
          · subst hb
            rw [hP] at e; cases e
            exact .inr (.inl ⟨(hC.tab hP).isCodeTable,rfl,#[],more,rfl,gP⟩)
          · exact .inl (kept b o hb e)
        · by_cases hb : b = P
          · subst hb; exact ⟨_,gP⟩
          · exact ⟨_,kept b o hb e⟩
  cases hk : K.lookup a with
  | some o =>
    have e := KX a o hk
    rw [ha] at e
    cases e
    refine core (fun b => if b = P then some (.tbl #[]) else none) (if_pos rfl) (.inr ⟨_,vs.toArray,_,hk,rfl,rfl,rfl,by rw [List.size_toArray,lenV]; exact hl,by simpa using rv⟩) (fun b u z => ?_) (fun b z => ?_) (fun z => absurd (if_neg aP) z) (fun u z => ?_)
    · by_cases hb : b = P
      · have z' := (if_pos hb).symm.trans z
        cases z'
        subst hb
        exact hP
      · have z' := (if_neg hb).symm.trans z
        cases z'
    · by_cases hb : b = P
      · exact .inr hb
      · exact absurd (if_neg hb) z
    · have z' := (if_neg aP).symm.trans z
      cases z'
  | none =>
    have ea : (fun b => if b = a then some (HO.frz { cls := .type "list",data := .seq vs.toArray } (.lst (ns.map V.int))) else if b = P then some (.tbl #[]) else none) a = some (.frz { cls := .type "list",data := .seq vs.toArray } (.lst (ns.map V.int))) := if_pos rfl
    refine core (fun b => if b = a then some (.frz { cls := .type "list",data := .seq vs.toArray } (.lst (ns.map V.int))) else if b = P then some (.tbl #[]) else none) ((if_neg (Ne.symm aP)).trans (if_pos rfl)) (.inl ⟨{ cls := .type "list",data := .seq vs.toArray },ea⟩) (fun b u z => ?_) (fun b z => ?_) (fun _ => hk) (fun u z => ?_)
    · by_cases hb : b = a
      · have z' := (if_pos hb).symm.trans z
        cases z'
        subst hb
        exact ⟨ha,by rw [List.length_map]; exact hl,vs,_,rv,ha⟩
      · have z' := (if_neg hb).symm.trans z
        by_cases hb2 : b = P
        · have z2 := (if_pos hb2).symm.trans z'
          cases z2
          subst hb2
          exact hP
        · have z2 := (if_neg hb2).symm.trans z'
          cases z2
    · by_cases hb : b = a
      · exact .inl hb
      · by_cases hb2 : b = P
        · exact .inr hb2
        · exact absurd ((if_neg hb).trans (if_neg hb2)) z
    · have z' := ea.symm.trans z
      cases z'
      exact ⟨_,_,rfl⟩
open PySem PySem.Spec PyProof.Rows L2
theorem gln1 {α : Type} {P : List α→Prop} (h : ∀ a,P [a]) : ∀ us : List α,us.length = 1→P us
  | [a],_ => h a
theorem gln2 {α : Type} {P : List α→Prop} (h : ∀ a b,P [a,b]) : ∀ us : List α,us.length = 2→P us
  | [a,b],_ => h a b
theorem tbn {P : Nat→Bool→Prop} : ∀ c b,List.lookup c ([] : List (Nat × Bool)) = some b→P c b:= fun _ _ h => nomatch h
theorem tbc {P : Nat→Bool→Prop} {x : Nat} {y : Bool} {l : List (Nat × Bool)} (h : P x y) (hl : ∀ c b,l.lookup c = some b→P c b) : ∀ c b,List.lookup c ((x,y) :: l) = some b→P c b:= fun c b e => by
  rw [List.lookup_cons] at e
  cases q : c == x with
  | true => rw [q] at e; exact eq_of_beq q ▸ (Option.some.inj e) ▸ h
  | false => rw [q] at e; exact hl c b e
theorem zld {P : Nat→Prop} : ∀ c,c < 0→P c:= fun c h => absurd h (Nat.not_lt_zero c)
theorem z1x {P : Nat→Prop} {n : Nat} (h0 : P 0) (h : ∀ c,c < n→P (c + 1)) : ∀ c,c < n + 1→P c
  | 0,_ => h0
  | c + 1,hc => h c (Nat.lt_of_succ_lt_succ hc)
open PySem PySem.Spec PySem.Calls PyProof.Rows PySem.W L2
abbrev Ys {β : Type} (ob : Frag→β) (obE : β) : World→Heap→Prop:= fun _ h => ∃ K : Frag,K.In h∧noTabs K = true∧ob K = obE
theorem ys_of {β : Type} {ob : Frag→β} {obE : β} : ∀ (w : World) (s : Shared),ob (frg s.heap) = obE→Ys ob obE w s.heap:= fun _ s e => ⟨frg s.heap,z5q _ _,z5r _ _,e⟩
theorem ys_keeps {β : Type} {ob : Frag→β} {obE : β} : ∀ (w : World) (h h' : Heap),Ys ob obE w h→(∀ b o,h.get? b = some o→h'.get? b = some o)→Ys ob obE w h':= fun _ _ _ ⟨K,x,n,e⟩ k => ⟨K,x.keeps k,n,e⟩
theorem walkK {β : Type} {ob : Frag→β} {obE : β} {l : OpenLaw} {n k : Nat} {q : Program} {z2r : List Str} {XP : (Str→Option Value)→Heap→Prop} {d : DefRec} {x : Str}
    (hn : l.most = some n) (hn2 : n ≤ sizeLine) (hdf : d.params.defaults = []) (hr : Room k callerA) (hfind : (recsOf q).find? (fun e => e.name == d.name) = some d)
    (F : ∀ (K : Frag) (w : World) (mg : Str→Option Value) (fa : Addr) (h : Heap),ob K = obE→noTabs K = true→K.In h→h.Ns mainGlobals mg→mg d.name = some (.ref fa) →
      ∃ (fd : FuncData) (c P : Addr),(∀ (s : Shared) (u : Value),BindsTo s fd ⟨[u],[]⟩ [(x,u)])∧tabIn K d.name = some (c,P)∧noTabs K = true ∧
        ∀ (base : Heap) (a : Addr) (ns : List Int),ns.length ≤ n→K.In base→base.Ns mainGlobals mg→CodeHd base c P→z56 mg base→Lawful l.prog w K mg base k fa fd x P a ns) :
    WalkO q z2r XP (Ys ob obE) l.row.toRowW d [] (fun f vs => PySem.call f vs):= by
  refine Att.attach_call hn hdf fun w s₀ s₁ mg mb fa o pm cd doc a vs ns G Y ho hd hcd hmg hobj hints hlen hg => ?_
  obtain ⟨K,KX,hnt',hob⟩ := Y
  obtain ⟨fd,c,P,hb,ht,hnt,hF⟩ := F K w mg fa _ hob hnt' KX G.T.g hmg
  obtain ⟨hC,hP⟩ := tab_of G.T KX hfind ht
  exact zbf KX G.T.g G.T.b G.T.builtins G.T.nolimit hg hobj hints (Nat.le_trans hlen hn2) hr hC hP G.T.bmain hnt (fun base h1 h2 h3 h4 => hF base a ns hlen h1 h2 h3 h4) hb
theorem z3m {env : Env} {x : Str} : ∀ {l : List (Str × NameKind)},l.lookup x = some .free→(l.map fun (n,k) => if (k == NameKind.free && env.scope.kind == .function && env.kindOf n == some .cell) then (n,NameKind.cell) else (n,k)).lookup x ≠ some .local
  | [],h => by simp at h
  | (n,q) :: r,h => by
    rw [List.lookup_cons] at h
    rw [List.map_cons]
    cases e : x == n with
    | true =>
      rw [e] at h
      have hq : q = .free := Option.some.inj h
      subst hq
      dsimp only
      split
      · rw [List.lookup_cons,e]; simp
      · rw [List.lookup_cons,e]; simp
    | false =>
      rw [e] at h
      dsimp only
      split
      · rw [List.lookup_cons,e]; exact z3m h
      · rw [List.lookup_cons,e]; exact z3m h
theorem zbg {X : Cx} {sc os : Scope} {oN N : List Str} {cap : List (Option Nat)} (hs : X.env.scope.names = os.names) (hN : X.N = oN) (h1 : sc.kind = .function) (h2 : ∀ p ∈ sc.names,p.2 = .local→sc.names.lookup p.1 = some .local) (h3 : cap.length = N.length)
    (h4 : ∀ p ∈ sc.names,p.2 = .free→os.names.lookup p.1 = some .cell ∨ os.names.lookup p.1 = some .free) (h5 : ∀ p ∈ sc.names,p.2 = .free→(p.1,NameKind.cell) ∉ sc.names) (h6 : ∀ q ∈ cap.zip N,∀ j ∈ q.1,oN[j]? = some q.2∧sc.names.lookup q.2 = some .free) : CapOk X sc N cap:= by
  refine ⟨h1,h2,h3,fun x hx => ?_,fun x hx => h5 _ hx rfl,fun i j x e1 e2 => ?_⟩
  · have := h4 _ hx rfl
    rw [← hs] at this
    exact this
  · have hm : (some j,x) ∈ cap.zip N := List.mem_of_getElem? (i := i) (List.getElem?_zip_eq_some.mpr ⟨e1,e2⟩)
    obtain ⟨a,b⟩ := h6 _ hm j rfl
    rw [hN]
    refine ⟨a,PySem.mem_of_lookup b, ?_⟩
    exact z3m b
def subD : Dv→Dv→Hs→Rs Dv := iOp fun i j => .int (i - j)
def mulD : Dv→Dv→Hs→Rs Dv := iOpC mulB fun i j => .int (i * j)
def modD : Dv→Dv→Hs→Rs Dv := iOpC modB fun i j => .int (i % j)
def powD : Dv→Dv→Hs→Rs Dv := iOpC powB fun i j => .int (i ^ j.toNat)
def ltD : Dv→Dv→Hs→Rs Dv := iOp fun i j => .bl (decide (i < j))
def leD : Dv→Dv→Hs→Rs Dv := iOp fun i j => .bl (decide (i ≤ j))
def geD : Dv→Dv→Hs→Rs Dv := iOp fun i j => .bl (decide (i ≥ j))
section
variable {X : Cx} {G : Cfg} {E : XK} {k : Nat} {a b : Expr} {ma mb : M Dv} {pos : Pos}
theorem z57 (ha : Snd X G E a ma) (hb : Snd X G E b mb) : Snd X G E (.BinOp a .Sub b pos) (m2 subD ma mb) := z4d zk1 zh3 ha hb
theorem z82 (ha : Snd X G E a ma) (hb : Snd X G E b mb) : Snd X G E (.BinOp a .Mult b pos) (m2 mulD ma mb) := z4d zk2 (z43 zh4) ha hb
theorem z74 (ha : Snd X G E a ma) (hb : Snd X G E b mb) : Snd X G E (.BinOp a .Mod b pos) (m2 modD ma mb) := z4d zk3 (z43 zh5) ha hb
theorem zbh (ha : Snd X G E a ma) (hb : Snd X G E b mb) : Snd X G E (.BinOp a .Pow b pos) (m2 powD ma mb) := z4d zk4 (z43 zh6) ha hb
theorem zbi (ha : Snd X G E a ma) : Snd X G E (.UnaryOp .USub a pos) (m1 negD ma) := zko zk5 zhn ha
theorem x_ge (ha : Snd X G E a ma) (hb : Snd X G E b mb) : Snd X G E (.Compare a [.GtE] [b] pos) (m2 geD ma mb) := zam zk7 z5h ha hb (z3r _)
theorem x_eq (g : Good X G E k) (ha : Snd X G E a ma) (hb : Snd X G E b mb) : Snd X G E (.Compare a [.Eq] [b] pos) (m2 eqD ma mb) := zam (zfc g.room.units) zfd ha hb (z3r _)
theorem t_lt (ha : Snd X G E a ma) (hb : Snd X G E b mb) : SndT X G E (.Compare a [.Lt] [b] pos) (mB (m2 ltD ma mb)) := z4e zn2 z5h ha hb (z3r _)
theorem t_le (ha : Snd X G E a ma) (hb : Snd X G E b mb) : SndT X G E (.Compare a [.LtE] [b] pos) (mB (m2 leD ma mb)) := z4e zgi z5h ha hb (z3r _)
theorem t_ge (ha : Snd X G E a ma) (hb : Snd X G E b mb) : SndT X G E (.Compare a [.GtE] [b] pos) (mB (m2 geD ma mb)) := z4e zk7 z5h ha hb (z3r _)
theorem t_eq (g : Good X G E k) (ha : Snd X G E a ma) (hb : Snd X G E b mb) : SndT X G E (.Compare a [.Eq] [b] pos) (mB (m2 eqD ma mb)) := z4e (zfc g.room.units) zfd ha hb (z3r _)
theorem t_ne (g : Good X G E k) (ha : Snd X G E a ma) (hb : Snd X G E b mb) : SndT X G E (.Compare a [.NotEq] [b] pos) (mB (m2 neD ma mb)) := z4e (zkr g.room.units) zks ha hb (z3r _)
variable {c : Expr} {mc : M Dv}
theorem zle (ha : Snd X G E a ma) (hb : Snd X G E b mb) (hc : Snd X G E c mc) (hm : lastMarks [.LtE,.LtE] [b,c] = false := by with_unfolding_all rfl) : SndT X G E (.Compare a [.LtE,.LtE] [b,c] pos) (mB (z5e leD leD ma mb mc)) := zd2 zgi zgi z5h z5h ha hb hc hm
end
def z8x : Ty→Option Bool
  | .bl => some true | .int => some true | .exc _ => none | _ => some false
def z2z : Ty→Option Bool
  | .bl => some true | .exc _ => none | _ => some false
def z8y : Ty→Option Bool
  | .tup => some true | .exc _ => none | _ => some false
def z5m : Ty→Option Bool
  | .lst => some true | .exc _ => none | _ => some false
def zdr : Ty→Option Bool
  | .tup => some true | .lst => some true | .exc _ => none | _ => some false
section
variable {K : PySem.W.Frag} {cl : Nat→Addr}
theorem zbj : ∀ ty bb,z8x ty = some bb→PySem.W.kitOne K (valT cl ty) (.type "int") = some bb := by intro ty bb h; cases ty <;> first | (cases h; rfl) | cases h
theorem z9t : ∀ ty bb,z2z ty = some bb→PySem.W.kitOne K (valT cl ty) (.type "bool") = some bb := by intro ty bb h; cases ty <;> first | (cases h; rfl) | cases h
theorem zbk : ∀ ty bb,z8y ty = some bb→PySem.W.kitOne K (valT cl ty) (.type "tuple") = some bb := by intro ty bb h; cases ty <;> first | (cases h; rfl) | cases h
theorem zbl : ∀ ty bb,z5m ty = some bb→PySem.W.kitOne K (valT cl ty) (.type "list") = some bb := by intro ty bb h; cases ty <;> first | (cases h; rfl) | cases h
theorem zds : ∀ ty bb,zdr ty = some bb→PySem.W.kitAny K (valT cl ty) [.type "tuple",.type "list"] = some bb := by intro ty bb h; cases ty <;> first | (cases h; rfl) | cases h
end
theorem zne : bootBuiltins "int" = some (.type "int") := by decide +kernel
theorem zlf : bootBuiltins "bool" = some (.type "bool") := by decide +kernel
theorem b_ve : bootBuiltins "ValueError" = some (.type "ValueError") := by decide +kernel
def z1n (nn : Option Bool) (tbl : List (Nat × Bool)) : Ty→Option Bool
  | .exc c => tbl.lookup c
  | .non => nn
  | _ => none
section
variable {X : Cx} {G : Cfg} {E : XK} {a : Expr} {ma : M Dv} {p q r pos : Pos}
theorem zho (hg : Gl X "isinstance") (hm : X.mg "isinstance" = none) (hg' : Gl X "int") (hm' : X.mg "int" = none) (ha : Snd X G E a ma) (he : starEach [a,.Name "int" q] X.env = [(false,eval a X.env),(false,eval (.Name "int" q) X.env)] := by rfl) :
    Snd X G E (.Call (.Name "isinstance" p) [a,.Name "int" q] [] pos) (m1 (isiD z8x) ma) := z3h hg hm ha (z7x hg' hm' zne) (.inl ⟨_,rfl⟩) rfl zbj (fun c bb h => by cases h) he
theorem z68 (hg : Gl X "isinstance") (hm : X.mg "isinstance" = none) (hg' : Gl X "bool") (hm' : X.mg "bool" = none) (ha : Snd X G E a ma) (he : starEach [a,.Name "bool" q] X.env = [(false,eval a X.env),(false,eval (.Name "bool" q) X.env)] := by rfl) :
    Snd X G E (.Call (.Name "isinstance" p) [a,.Name "bool" q] [] pos) (m1 (isiD z2z) ma) := z3h hg hm ha (z7x hg' hm' zlf) (.inl ⟨_,rfl⟩) rfl z9t (fun c bb h => by cases h) he
theorem zbm (hg : Gl X "isinstance") (hm : X.mg "isinstance" = none) (hg' : Gl X "tuple") (hm' : X.mg "tuple" = none) (ha : Snd X G E a ma) (he : starEach [a,.Name "tuple" q] X.env = [(false,eval a X.env),(false,eval (.Name "tuple" q) X.env)] := by rfl) :
    Snd X G E (.Call (.Name "isinstance" p) [a,.Name "tuple" q] [] pos) (m1 (isiD z8y) ma) := z3h hg hm ha (z7x hg' hm' z7s) (.inl ⟨_,rfl⟩) rfl zbk (fun c bb h => by cases h) he
theorem z83 (hg : Gl X "isinstance") (hm : X.mg "isinstance" = none) (hg' : Gl X "list") (hm' : X.mg "list" = none) (ha : Snd X G E a ma) (he : starEach [a,.Name "list" q] X.env = [(false,eval a X.env),(false,eval (.Name "list" q) X.env)] := by rfl) :
    Snd X G E (.Call (.Name "isinstance" p) [a,.Name "list" q] [] pos) (m1 (isiD z5m) ma) := z3h hg hm ha (z7x hg' hm' zaq) (.inl ⟨_,rfl⟩) rfl zbl (fun c bb h => by cases h) he
theorem zhp : ∀ us',Vals [.ty "tuple",.ty "list"] us'→us' = [.type "tuple",.type "list"]:= by
  intro us' h
  cases h with
  | cons r rr =>
    cases rr with
    | cons r' rr =>
      cases rr
      cases r; cases r'
      rfl
theorem zlg {kt : Nat} {p' : Pos} (hg : Gl X "isinstance") (hm : X.mg "isinstance" = none) (hg' : Gl X "tuple") (hm' : X.mg "tuple" = none) (hg'' : Gl X "list") (hm'' : X.mg "list" = none) (ha : Snd X G E a ma)
    (he : starEach [a,.Tuple [.Name "tuple" q,.Name "list" r] kt p] X.env = [(false,eval a X.env),(false,eval (.Tuple [.Name "tuple" q,.Name "list" r] kt p) X.env)] := by rfl) :
    Snd X G E (.Call (.Name "isinstance" p') [a,.Tuple [.Name "tuple" q,.Name "list" r] kt p] [] pos) (m1 (isiD zdr) ma) :=
  zdh (cs := [.ty "tuple",.ty "list"]) hg hm ha (z1r (z7x hg' hm' z7s) (z1r (z7x hg'' hm'' zaq) z3s)) (by decide) zhp zds (fun c bb h => by cases h) he
theorem z1f {x : Str} {C : Addr} {nn : Option Bool} {tbl : List (Nat × Bool)} (hg : Gl X "isinstance") (hm : X.mg "isinstance" = none) (hg' : Gl X x) (hm' : X.mg x = some (.ref C)) (ha : Snd X G E a ma)
    (hn : ∀ b,nn = some b→PySem.W.kitOne G.K (.type "NoneType") (.ref C) = some b) (ht : ∀ c b,tbl.lookup c = some b→PySem.W.kitOne G.K (.ref (G.cl c)) (.ref C) = some b∧ExK G.K (G.cl c)) (hd : (x == ("__debug__" : Str)) = false := by decide)
    (he : starEach [a,.Name x q] X.env = [(false,eval a X.env),(false,eval (.Name x q) X.env)] := by rfl) (he2 : starEach [.Name x q] X.env = [(false,eval (.Name x q) X.env)] := by rfl) :
    Snd X G E (.Call (.Name "isinstance" p) [a,.Name x q] [] pos) (m1 (isiD (z1n nn tbl)) ma) :=
  z3h hg hm ha (za3 (v := .ref C) hg' hm' rfl hd) (.inr ⟨_,rfl⟩) rfl (fun ty bb h => by
    cases ty with
    | exc c => exact (ht c bb h).1
    | non => exact hn bb h
    | _ => cases h) (fun c bb h => (ht c bb h).2) he he2
theorem zlh {nn : Option Bool} {tbl : List (Nat × Bool)} (hg : Gl X "isinstance") (hm : X.mg "isinstance" = none) (hg' : Gl X "ValueError") (hm' : X.mg "ValueError" = none) (ha : Snd X G E a ma)
    (hn : ∀ b,nn = some b→PySem.W.kitOne G.K (.type "NoneType") (.type "ValueError") = some b) (ht : ∀ c b,tbl.lookup c = some b→PySem.W.kitOne G.K (.ref (G.cl c)) (.type "ValueError") = some b∧ExK G.K (G.cl c))
    (he : starEach [a,.Name "ValueError" q] X.env = [(false,eval a X.env),(false,eval (.Name "ValueError" q) X.env)] := by rfl) :
    Snd X G E (.Call (.Name "isinstance" p) [a,.Name "ValueError" q] [] pos) (m1 (isiD (z1n nn tbl)) ma) :=
  z3h hg hm ha (z7x hg' hm' b_ve) (.inl ⟨_,rfl⟩) rfl (fun ty bb h => by
    cases ty with
    | exc c => exact (ht c bb h).1
    | non => exact hn bb h
    | _ => cases h) (fun c bb h => (ht c bb h).2) he
end
section
variable {P : Program} {w : World} {K : PySem.W.Frag} {mg : Str→Option Value} {base : Heap} {f : Addr} {G : Cfg} {k : Nat} {N : List Str}
theorem zhq {x qual : Str} {st : Stmt} {fd : FuncData} {ps : List Str} {mb : MS} (Fn : Fun K x qual st f fd) (S : FnScope N ps (z03 st)) (hK : K = G.K)
    (hbody : ∀ (cdv : Value) (A : Around) (outer : List Env) (s : Shared) (H : Hp) (E₀ E : XK),fd.code = cdv→Good (cxOf (CXm P w base) P w K mg base N qual (z03 st) f cdv A outer s H E₀) G E k→z3w (cxOf (CXm P w base) P w K mg base N qual (z03 st) f cdv A outer s H E₀) G E (z07 st) mb) :
    FnOk P w K mg base (CXm P w base) (k + 1) f fd ps (spOf G (z0x ps.length N.length mb)):= by
  obtain ⟨oc,od,kV,doc,pm,an,cdv,ct,osl,rfl,lk,hcd⟩ := Fn.ex
  have hlen : ∀ vs H Q E,spOf G (z0x ps.length N.length mb) vs H Q E→vs.length = ps.length:= fun vs H Q E ⟨μ,h,ds,r,sm,o⟩ => by
    rw [r.length]
    unfold z0x at o
    by_cases hd : ds.length = ps.length
    · exact hd
    · rw [if_neg hd] at o; exact o.elim
  refine zcx lk hcd S hlen fun A outer s H vs Q E hr hsp => ?_
  have hl := hlen _ _ _ _ hsp
  obtain ⟨μ,h,ds,r,sm,o⟩ := hsp
  have o' : Out G E μ h.length H (z1c (mb (z0o N.length ds) h)) (RelD G) Q:= by
    unfold z0x at o
    rw [if_pos (by rw [← r.length]; exact hl)] at o
    exact o
  refine ⟨_,hbody cdv A outer s H E (EB G μ h.length H (mb (z0o N.length ds) h)) rfl (z7v hr hK (fun u H' ⟨c,h',μ',er,x,s',fl⟩ => ?_) z7w) hK, ?_⟩
  · rw [er] at o'
    exact o' μ' H' u x s' fl
  · refine ⟨μ,z0o N.length ds,h,z8o r N,sm, ?_⟩
    cases q : mb (z0o N.length ds) h with
    | bad => rw [q] at o'; exact o'.elim
    | bk ρ h' => rw [q] at o'; exact o'.elim
    | ct ρ h' => rw [q] at o'; exact o'.elim
    | rt d h' => rw [q] at o'; exact o'
    | nx ρ h' => rw [q] at o'; exact fun μ' H' σ' x' s' rs' => o' μ' H' .non x' s' rfl
    | ex c h' => exact fun μ' H' u x' s' fl => ⟨c,h',μ',rfl,x',s',fl⟩
theorem zli {fd : FuncData} {ps : List Str} : FnOk P w K mg base (CXm P w base) k f fd ps (spOf G (fun _ _ => .bad)) :=
  ⟨fun vs H Q E ⟨_,_,_,_,_,o⟩ => o.elim,fun _ _ _ _ _ _ _ _ _ _ _ _ _ ⟨_,_,_,_,_,o⟩ => o.elim⟩
end
section
variable {X : Cx} {G : Cfg} {E : XK} {k : Nat} {q x : Str} {p pos lpos : Pos} {params : Arguments} {body : Expr} {scope os : Scope} {c P fr : Addr} {fdr : FuncData} {Nl oN : List Str} {me : M Dv} {n ncl j : Nat} {mb : MS} {caps : List Nat}
theorem zlj (g : Good X G E k) (hj : j ≤ k) (hfn : ∀ y,X.fn y = true)
    (F : ∀ base,X.K.In base→base.Ns mainGlobals X.mg→FnOk X.prog X.w X.K X.mg base (CXm X.prog X.w base) j fr fdr [x] (zdp G base Nl params body scope me n ncl mb))
    (hg : Gl X q) (hm : X.mg q = some (.ref fr)) (hk : PySem.W.keepIn X.K (.ref fr) = true) (hb : Binds X.K fdr [x] [])
    (hdef : defaultsOf params X.env = ([],[])) (hq : X.env.qual ++ "<lambda>" = G.lq) (hP : G.tab = some P) (hcode : X.env.code = .ref c) (hC : PySem.W.CodeHd X.base c P) (hB : z56 X.mg X.base)
    (LS : LamScope Nl scope) (hs : X.env.scope.names = os.names) (hN : X.N = oN) (hkind : ∀ y ∈ Nl,os.names.lookup y = some .cell) (hcl : caps.length = Nl.length) (hcap : ∀ z ∈ caps.zip Nl,oN[z.1]? = some z.2)
    (hdb : (q == ("__debug__" : Str)) = false := by decide) (he : starEach [.Lambda params body scope lpos] X.env = [(false,eval (.Lambda params body scope lpos) X.env)] := by rfl) :
    Snd X G E (.Call (.Name q p) [.Lambda params body scope lpos] [] pos) (mRef caps n ncl mb me) :=
  zhk g hj hfn F hg hm hk hb hdef hq hP hcode hC hB LS (fun y hy => by rw [hs]; exact hkind y hy) hcl (fun i j y e1 e2 => by
    rw [hN]
    exact hcap (j,y) (List.mem_of_getElem? (i := i) (List.getElem?_zip_eq_some.mpr ⟨e1,e2⟩))) hdb he
end
def z1g : Dv→Bool
  | .scr => false
  | _ => true
def ix0 (x y : Dv) (h : Hs) : Rs Dv := if z1g x = true then ixD [] x y h else .bad
def len0 (x : Dv) (h : Hs) : Rs Dv := if z1g x = true then lenD [] x h else .bad
def z4o (x : Dv) (h : Hs) : Rs Dv := if z1g x = true then z9n [] x h else .bad
def in0 (neg : Bool) (x y : Dv) (h : Hs) : Rs Dv := if z1g y = true then inD [] neg x y h else .bad
theorem z4p {scr : List Int} {x : Dv} {h : Hs} (e : z1g x = true) : seqD [] x h = seqD scr x h := by cases x <;> first | rfl | cases e
section
variable {X : Cx} {G : Cfg} {E : XK} {k : Nat} {a b e : Expr} {es : List Expr} {ma mb : M Dv} {mas : M (List Dv)} {p pos : Pos}
theorem zlk : OpD G (rIx G.K) ix0:= by
  intro E μ h H x y vx vy Q s rx ry o
  unfold ix0 at o
  split at o
  · rename_i hx
    refine zfe E μ h H x y vx vy Q s rx ry ?_
    have e : ixD G.scr x y h = ixD [] x y h := by cases x <;> cases y <;> first | rfl | exact absurd hx (by decide)
    rw [e]; exact o
  · exact o.elim
theorem zhr : UnD G (zkv G.K) len0:= by
  intro E μ h H x vx Q s rx o
  unfold len0 at o
  split at o
  · rename_i hx
    refine zar E μ h H x vx Q s rx ?_
    unfold lenD at o ⊢
    rw [← z4p hx]; exact o
  · exact o.elim
theorem zdt : UnD G (fun x H Q => ∃ p ys,x = .ref p∧(SqL G.K H p ys ∨ SqT G.K H p ys)∧∀ l,H l = none→Q (.ref l) (upd H l (.lst ys))) z4o:= by
  intro E μ h H x vx Q s rx o
  unfold z4o at o
  split at o
  · rename_i hx
    refine zd5 E μ h H x vx Q s rx ?_
    unfold z9n at o ⊢
    rw [← z4p hx]; exact o
  · exact o.elim
theorem zll (neg : Bool) : OpD G (rInG G.K neg) (in0 neg):= by
  intro E μ h H x y vx vy Q s rx ry o
  unfold in0 at o
  split at o
  · rename_i hx
    refine zl8 neg E μ h H x y vx vy Q s rx ry ?_
    unfold inD at o ⊢
    rw [← z4p hx]; exact o
  · exact o.elim
theorem z0z (ha : Snd X G E a ma) (hb : Snd X G E b mb) (hs : z7p b := by intro _ _; rfl) : Snd X G E (.Subscript a b pos) (m2 ix0 ma mb):= fun hK =>
  PE.imp (zkh (by have := zf7 (X := X); rw [hK] at this; exact this) (ha hK) (hb hK) hs) fun _ _ _ t => z6v zlk t
theorem z38 (hg : Gl X "len") (hm : X.mg "len" = none) (ha : SndA X G E (e :: es) mas)
    (he : starEach (e :: es) X.env = (false,eval e X.env) :: starEach es X.env := by rfl) (hpl : (backTo pos (starEach es X.env)).any (·.1) = false := by rfl) : Snd X G E (.Call (.Name "len" p) (e :: es) [] pos) (z05 (f1 len0) mas):= fun hK =>
  z1l (CallR.imp (z3t (X := X)) fun xs H Q ⟨v,h1,a,ys,h2,h3,h4⟩ => ⟨a,ys,by rw [h1,h2],by rw [hK]; exact h3,h4⟩) (z6x zhr) hg hm PySem.boot_len ha (by decide) (by decide) he hpl hK
theorem zbn (hg : Gl X "list") (hm : X.mg "list" = none) (ha : SndA X G E (e :: es) mas)
    (he : starEach (e :: es) X.env = (false,eval e X.env) :: starEach es X.env := by rfl) (hpl : (backTo pos (starEach es X.env)).any (·.1) = false := by rfl) : Snd X G E (.Call (.Name "list" p) (e :: es) [] pos) (z05 (f1 z4o) mas):= fun hK =>
  z5i (CallR.imp (z6s (X := X)) fun xs H Q ⟨v,h1,a,ys,h2,h3,h4⟩ => ⟨a,ys,by rw [h1,h2],by rw [hK]; exact h3,h4⟩) (z6x zdt) hg hm zaq ha (by decide) (by decide) he hpl hK
end
theorem z8z (h l : Hs) (k : Nat) : getL (h ++ l) (h.length + k) = getL l k:= by
  unfold getL
  rw [List.getElem?_append_right (by omega),show h.length + k - h.length = k by omega]
theorem zbo (h l : Hs) : getL (h ++ l) h.length = getL l 0 := z8z h l 0
theorem zbp (h l : Hs) (k : Nat) (o : Ob) : (h ++ l).set (h.length + k) o = h ++ l.set k o:= by
  rw [List.set_append_right _ _ (by omega),show h.length + k - h.length = k by omega]
theorem zdu (h l : Hs) (o : Ob) : (h ++ l).set h.length o = h ++ l.set 0 o := zbp h l 0 o
mutual
def sh (n : Nat) : Dv→Dv
  | .ref i => .ref (n + i)
  | .tup xs => .tup (shL n xs)
  | .non => .non
  | .bl b => .bl b
  | .int i => .int i
  | .str x => .str x
  | .edc => .edc
  | .exc c => .exc c
  | .scr => .scr
def shL (n : Nat) : List Dv→List Dv
  | [] => []
  | x :: xs => sh n x :: shL n xs
end
def shO (n : Nat) : Ob→Ob
  | .lst xs => .lst (shL n xs)
def shH (n : Nat) (l : Hs) : Hs := l.map (shO n)
section
variable {n : Nat}
theorem z2i : ∀ xs : List Dv,shL n xs = xs.map (sh n)
  | [] => by rw [shL]; rfl
  | x :: xs => by rw [shL,z2i xs]; rfl
theorem z4q (xs ys : List Dv) : shL n (xs ++ ys) = shL n xs ++ shL n ys := by simp [z2i]
theorem z0v (xs : List Dv) : (shL n xs).length = xs.length := by simp [z2i]
theorem z69 (xs : List Dv) (i : Nat) : (shL n xs)[i]? = (xs[i]?).map (sh n) := by simp [z2i]
theorem zhs (l : Hs) (o : Ob) : shH n (l ++ [o]) = shH n l ++ [shO n o] := by simp [shH]
theorem zht (l : Hs) : (shH n l).length = l.length := by simp [shH]
theorem zhu (l : Hs) (i : Nat) (o : Ob) : shH n (l.set i o) = (shH n l).set i (shO n o) := by simp [shH,List.map_set]
theorem zhv (l : Hs) (i : Nat) : (shH n l)[i]? = (l[i]?).map (shO n) := by simp [shH]
end
theorem z14 (B l : Hs) (i : Nat) : getL (B ++ shH B.length l) (B.length + i) = (getL l i).map (shL B.length):= by
  rw [z8z]
  unfold getL
  rw [zhv]
  cases q : l[i]? with
  | none => rfl
  | some o => cases o; rfl
theorem z2p (B l : Hs) (xs : List Dv) : (B ++ shH B.length l) ++ [.lst (shL B.length xs)] = B ++ shH B.length (l ++ [.lst xs]):= by
  rw [zhs,List.append_assoc]; rfl
theorem z5n (B l : Hs) : (B ++ shH B.length l).length = B.length + l.length := by rw [List.length_append,zht]
theorem zlm (B l : Hs) (i : Nat) (xs : List Dv) : (B ++ shH B.length l).set (B.length + i) (.lst (shL B.length xs)) = B ++ shH B.length (l.set i (.lst xs)):= by
  rw [zbp,zhu]; rfl
def UpR {α : Type} (B : Hs) (f : α→α) (r' r : Rs α) : Prop := match r' with
  | .bad => True
  | .ok d l => r = .ok (f d) (B ++ shH B.length l)
  | .ex c l => r = .ex c (B ++ shH B.length l)
structure UpV (n : Nat) (ρ' ρ : Ev) : Prop where
  len : ρ'.length = ρ.length
  at_ : ∀ (i : Nat) (d : Dv),ρ'[i]? = some (some d)→ρ[i]? = some (some (sh n d))
abbrev UpE (m : M Dv) : Prop := ∀ (B : Hs) (ρ' ρ : Ev) (l : Hs),UpV B.length ρ' ρ→UpR B (sh B.length) (m ρ' l) (m ρ (B ++ shH B.length l))
abbrev UpA (m : M (List Dv)) : Prop := ∀ (B : Hs) (ρ' ρ : Ev) (l : Hs),UpV B.length ρ' ρ→UpR B (shL B.length) (m ρ' l) (m ρ (B ++ shH B.length l))
abbrev UpT (m : M Bool) : Prop := ∀ (B : Hs) (ρ' ρ : Ev) (l : Hs),UpV B.length ρ' ρ→UpR B id (m ρ' l) (m ρ (B ++ shH B.length l))
abbrev Up1 (f : Dv→Hs→Rs Dv) : Prop := ∀ (B : Hs) (x : Dv) (l : Hs),UpR B (sh B.length) (f x l) (f (sh B.length x) (B ++ shH B.length l))
abbrev Up1B (f : Dv→Hs→Rs Bool) : Prop := ∀ (B : Hs) (x : Dv) (l : Hs),UpR B id (f x l) (f (sh B.length x) (B ++ shH B.length l))
abbrev Up2 (f : Dv→Dv→Hs→Rs Dv) : Prop := ∀ (B : Hs) (x y : Dv) (l : Hs),UpR B (sh B.length) (f x y l) (f (sh B.length x) (sh B.length y) (B ++ shH B.length l))
abbrev UpF (f : List Dv→Hs→Rs Dv) : Prop := ∀ (B : Hs) (xs : List Dv) (l : Hs),UpR B (sh B.length) (f xs l) (f (shL B.length xs) (B ++ shH B.length l))
structure UpSrc (B : Hs) (s' s : Src) : Prop where
  n : s.n = s'.n
  get : ∀ (k : Nat) (l : Hs) (d : Dv),s'.get k l = some d→s.get k (B ++ shH B.length l) = some (sh B.length d)
  fin : ∀ (l : Hs),s'.fin l = true→s.fin (B ++ shH B.length l) = true
def UpRS (B : Hs) (r' r : Rs Src) : Prop := match r' with
  | .bad => True
  | .ok s' l => ∃ s,r = .ok s (B ++ shH B.length l)∧UpSrc B s' s
  | .ex c l => r = .ex c (B ++ shH B.length l)
abbrev UpI (m : M Src) : Prop := ∀ (B : Hs) (ρ' ρ : Ev) (l : Hs),UpV B.length ρ' ρ→UpRS B (m ρ' l) (m ρ (B ++ shH B.length l))
def UpSr (B : Hs) (r' r : Sr) : Prop := match r' with
  | .bad => True
  | .nx ρ1 l => ∃ ρ,r = .nx ρ (B ++ shH B.length l)∧UpV B.length ρ1 ρ
  | .bk ρ1 l => ∃ ρ,r = .bk ρ (B ++ shH B.length l)∧UpV B.length ρ1 ρ
  | .ct ρ1 l => ∃ ρ,r = .ct ρ (B ++ shH B.length l)∧UpV B.length ρ1 ρ
  | .rt d l => r = .rt (sh B.length d) (B ++ shH B.length l)
  | .ex c l => r = .ex c (B ++ shH B.length l)
abbrev UpS (m : MS) : Prop := ∀ (B : Hs) (ρ' ρ : Ev) (l : Hs),UpV B.length ρ' ρ→UpSr B (m ρ' l) (m ρ (B ++ shH B.length l))
abbrev UpG (st : Tgt) : Prop := ∀ (n : Nat) (d : Dv) (ρ' ρ ρ1 : Ev),UpV n ρ' ρ→st d ρ' = some ρ1→∃ ρ2,st (sh n d) ρ = some ρ2∧UpV n ρ1 ρ2
def UpRC (B : Hs) (r' r : Rs (Ev × List Dv)) : Prop := match r' with
  | .ok (ρ1,acc) l => ∃ ρ,r = .ok (ρ,shL B.length acc) (B ++ shH B.length l)∧UpV B.length ρ1 ρ
  | _ => True
abbrev UpC (m : MC) : Prop := ∀ (B : Hs) (ρ' ρ : Ev) (l : Hs) (acc : List Dv),UpV B.length ρ' ρ→UpRC B (m ρ' l acc) (m ρ (B ++ shH B.length l) (shL B.length acc))
theorem UpR.bind {α β : Type} {B : Hs} {f : α→α} {g : β→β} {r' r : Rs α} {k' k : α→Hs→Rs β} (h : UpR B f r' r) (hk : ∀ d l,UpR B g (k' d l) (k (f d) (B ++ shH B.length l))) : UpR B g (r'.bind k') (r.bind k):= by
  cases r' with
  | bad => trivial
  | ok d l => rw [show r = _ from h]; exact hk d l
  | ex c l => rw [show r = _ from h]; exact rfl
theorem UpR.bindS {α : Type} {B : Hs} {f : α→α} {r' r : Rs α} {k' k : α→Hs→Rs Src} (h : UpR B f r' r) (hk : ∀ d l,UpRS B (k' d l) (k (f d) (B ++ shH B.length l))) : UpRS B (r'.bind k') (r.bind k):= by
  cases r' with
  | bad => trivial
  | ok d l => rw [show r = _ from h]; exact hk d l
  | ex c l => rw [show r = _ from h]; exact rfl
theorem UpR.thenS {α : Type} {B : Hs} {f : α→α} {r' r : Rs α} {k' k : α→Hs→Sr} (h : UpR B f r' r) (hk : ∀ d l,UpSr B (k' d l) (k (f d) (B ++ shH B.length l))) : UpSr B (r'.thenS k') (r.thenS k):= by
  cases r' with
  | bad => trivial
  | ok d l => rw [show r = _ from h]; exact hk d l
  | ex c l => rw [show r = _ from h]; exact rfl
theorem UpV.set {n : Nat} {ρ' ρ : Ev} (u : UpV n ρ' ρ) (i : Nat) (d : Dv) : UpV n (ρ'.set i (some d)) (ρ.set i (some (sh n d))) := ⟨by rw [List.length_set,List.length_set]; exact u.len,fun j d' e => by
  have hl := u.len
  by_cases hij : i = j
  · subst hij
    have hi : i < ρ'.length:= by
      have := (List.getElem?_eq_some_iff.mp e).1
      simpa using this
    rw [List.getElem?_set_self hi] at e
    cases e
    exact List.getElem?_set_self (by omega)
  · rw [List.getElem?_set_ne hij] at e ⊢
    exact u.at_ j d' e⟩
section
variable {ma mb mc : M Dv} {mas : M (List Dv)} {t u : M Bool} {f f' : Dv→Dv→Hs→Rs Dv} {g : Dv→Hs→Rs Dv} {F : List Dv→Hs→Rs Dv}
theorem z0s (i : Nat) : UpE (mVar i):= fun B ρ' ρ l u => by
  unfold mVar
  cases q : ρ'[i]? with
  | none => trivial
  | some o =>
    cases o with
    | none => trivial
    | some d => rw [u.at_ i d q]; exact rfl
theorem u_c {d : Dv} (h : ∀ n,sh n d = d := by intro _; rfl) : UpE (mC d):= fun B ρ' ρ l u => by
  show Rs.ok d _ = .ok (sh B.length d) _
  rw [h]
theorem u_m1 (h : Up1 g) (ha : UpE ma) : UpE (m1 g ma):= fun B ρ' ρ l u => (ha B ρ' ρ l u).bind fun d l1 => h B d l1
theorem u_m2 (h : Up2 f) (ha : UpE ma) (hb : UpE mb) : UpE (m2 f ma mb):= fun B ρ' ρ l u => (ha B ρ' ρ l u).bind fun x l1 => (hb B ρ' ρ l1 u).bind fun y l2 => h B x y l2
theorem zhw (h : Up2 f) (h' : Up2 f') (ha : UpE ma) (hb : UpE mb) (hc : UpE mc) : UpE (z5e f f' ma mb mc):= fun B ρ' ρ l u => (ha B ρ' ρ l u).bind fun x l1 => (hb B ρ' ρ l1 u).bind fun y l2 => (h B x y l2).bind fun z l3 => by
  cases z with
  | bl b =>
    cases b with
    | true => exact (hc B ρ' ρ l3 u).bind fun w l4 => h' B y w l4
    | false => exact rfl
  | _ => trivial
theorem z0y : UpA mNil:= fun B ρ' ρ l u => rfl
theorem z0c (ha : UpE ma) (hs : UpA mas) : UpA (z00 ma mas):= fun B ρ' ρ l u => (ha B ρ' ρ l u).bind fun d l1 => (hs B ρ' ρ l1 u).bind fun ds l2 => rfl
theorem z90 {α : Type} {B : Hs} {p : α→α} {n : Nat} {r' r : Rs α} (h : UpR B p r' r) : UpR B p (lim n r') (lim n r):= by
  unfold lim
  split
  · exact h
  · trivial
theorem zdv (hs : UpA mas) : UpE (mTup mas):= fun B ρ' ρ l u => (hs B ρ' ρ l u).bind fun ds l1 => by
  rw [z0v]
  exact z90 rfl
theorem z29 (hs : UpA mas) : UpE (mLst mas):= fun B ρ' ρ l u => (hs B ρ' ρ l u).bind fun ds l1 => by
  rw [z0v,z5n,z2p]
  exact z90 rfl
theorem zfo (ha : UpE ma) (hb : UpE mb) : UpE (z62 ma mb):= fun B ρ' ρ l u => (ha B ρ' ρ l u).bind fun d l1 => by
  cases d with
  | bl b =>
    cases b with
    | true => exact hb B ρ' ρ l1 u
    | false => exact rfl
  | _ => trivial
theorem zhx (ha : UpT t) (hb : UpT u) : UpT (mAnd t u):= fun B ρ' ρ l v => (ha B ρ' ρ l v).bind fun c l1 => by
  cases c with
  | true => exact hb B ρ' ρ l1 v
  | false => exact rfl
theorem u_or (ha : UpT t) (hb : UpT u) : UpT (mOr t u):= fun B ρ' ρ l v => (ha B ρ' ρ l v).bind fun c l1 => by
  cases c with
  | true => exact rfl
  | false => exact hb B ρ' ρ l1 v
theorem zbq (ha : UpT t) : UpT (mNot t):= fun B ρ' ρ l v => (ha B ρ' ρ l v).bind fun c l1 => rfl
theorem u_B (ha : UpE ma) : UpT (mB ma):= fun B ρ' ρ l v => (ha B ρ' ρ l v).bind fun d l1 => by cases d <;> first | trivial | exact rfl
theorem zhy : Up1B truD:= fun B x l => by
  cases x with
  | tup xs =>
    show Rs.ok (!(shL B.length xs).isEmpty) _ = .ok (!xs.isEmpty) _
    cases xs <;> rfl
  | ref i =>
    unfold truD
    dsimp only [sh]
    rw [z14]
    cases q : getL l i with
    | none => trivial
    | some xs =>
      show Rs.ok (!(shL B.length xs).isEmpty) _ = .ok (!xs.isEmpty) _
      cases xs <;> rfl
  | _ => first | trivial | exact rfl
theorem z9u (ha : UpE ma) : UpT (mTru ma):= fun B ρ' ρ l v => (ha B ρ' ρ l v).bind fun d l1 => zhy B d l1
theorem zln : UpT z4l:= fun B ρ' ρ l v => rfl
theorem z1u (h : UpF F) (hs : UpA mas) : UpE (z05 F mas):= fun B ρ' ρ l u => (hs B ρ' ρ l u).bind fun ds l1 => h B ds l1
theorem u_L (h : UpF F) (hs : UpA mas) : UpE (mL F mas):= fun B ρ' ρ l u => (hs B ρ' ρ l u).bind fun ds l1 => h B ds l1
theorem u_al (hs : UpA mas) : UpE (mAl mas):= fun B ρ' ρ l u => (hs B ρ' ρ l u).bind fun ds l1 => by
  rw [z5n,z2p]; exact rfl
end
theorem z91 {g : Int→Int→Dv} (h : ∀ n i j,sh n (g i j) = g i j := by intro _ _ _; rfl) : Up2 (iOp g):= fun B x y l => by
  cases x <;> cases y <;> first | trivial | (show Rs.ok _ _ = .ok (sh B.length _) _; rw [h])
theorem zhz {C : Int→Int→Bool} {g : Int→Int→Dv} (h : ∀ n i j,sh n (g i j) = g i j := by intro _ _ _; rfl) : Up2 (iOpC C g):= fun B x y l => by
  cases x <;> cases y <;> first
    | trivial
    | (dsimp only [iOpC,sh]
       split
       · show Rs.ok _ _ = .ok (sh B.length _) _
         rw [h]
       · trivial)
theorem zfp : Up2 subD := z91
theorem zlo : Up2 ltD := z91
theorem zlp : Up2 leD := z91
theorem znf : Up2 geD := z91
theorem zlq : Up2 addD:= fun B x y l => by
  cases x <;> cases y <;> first
    | trivial
    | exact rfl
    | skip
  · rename_i xs ys
    dsimp only [addD,sh]
    have e : (shL B.length xs).isEmpty = xs.isEmpty := by cases xs <;> rfl
    rw [e,z0v,z0v,← z4q]
    split
    · trivial
    · exact z90 (by rw [show Dv.tup (shL B.length (xs ++ ys)) = sh B.length (.tup (xs ++ ys)) from rfl]; exact rfl)
  · rename_i i j
    dsimp only [addD,sh]
    rw [z14,z14]
    cases q : getL l i with
    | none => trivial
    | some xs =>
      cases q2 : getL l j with
      | none => trivial
      | some ys =>
        dsimp only [Option.map_some]
        rw [z0v,z0v,← z4q,z5n,z2p]
        exact z90 rfl
theorem z92 : Up1 negD:= fun B x l => by cases x <;> first | trivial | exact rfl
theorem zi0 : Up1 notD:= fun B x l => by cases x <;> first | trivial | exact rfl
theorem zlr (B : Hs) (x : Dv) (l : Hs) : tyD (sh B.length x) (B ++ shH B.length l) = tyD x l:= by
  cases x with
  | ref i =>
    dsimp only [tyD,sh]
    rw [z14]
    cases getL l i <;> rfl
  | _ => rfl
theorem z1i {f : Ty→Option Bool} : Up1 (isiD f):= fun B x l => by
  unfold isiD
  rw [zlr]
  cases tyD x l with
  | none => trivial
  | some ty =>
    dsimp only
    cases f ty with
    | none => trivial
    | some b => exact rfl
theorem zng {n : Nat} (xs : List Dv) (i : Int) : atI (shL n xs) i = (atI xs i).map (sh n):= by
  unfold atI
  rw [z0v]
  cases ixN xs.length i with
  | none => rfl
  | some k => exact z69 xs k
theorem zfq {B : Hs} (xs : List Dv) (i : Int) (l : Hs) : UpR B (sh B.length) (atL xs i l) (atL (shL B.length xs) i (B ++ shH B.length l)):= by
  unfold atL
  rw [zng]
  cases atI xs i with
  | none => trivial
  | some d => exact rfl
theorem z5o : Up2 ix0:= fun B x y l => by
  cases x with
  | tup xs => cases y <;> first | trivial | exact zfq xs _ l
  | ref i =>
    cases y with
    | int k =>
      show UpR B _ (match getL l i with | some xs => atL xs k l | none => .bad) (match getL (B ++ shH B.length l) (B.length + i) with | some xs => atL xs k (B ++ shH B.length l) | none => .bad)
      rw [z14]
      cases q : getL l i with
      | none => trivial
      | some xs => exact zfq xs k l
    | _ => trivial
  | _ => cases y <;> trivial
theorem zls (B : Hs) (x : Dv) (l : Hs) (h : z1g x = true) : seqD [] (sh B.length x) (B ++ shH B.length l) = (seqD [] x l).map (shL B.length):= by
  cases x with
  | ref i => exact z14 B l i
  | scr => cases h
  | _ => rfl
theorem zdw (n : Nat) (x : Dv) : z1g (sh n x) = z1g x := by cases x <;> rfl
theorem z4r : Up1 len0:= fun B x l => by
  unfold len0
  rw [zdw]
  split
  · rename_i h
    unfold lenD
    rw [zls B x l h]
    cases seqD [] x l with
    | none => trivial
    | some xs => show Rs.ok (Dv.int (shL B.length xs).length) _ = _; rw [z0v]; rfl
  · trivial
theorem z6a {g : Dv→Hs→Rs Dv} (h : Up1 g) : UpF (f1 g):= fun B xs l => by
  match xs with
  | [] => trivial
  | [d] => exact h B d l
  | _ :: _ :: _ => trivial
theorem zdx : Up1 z2g:= fun B x l => by
  cases x with
  | ref i =>
    dsimp only [z2g,sh]
    rw [z14]
    cases getL l i with
    | none => trivial
    | some xs => exact rfl
  | _ => first | trivial | exact rfl
theorem zfr {n : Nat} : ∀ xs : List Dv,optL blD (shL n xs) = optL blD xs
  | [] => rfl
  | x :: xs => by
    rw [shL]
    unfold optL
    rw [zfr xs]
    cases x <;> rfl
theorem zlt : UpF allF:= fun B xs l => by
  unfold allF
  rw [zfr]
  cases optL blD xs with
  | none => trivial
  | some bs => exact rfl
mutual
theorem z75 (B : Hs) (l : Hs) : ∀ (k : Nat) (d : Dv),pur k (B ++ shH B.length l) (sh B.length d) = pur k l d
  | 0,d => rfl
  | k + 1,d => by
    cases d with
    | tup xs =>
      simp only [pur,sh]
      rw [z84 B l k xs]
    | ref i =>
      simp only [pur,sh]
      rw [z14]
      cases getL l i with
      | none => rfl
      | some xs => simp only [Option.map_some]; rw [z84 B l k xs]
    | _ => rfl
theorem z84 (B : Hs) (l : Hs) : ∀ (k : Nat) (xs : List Dv),optL (pur k (B ++ shH B.length l)) (shL B.length xs) = optL (pur k l) xs
  | k,[] => rfl
  | k,x :: xs => by
    rw [shL]
    unfold optL
    rw [z75 B l k x,z84 B l k xs]
end
theorem zlu : Up2 eqD:= fun B x y l => by
  unfold eqD
  rw [z75,z75]
  cases pur z16 l x with
  | none => trivial
  | some t =>
    cases pur z16 l y with
    | none => trivial
    | some t' => exact rfl
theorem zlv : Up2 neD:= fun B x y l => by
  unfold neD
  rw [z75,z75]
  cases pur z16 l x with
  | none => trivial
  | some t =>
    cases pur z16 l y with
    | none => trivial
    | some t' => exact rfl
theorem zi1 (B : Hs) (x : Dv) (l : Hs) : UpRS B (lstD x l) (lstD (sh B.length x) (B ++ shH B.length l)):= by
  cases x with
  | ref i =>
    dsimp only [lstD,sh]
    rw [z14]
    cases q : getL l i with
    | none => trivial
    | some xs =>
      refine ⟨srcR (B.length + i) (shL B.length xs).length,rfl,z0v xs,fun k l2 d e => ?_,fun l2 e => ?_⟩
      · rw [z0v]
        dsimp only [srcR] at e ⊢
        rw [z14]
        cases q2 : getL l2 i with
        | none => rw [q2] at e; cases e
        | some ys =>
          rw [q2] at e
          dsimp only [Option.map_some] at e ⊢
          rw [z0v]
          split at e
          · rename_i hl
            rw [if_pos hl,z69,e]; rfl
          · cases e
      · rw [z0v]
        dsimp only [srcR] at e ⊢
        rw [z14]
        cases q2 : getL l2 i with
        | none => rw [q2] at e; cases e
        | some ys =>
          rw [q2] at e
          dsimp only [Option.map_some] at e ⊢
          rw [z0v]; exact e
  | _ => trivial
theorem z85 (B : Hs) (xs : List Dv) (l : Hs) : UpRS B (z0w xs l) (z0w (shL B.length xs) (B ++ shH B.length l)):= by
  match xs with
  | [] => trivial
  | [x] =>
    cases x with
    | int j =>
      dsimp only [z0w,shL,sh]
      split
      · exact ⟨_,rfl,rfl,fun k l d e => by cases e; rfl,fun _ _ => rfl⟩
      · trivial
    | _ => trivial
  | x :: _ :: _ => cases x <;> trivial
theorem zi2 {f : List Dv→Hs→Rs Src} {ms : M (List Dv)} (h : ∀ (B : Hs) (xs : List Dv) (l : Hs),UpRS B (f xs l) (f (shL B.length xs) (B ++ shH B.length l))) (hs : UpA ms) : UpI (mas f ms):= fun B ρ' ρ l u => (hs B ρ' ρ l u).bindS fun ds l1 => h B ds l1
theorem znh {f : Dv→Hs→Rs Src} {ma : M Dv} (h : ∀ (B : Hs) (x : Dv) (l : Hs),UpRS B (f x l) (f (sh B.length x) (B ++ shH B.length l))) (hs : UpE ma) : UpI (m1s f ma):= fun B ρ' ρ l u => (hs B ρ' ρ l u).bindS fun ds l1 => h B ds l1
theorem z2u (i : Nat) : UpG (z06 i):= fun n d ρ' ρ ρ1 u e => by cases e; exact ⟨_,rfl,u.set i d⟩
section
variable {mi mi' : M Src} {st st' : Tgt} {test test' : M Bool} {inner : MC} {me : M Dv} {cap : List (Option Nat)}
theorem zfs (h : UpE me) : UpC (z1t me):= fun B ρ' ρ l acc u => by
  have hh := h B ρ' ρ l u
  unfold z1t
  cases q : me ρ' l with
  | bad => trivial
  | ex c l1 => trivial
  | ok d l1 =>
    rw [q] at hh
    rw [show me ρ _ = _ from hh]
    dsimp only
    rw [z0v]
    split
    · exact ⟨ρ,by rw [z4q]; rfl,u⟩
    · trivial
theorem z86 {B : Hs} {s' s : Src} (hs : UpSrc B s' s) (hg : UpG st) (ht : UpT test) (hi : UpC inner) : ∀ (f k : Nat) (ρ' ρ : Ev) (l : Hs) (acc : List Dv),UpV B.length ρ' ρ →
    UpRC B (z1v s' st test inner f k ρ' l acc) (z1v s st test inner f k ρ (B ++ shH B.length l) (shL B.length acc))
  | 0,k,ρ',ρ,l,acc,u => by
    unfold z1v
    split
    · rename_i hf
      rw [if_pos (hs.fin l hf)]
      exact ⟨ρ,rfl,u⟩
    · trivial
  | f + 1,k,ρ',ρ,l,acc,u => by
    unfold z1v
    cases q : s'.get k l with
    | none => trivial
    | some d =>
      rw [hs.get k l d q]
      dsimp only
      cases q2 : st d ρ' with
      | none => trivial
      | some ρ1 =>
        obtain ⟨ρ2,e2,u2⟩ := hg B.length d ρ' ρ ρ1 u q2
        rw [e2]
        dsimp only
        have h3 := ht B ρ1 ρ2 l u2
        cases q3 : test ρ1 l with
        | bad => trivial
        | ex c l1 => trivial
        | ok b l1 =>
          rw [q3] at h3
          rw [show test ρ2 _ = _ from h3]
          cases b with
          | true =>
            dsimp only [id]
            have h4 := hi B ρ1 ρ2 l1 acc u2
            cases q4 : inner ρ1 l1 acc with
            | bad => trivial
            | ex c l2 => trivial
            | ok r l2 =>
              obtain ⟨ρ3,acc3⟩ := r
              rw [q4] at h4
              obtain ⟨ρ5,e5,u5⟩ := h4
              rw [e5]
              exact z86 hs hg ht hi f (k + 1) ρ3 ρ5 l2 acc3 u5
          | false => exact z86 hs hg ht hi f (k + 1) ρ1 ρ2 l1 acc u2
theorem zlw {n : Nat} {ρ' ρ : Ev} (u : UpV n ρ' ρ) (cap : List (Option Nat)) : UpV n (z2q cap ρ') (z2q cap ρ) := ⟨by simp [z2q],fun i d e => by
  unfold z2q at e ⊢
  rw [List.getElem?_map] at e ⊢
  cases q : cap[i]? with
  | none => rw [q] at e; cases e
  | some o =>
    rw [q] at e
    cases o with
    | none => cases e
    | some j =>
      dsimp only [Option.map_some] at e ⊢
      cases q2 : ρ'[j]? with
      | none => rw [q2] at e; cases e
      | some o2 =>
        rw [q2] at e
        cases o2 with
        | none => cases e
        | some d2 => cases e; rw [u.at_ j _ q2]; rfl⟩
theorem zft (h1 : UpI mi) (hg : UpG st) (ht : UpT test) (hi : UpC inner) : UpA (z27 mi cap st test inner):= fun B ρ' ρ l u => by
  have h := h1 B ρ' ρ l u
  unfold z27
  cases q : mi ρ' l with
  | bad => trivial
  | ex c l1 =>
    rw [q] at h
    rw [show mi ρ _ = _ from h]; exact rfl
  | ok s' l1 =>
    rw [q] at h
    obtain ⟨s,e,hs⟩ := h
    rw [e]
    simp only [Rs.bind_ok]
    rw [hs.n]
    have h2 := z86 hs hg ht hi s'.n 0 (z2q cap ρ') (z2q cap ρ) l1 [] (zlw u cap)
    cases q2 : z1v s' st test inner s'.n 0 (z2q cap ρ') l1 [] with
    | bad => trivial
    | ex c l2 => trivial
    | ok r l2 =>
      obtain ⟨ρ3,acc3⟩ := r
      rw [q2] at h2
      obtain ⟨ρ5,e5,u5⟩ := h2
      rw [show z1v s st test inner s'.n 0 (z2q cap ρ) (B ++ shH B.length l1) [] = _ from e5]
      exact rfl
end
theorem zlx (B : Hs) (x : Dv) (l : Hs) (h : isL x l = true) : isL (sh B.length x) (B ++ shH B.length l) = true:= by
  cases x with
  | ref j =>
    have h' : (getL l j).isSome = true := h
    show (getL (B ++ shH B.length l) (B.length + j)).isSome = true
    rw [z14]
    cases q : getL l j with
    | none => rw [q] at h'; exact absurd h' (by decide)
    | some xs => rfl
  | _ => exact absurd (show false = true from h) Bool.false_ne_true
theorem zly : Up2 appD:= fun B x d l => by
  cases x with
  | ref j =>
    dsimp only [appD,sh]
    rw [z14]
    cases getL l j with
    | none => trivial
    | some xs =>
      dsimp only [Option.map_some]
      rw [z0v,show shL B.length xs ++ [sh B.length d] = shL B.length (xs ++ [d]) by rw [z4q]; rfl,zlm]
      split
      · exact rfl
      · trivial
  | _ => trivial
section
variable {mo me mi : M Dv} {ml : M (List Dv)} {m u : MS} {t : M Bool}
theorem zni (ho : UpE mo) (he : UpE me) : UpE (mApp mo me):= fun B ρ' ρ l v => (ho B ρ' ρ l v).bind fun x l1 => by
  split
  · rename_i h
    rw [if_pos (zlx B x l1 h)]
    exact (he B ρ' ρ l1 v).bind fun d l2 => zly B x d l2
  · trivial
theorem z76 : UpS z0p:= fun B ρ' ρ l v => ⟨ρ,rfl,v⟩
theorem z3x (h1 : UpS m) (h2 : UpS u) : UpS (mSeq m u):= fun B ρ' ρ l v => by
  have h := h1 B ρ' ρ l v
  unfold mSeq
  cases q : m ρ' l with
  | bad => trivial
  | nx ρ1 l1 =>
    rw [q] at h
    obtain ⟨ρ2,e,v2⟩ := h
    rw [e]; exact h2 B ρ1 ρ2 l1 v2
  | bk ρ1 l1 => rw [q] at h; obtain ⟨ρ2,e,v2⟩ := h; rw [e]; exact ⟨ρ2,rfl,v2⟩
  | ct ρ1 l1 => rw [q] at h; obtain ⟨ρ2,e,v2⟩ := h; rw [e]; exact ⟨ρ2,rfl,v2⟩
  | rt d l1 => rw [q] at h; rw [show m ρ _ = _ from h]; exact rfl
  | ex c l1 => rw [q] at h; rw [show m ρ _ = _ from h]; exact rfl
theorem zbr (h : UpE me) : UpS (z1m me):= fun B ρ' ρ l v => (h B ρ' ρ l v).thenS fun d l1 => ⟨ρ,rfl,v⟩
theorem z77 (h : UpE me) : UpS (mRet me):= fun B ρ' ρ l v => (h B ρ' ρ l v).thenS fun d l1 => rfl
theorem u_if (hc : UpT t) (h1 : UpS m) (h2 : UpS u) : UpS (mIf t m u):= fun B ρ' ρ l v => (hc B ρ' ρ l v).thenS fun b l1 => by
  cases b with
  | true => exact h1 B ρ' ρ l1 v
  | false => exact h2 B ρ' ρ l1 v
theorem z9v {st : Tgt} (h : UpE me) (hg : UpG st) : UpS (mAsg me st):= fun B ρ' ρ l v => (h B ρ' ρ l v).thenS fun d l1 => by
  cases q : st d ρ' with
  | none => trivial
  | some ρ1 =>
    obtain ⟨ρ2,e,v2⟩ := hg B.length d ρ' ρ ρ1 v q
    rw [e]; exact ⟨ρ2,rfl,v2⟩
theorem zbs {B : Hs} {s' s : Src} {st : Tgt} (hs : UpSrc B s' s) (hg : UpG st) (hb : UpS m) : ∀ (f k : Nat) (ρ' ρ : Ev) (l : Hs),UpV B.length ρ' ρ→UpSr B (forM s' st m f k ρ' l) (forM s st m f k ρ (B ++ shH B.length l))
  | 0,k,ρ',ρ,l,v => by
    unfold forM
    split
    · rename_i hf
      rw [if_pos (hs.fin l hf)]
      exact ⟨ρ,rfl,v⟩
    · trivial
  | f + 1,k,ρ',ρ,l,v => by
    unfold forM
    cases q : s'.get k l with
    | none => trivial
    | some d =>
      rw [hs.get k l d q]
      dsimp only
      cases q2 : st d ρ' with
      | none => trivial
      | some ρ1 =>
        obtain ⟨ρ2,e2,v2⟩ := hg B.length d ρ' ρ ρ1 v q2
        rw [e2]
        dsimp only
        have h := hb B ρ1 ρ2 l v2
        cases q3 : m ρ1 l with
        | bad => trivial
        | nx ρ3 l1 => rw [q3] at h; obtain ⟨ρ4,e,v4⟩ := h; rw [e]; exact zbs hs hg hb f (k + 1) ρ3 ρ4 l1 v4
        | ct ρ3 l1 => rw [q3] at h; obtain ⟨ρ4,e,v4⟩ := h; rw [e]; exact zbs hs hg hb f (k + 1) ρ3 ρ4 l1 v4
        | bk ρ3 l1 => rw [q3] at h; obtain ⟨ρ4,e,v4⟩ := h; rw [e]; exact ⟨ρ4,rfl,v4⟩
        | rt d l1 => rw [q3] at h; rw [show m ρ2 _ = _ from h]; exact rfl
        | ex c l1 => rw [q3] at h; rw [show m ρ2 _ = _ from h]; exact rfl
theorem zlz {mi : M Src} {st : Tgt} (h1 : UpI mi) (hg : UpG st) (hb : UpS m) : UpS (mFor mi st m):= fun B ρ' ρ l v => by
  have h := h1 B ρ' ρ l v
  unfold mFor
  cases q : mi ρ' l with
  | bad => trivial
  | ex c l1 =>
    rw [q] at h
    rw [show mi ρ _ = _ from h]; exact rfl
  | ok s' l1 =>
    rw [q] at h
    obtain ⟨s,e,hs⟩ := h
    rw [e]
    simp only [Rs.thenS_ok]
    rw [hs.n]
    exact zbs hs hg hb _ _ _ _ _ v
theorem zbt {c : Nat} {ms : M (List Dv)} (h : UpA ms) : UpS (z8p c ms):= fun B ρ' ρ l v => (h B ρ' ρ l v).thenS fun ds l1 => by
  rw [z0v]
  split
  · exact rfl
  · trivial
end
theorem zdy {n k : Nat} (ds : List Dv) : UpV n (z0o k ds) (z0o k (shL n ds)) := ⟨by simp [z0o,z0v],fun i d e => by
  unfold z0o at e ⊢
  rw [z0v]
  by_cases hi : i < ds.length
  · rw [List.getElem?_append_left (by simpa using hi)] at e
    rw [List.getElem?_append_left (by simpa [z0v] using hi)]
    rw [List.getElem?_map] at e ⊢
    rw [z69]
    cases q : ds[i]? with
    | none => rw [q] at e; cases e
    | some x => rw [q] at e; cases e; rfl
  · rw [List.getElem?_append_right (by simpa using hi),List.getElem?_replicate] at e
    split at e <;> cases e⟩
theorem u_fn {np n : Nat} {m : MS} (h : UpS m) : UpF (z0x np n m):= fun B ds l => by
  unfold z0x
  rw [z0v]
  split
  · have hh := h B (z0o n ds) (z0o n (shL B.length ds)) l (zdy ds)
    cases q : m (z0o n ds) l with
    | bad => trivial
    | nx ρ1 l1 => rw [q] at hh; obtain ⟨ρ2,e,_⟩ := hh; rw [e]; exact rfl
    | rt d l1 => rw [q] at hh; rw [show m _ _ = _ from hh]; exact rfl
    | ex c l1 => rw [q] at hh; rw [show m _ _ = _ from hh]; exact rfl
    | bk ρ1 l1 => trivial
    | ct ρ1 l1 => trivial
  · trivial
theorem zdz {n k : Nat} {d : Dv} (h : sh n d = d) : UpV n (z2y k d) (z2y k d) := ⟨rfl,fun i d' e => by
  unfold z2y at e ⊢
  match i,e with
  | 0,e => simp at e
  | 1,e => simp at e; subst e; simp [h]
  | i + 2,e =>
    simp only [List.getElem?_cons_succ,List.getElem?_replicate] at e
    split at e <;> cases e⟩
theorem zbu {n : Nat} {ρ' ρ : Ev} (v : UpV n ρ' ρ) : ∀ {caps : List Nat} {ds : List Dv},capD caps ρ' = some ds→capD caps ρ = some (shL n ds)
  | [],ds,e => by unfold capD at e; cases e; rfl
  | i :: r,ds,e => by
    unfold capD at e ⊢
    cases q : ρ'[i]? with
    | none => rw [q] at e; cases e
    | some o =>
      rw [q] at e
      cases o with
      | none => cases e
      | some d =>
        dsimp only at e
        rw [v.at_ i d q]
        dsimp only
        cases q2 : capD r ρ' with
        | none => rw [q2] at e; cases e
        | some ds2 => rw [q2] at e; cases e; rw [zbu v q2]; rfl
theorem zm0 {caps : List Nat} {n ncl : Nat} {m : MS} {me : M Dv} (hm : UpS m) (he : UpE me) : UpE (mRef caps n ncl m me):= fun B ρ' ρ l v => by
  unfold mRef
  cases q : capD caps ρ' with
  | none => trivial
  | some ds =>
    rw [zbu v q]
    dsimp only
    have hv : UpV B.length (ds.map some) ((shL B.length ds).map some) := ⟨by simp [z0v],fun i d e => by
      rw [List.getElem?_map] at e ⊢
      rw [z69]
      cases q : ds[i]? with
      | none => rw [q] at e; cases e
      | some x => rw [q] at e; cases e; rfl⟩
    have h1 := he B _ _ l hv
    have fin : ∀ d l1,sh B.length d = d→UpR B (sh B.length) (z72 (m (z2y n d) l1)) (z72 (m (z2y n d) (B ++ shH B.length l1))):= fun d l1 hd => by
      have hh := hm B (z2y n d) (z2y n d) l1 (zdz hd)
      cases q : m (z2y n d) l1 with
      | bad => trivial
      | nx ρ1 l2 => rw [q] at hh; obtain ⟨ρ2,e,_⟩ := hh; rw [e]; exact rfl
      | rt d l2 => rw [q] at hh; rw [show m _ _ = _ from hh]; exact rfl
      | ex c l2 => trivial
      | bk ρ1 l2 => trivial
      | ct ρ1 l2 => trivial
    cases q1 : me (ds.map some) l with
    | bad => trivial
    | ok d l1 => rw [q1] at h1; rw [show me _ _ = _ from h1]; exact fin .non l1 rfl
    | ex c l1 =>
      rw [q1] at h1
      rw [show me _ _ = _ from h1]
      unfold refM
      dsimp only
      split
      · exact fin (.exc c) l1 rfl
      · trivial
def intD : Dv→Option Int
  | .int i => some i
  | _ => none
theorem z39 {G : Cfg} {μ : Nat→Addr} {n : Nat} {H : Hp} : ∀ {xs : List Dv} {vs : List V} {ns : List Int},RelDL G μ n H xs vs→optL intD xs = some ns→vs = ns.map V.int
  | [],_,ns,r,e => by cases e; rw [RelDL] at r; subst r; rfl
  | x :: xs,_,ns,r,e => by
    rw [RelDL] at r; obtain ⟨v,rr,rfl,r1,r2⟩ := r
    unfold optL at e
    cases x with
    | int i =>
      dsimp only [intD] at e
      cases q : optL intD xs with
      | none => rw [q] at e; cases e
      | some zs =>
        rw [q] at e; cases e
        rw [RelD] at r1; subst r1
        rw [z39 r2 q]; rfl
    | _ => cases e
theorem z4s (ns : List Int) : ∀ k,k ≤ ns.length→preSum (fun i => ns.getD i 0) k = (ns.take k).sum
  | 0,_ => by simp [preSum]
  | k + 1,h => by
    rw [preSum,z4s ns k (by omega),List.take_succ,List.sum_append]
    have : k < ns.length := by omega
    simp [List.getD,this]
section
variable {X : Cx} {G : Cfg} {E : XK} {e a b : Expr} {es : List Expr} {ma mb : M Dv} {mas : M (List Dv)} {p pos : Pos}
theorem zbv {ns : List Int} {its : List Value} (rv : Vals (ns.map V.int) its) {i : Nat} {v : Value} (e : its.toArray[i]? = some v) : ∃ t,v = .int (ns.getD i 0) t:= by
  have hl := rv.length
  rw [List.length_map] at hl
  have e' : its[i]? = some v := by simpa using e
  have hi : i < its.length := (List.getElem?_eq_some_iff.mp e').1
  have hb : i < ns.length := by omega
  obtain ⟨u,e2,r⟩ := rv.get (i := i) (x := V.int ns[i]) (by simp [hb])
  rw [e'] at e2; cases e2
  have hg : ns.getD i 0 = ns[i] := by simp [List.getD,hb]
  rw [hg]
  exact r
theorem zbw (hc : X.calm = true) : CallR X (.builtin "sum") (fun xs H Q => ∃ (p : Addr) (ns : List Int),xs = [.ref p]∧H p = some (.lst (ns.map V.int))∧Q (.int ns.sum) H):= by
  intro pins s σ H xs us Q I rv ⟨p,ns,e,hp,q⟩
  subst e
  obtain ⟨u,rfl,ru⟩ := z5u rv
  cases ru
  obtain ⟨its,rits,pl,hz⟩ := I.list (SqL.of hp)
  have hn : its.toArray.size = ns.length := by have := rits.length; simp at this ⊢; omega
  have lp := I.hok.lt hp
  have ne : p ≠ s.heap.objs.size := Nat.ne_of_lt lp
  refine call_sum_walkG (wpAny_pyIter_list pl.isList ⟨_,_,_,_,_,_,fun i => ns.getD i 0,rfl,Walks.list (A := X.A.in1) (show X.A.in1.handled = none from I.ok.hd hc) _ p ne its.toArray,⟨⟨_,Heap.get?_push_size _ rfl,rfl,rfl⟩,pl.isList.push _⟩,fun b hb => ?_,fun i v ev => zbv rits ev,fun h' tk t' k => ?_⟩)
  · simp only [Heap.size_push]
    simp at hb
    rcases hb with rfl | rfl
    · exact Nat.lt_succ_self _
    · exact Nat.lt_succ_of_lt lp
  · rw [hn,z4s ns _ (Nat.le_refl _),List.take_length]
    exact ⟨.int ns.sum,H,(z3i (tk := tk) I k : Inv X pins σ H { s with heap := h',toks := tk }),⟨t',rfl⟩,q⟩
def sumD (x : Dv) (h : Hs) : Rs Dv := match x with
  | .ref i => match getL h i with
    | some xs => match optL intD xs with
      | some ns => .ok (.int ns.sum) h
      | none => .bad
    | none => .bad
  | _ => .bad
theorem zi3 : UnD G (fun x H Q => ∃ (p : Addr) (ns : List Int),x = .ref p∧H p = some (.lst (ns.map V.int))∧Q (.int ns.sum) H) sumD:= by
  intro E μ h H x vx Q s r o
  cases x with
  | ref i =>
    dsimp only [sumD] at o
    cases q : getL h i with
    | none => rw [q] at o; exact o.elim
    | some xs =>
      rw [q] at o
      dsimp only at o
      cases q2 : optL intD xs with
      | none => rw [q2] at o; exact o.elim
      | some ns =>
        rw [q2] at o
        obtain ⟨vs,e1,r1⟩ := s.ob i _ (z0h q)
        obtain ⟨_,rfl⟩ := r
        exact ⟨_,ns,rfl,by rw [e1,z39 r1 q2],o.val s rfl⟩
  | _ => exact o.elim
theorem znj : bootBuiltins "sum" = some (.builtin "sum") := by decide +kernel
theorem zm1 (hc : X.calm = true) (hg : Gl X "sum") (hm : X.mg "sum" = none) (ha : SndA X G E (e :: es) mas)
    (he : starEach (e :: es) X.env = (false,eval e X.env) :: starEach es X.env := by rfl) (hpl : (backTo pos (starEach es X.env)).any (·.1) = false := by rfl) : Snd X G E (.Call (.Name "sum" p) (e :: es) [] pos) (z05 (f1 sumD) mas) :=
  z1l (CallR.imp (zbw hc) fun xs H Q ⟨v,h1,a,ns,h2,h3,h4⟩ => ⟨a,ns,by rw [h1,h2],h3,h4⟩) (z6x zi3) hg hm znj ha (by decide) (by decide) he hpl
theorem z6b {n : Nat} : ∀ xs : List Dv,optL intD (shL n xs) = optL intD xs
  | [] => rfl
  | x :: xs => by
    rw [shL]
    unfold optL
    rw [z6b xs]
    cases x <;> rfl
theorem zm2 : Up1 sumD:= fun B x l => by
  cases x with
  | ref i =>
    dsimp only [sumD,sh]
    rw [z14]
    cases getL l i with
    | none => trivial
    | some xs =>
      dsimp only [Option.map_some]
      rw [z6b]
      cases optL intD xs with
      | none => trivial
      | some ns => exact rfl
  | _ => trivial
def repD : Dv→Dv→Hs→Rs Dv
  | .ref i,.int k,h => match getL h i with
    | some xs => if (inW k && decide (k < 9223372036854775808) && decide (-9223372036854775808 ≤ k) && decide (xs.length * k.toNat ≤ 1000000)) = true then .ok (.ref h.length) (h ++ [.lst (List.replicate k.toNat xs).flatten]) else .bad
    | none => .bad
  | _,_,_ => .bad
theorem RelDL.rep {μ : Nat→Addr} {n : Nat} {H : Hp} {ds : List Dv} {vs : List V} (r : RelDL G μ n H ds vs) : ∀ k : Nat,RelDL G μ n H (List.replicate k ds).flatten (List.replicate k vs).flatten
  | 0 => RelDL.nil
  | k + 1 => by rw [List.replicate_succ,List.replicate_succ,List.flatten_cons,List.flatten_cons]; exact r.append (RelDL.rep r k)
theorem zi4 : OpD G rRep repD:= by
  intro E μ h H x y vx vy Q s rx ry o
  cases x with
  | ref i =>
    cases y with
    | int k =>
      dsimp only [repD] at o
      cases q : getL h i with
      | none => rw [q] at o; exact o.elim
      | some xs =>
        rw [q] at o
        dsimp only at o
        split at o
        · rename_i hb
          simp only [Bool.and_eq_true,decide_eq_true_eq] at hb
          obtain ⟨⟨⟨_,h1⟩,h2⟩,h3⟩ := hb
          obtain ⟨vs,e1,r1⟩ := s.ob i _ (z0h q)
          obtain ⟨_,rfl⟩ := rx
          rw [RelD] at ry; subst ry
          refine ⟨_,k,vs,rfl,rfl,e1,by omega,by omega,by rw [r1.length]; exact Nat.le_trans h3 (by decide),fun p hp => ?_⟩
          exact z3g s (r1.rep k.toNat) hp o
        · exact o.elim
    | _ => exact o.elim
  | _ => cases y <;> exact o.elim
theorem zi5 (ha : Snd X G E a ma) (hb : Snd X G E b mb) : Snd X G E (.BinOp a .Mult b pos) (m2 repD ma mb) := z4d zkl zi4 ha hb
theorem zm3 : Up2 repD:= fun B x y l => by
  cases x with
  | ref i =>
    cases y with
    | int k =>
      dsimp only [repD,sh]
      rw [z14]
      cases getL l i with
      | none => trivial
      | some xs =>
        dsimp only [Option.map_some]
        rw [z0v,z5n]
        split
        · rw [show (List.replicate k.toNat (shL B.length xs)).flatten = shL B.length (List.replicate k.toNat xs).flatten by simp [z2i,List.map_flatten,List.map_replicate],z2p]
          exact rfl
        · trivial
    | _ => trivial
  | _ => cases y <;> trivial
end
section
variable {X : Cx} {G : Cfg} {E : XK} {a : Expr} {elts : List Expr} {kk : Nat} {tp p pos : Pos} {ma : M Dv} {ms : M (List Dv)}
end
def zbx (g : Int→Int→Bool) (val : Nat→Int) : Nat→Int
  | 0 => val 0
  | k + 1 => if g (val (k + 1)) (zbx g val k) then val (k + 1) else zbx g val k
theorem z4t (g : Int→Int→Bool) (val : Nat→Int) : ∀ k,val (argBest (fun i j => g (val i) (val j)) k) = zbx g val k
  | 0 => rfl
  | k + 1 => by
    rw [argBest,zbx,← z4t g val k]
    split <;> rfl
def maxI (ns : List Int) : Int := zbx (fun a b => decide (a > b)) (fun i => ns.getD i 0) (ns.length - 1)
def insI (x : Int) : List Int→List Int
  | [] => [x]
  | y :: ys => if x ≤ y then x :: y :: ys else y :: insI x ys
def z2c : List Int→List Int
  | [] => []
  | x :: xs => insI x (z2c xs)
theorem z6c (x : Int) : ∀ ys,(insI x ys).Perm (x :: ys)
  | [] => List.Perm.refl _
  | y :: ys => by
    unfold insI
    split
    · exact List.Perm.refl _
    · exact ((z6c x ys).cons y).trans (List.Perm.swap x y ys)
theorem z4u : ∀ xs,(z2c xs).Perm xs
  | [] => List.Perm.refl _
  | x :: xs => (z6c x (z2c xs)).trans ((z4u xs).cons x)
theorem zfu (x : Int) : ∀ ys,ys.Pairwise (· ≤ ·)→(insI x ys).Pairwise (· ≤ ·)
  | [],_ => by simp [insI]
  | y :: ys,h => by
    have h1 := List.pairwise_cons.mp h
    unfold insI
    split
    · rename_i hxy
      refine List.pairwise_cons.mpr ⟨fun z hz => ?_,h⟩
      rcases List.mem_cons.mp hz with rfl | hz
      · exact hxy
      · exact Int.le_trans hxy (h1.1 z hz)
    · rename_i hxy
      refine List.pairwise_cons.mpr ⟨fun z hz => ?_,zfu x ys h1.2⟩
      rcases List.mem_cons.mp ((z6c x ys).subset hz) with rfl | hz
      · omega
      · exact h1.1 z hz
theorem zby : ∀ xs,(z2c xs).Pairwise (· ≤ ·)
  | [] => List.Pairwise.nil
  | x :: xs => zfu x _ (zby xs)
theorem zbz {ms ns : List Int} (hp : ms.Perm ns) (hs : ms.Pairwise (· ≤ ·)) : ms = z2c ns :=
  List.Perm.eq_of_pairwise (le := (· ≤ ·)) (fun a b _ _ h1 h2 => Int.le_antisymm h1 h2) hs (zby ns) (hp.trans (z4u ns).symm)
theorem z45 (xs : List Int) : (z2c xs).length = xs.length := (z4u xs).length_eq
section
variable {X : Cx} {G : Cfg} {E : XK} {e a b : Expr} {es : List Expr} {ma mb : M Dv} {mas : M (List Dv)} {p pos : Pos}
abbrev rL1 (f : List Int→Int) : List V→Hp→VK→Prop:= fun xs H Q => ∃ (p : Addr) (ns : List Int),xs = [.ref p]∧H p = some (.lst (ns.map V.int))∧0 < ns.length∧Q (.int (f ns)) H
theorem zc0 (hc : X.calm = true) : CallR X (.builtin "max") (rL1 maxI):= by
  intro pins s σ H xs us Q I rv ⟨p,ns,e,hp,h0,q⟩
  subst e
  obtain ⟨u,rfl,ru⟩ := z5u rv
  cases ru
  obtain ⟨its,rits,pl,hz⟩ := I.list (SqL.of hp)
  have hn : its.toArray.size = ns.length := by have := rits.length; simp at this ⊢; omega
  have lp := I.hok.lt hp
  have ne : p ≠ s.heap.objs.size := Nat.ne_of_lt lp
  refine call_max_walk (wpAny_pyIter_list pl.isList ⟨_,_,_,_,_,_,_,rfl,Walks.list (A := X.A.in1) (show X.A.in1.handled = none from I.ok.hd hc) _ p ne its.toArray,⟨⟨_,Heap.get?_push_size _ rfl,rfl,rfl⟩,pl.isList.push _⟩,fun b hb => ?_,by rw [hn]; exact h0,CmpOf.ints_gt (fun i => ns.getD i 0) (fun i v ev => zbv rits ev),fun v h' tk ev k => ?_⟩)
  · simp only [Heap.size_push]
    simp at hb
    rcases hb with rfl | rfl
    · exact Nat.lt_succ_self _
    · exact Nat.lt_succ_of_lt lp
  · obtain ⟨t',rfl⟩ := zbv rits ev
    refine ⟨.int (maxI ns),H,(z3i (tk := tk) I k : Inv X pins σ H { s with heap := h',toks := tk }),⟨t', ?_⟩,q⟩
    rw [hn]
    rw [z4t (fun a b => decide (a > b)) (fun i => ns.getD i 0)]
    rfl
theorem z4v : ∀ {vs : List Value} {ns : List Int},Vals (ns.map V.int) vs→IntsAre vs ns
  | [],[],_ => .nil
  | [],n :: ns,h => by cases h
  | v :: vs,[],h => by cases h
  | v :: vs,n :: ns,h => by
    cases h with
    | cons h1 h2 =>
      obtain ⟨t,rfl⟩ := h1
      exact .cons _ _ (z4v h2)
theorem z2e : ∀ {vs : List Value} {ns : List Int},IntsAre vs ns→Vals (ns.map V.int) vs
  | _,_,.nil => .nil
  | _,_,.cons _ _ h => .cons ⟨_,rfl⟩ (z2e h)
theorem z78 : CallR X (.builtin "sorted") (fun xs H Q => ∃ (p : Addr) (ns : List Int),xs = [.ref p]∧H p = some (.lst (ns.map V.int))∧ns.length < 64∧∀ l,H l = none→Q (.ref l) (upd H l (.lst ((z2c ns).map V.int)))):= by
  intro pins s σ H xs us Q I rv ⟨p,ns,e,hp,h0,q⟩
  subst e
  obtain ⟨u,rfl,ru⟩ := z5u rv
  cases ru
  obtain ⟨its,rits,pl,hz⟩ := I.list (SqL.of hp)
  have hl := rits.length
  rw [List.length_map] at hl
  refine sorted_ints pl.isList (z4v rits) (by omega) fun out ns' a1 a2 a3 => ?_
  obtain ⟨ep,he⟩ := sortedAll_at s.heap its out
  have hu := zbz a2 a3
  subst hu
  refine ⟨.ref (s.heap.objs.size + 1),_,I.laid (t' := s.toks) (fun b u hb => sortedAll_old hb) (Nat.le_succ _) (show ObjOk X.prog X.w _ _ _ (.lst ((z2c ns).map V.int)) from ⟨?_,out.toList,ep,z2e a1, ?_⟩),rfl,q _ (I.hok.fresh (Nat.le_succ _))⟩
  · rw [List.length_map,z45]
    exact Nat.le_trans (Nat.le_of_lt h0) (by decide)
  · rw [he]
def l1D (f : List Int→Int) (x : Dv) (h : Hs) : Rs Dv := match x with
  | .ref i => match getL h i with
    | some xs => match optL intD xs with
      | some ns => if 0 < ns.length then .ok (.int (f ns)) h else .bad
      | none => .bad
    | none => .bad
  | _ => .bad
theorem zm4 {f : List Int→Int} : UnD G (fun x H Q => rL1 f [x] H Q) (l1D f):= by
  intro E μ h H x vx Q s r o
  cases x with
  | ref i =>
    dsimp only [l1D] at o
    cases q : getL h i with
    | none => rw [q] at o; exact o.elim
    | some xs =>
      rw [q] at o
      dsimp only at o
      cases q2 : optL intD xs with
      | none => rw [q2] at o; exact o.elim
      | some ns =>
        rw [q2] at o
        dsimp only at o
        split at o
        · rename_i h0
          obtain ⟨vs,e1,r1⟩ := s.ob i _ (z0h q)
          obtain ⟨_,rfl⟩ := r
          exact ⟨_,ns,rfl,by rw [e1,z39 r1 q2],h0,o.val s rfl⟩
        · exact o.elim
  | _ => exact o.elim
theorem ze0 : bootBuiltins "sorted" = some (.builtin "sorted") := by decide +kernel
theorem z93 (hc : X.calm = true) (hg : Gl X "max") (hm : X.mg "max" = none) (ha : SndA X G E [e] mas)
    (he : starEach [e] X.env = [(false,eval e X.env)] := by rfl) : Snd X G E (.Call (.Name "max" p) [e] [] pos) (z05 (f1 (l1D maxI)) mas) :=
  z1l (CallR.imp (zc0 hc) fun xs H Q ⟨v,h1,a,ns,h2,h3⟩ => ⟨a,ns,by rw [h1,h2],h3⟩) (z6x zm4) hg hm zku ha (by decide) (by decide) he rfl
theorem znk {f : List Int→Int} : Up1 (l1D f):= fun B x l => by
  cases x with
  | ref i =>
    dsimp only [l1D,sh]
    rw [z14]
    cases getL l i with
    | none => trivial
    | some xs =>
      dsimp only [Option.map_some]
      rw [z6b]
      cases optL intD xs with
      | none => trivial
      | some ns =>
        dsimp only
        split
        · exact rfl
        · trivial
  | _ => trivial
def z6d (x : Dv) (h : Hs) : Rs Dv := match x with
  | .ref i => match getL h i with
    | some xs => match optL intD xs with
      | some ns => if ns.length < 64 then .ok (.ref h.length) (h ++ [.lst ((z2c ns).map Dv.int)]) else .bad
      | none => .bad
    | none => .bad
  | _ => .bad
theorem ze1 : UnD G (fun x H Q => ∃ (p : Addr) (ns : List Int),x = .ref p∧H p = some (.lst (ns.map V.int))∧ns.length < 64∧∀ l,H l = none→Q (.ref l) (upd H l (.lst ((z2c ns).map V.int)))) z6d:= by
  intro E μ h H x vx Q s r o
  cases x with
  | ref i =>
    dsimp only [z6d] at o
    cases q : getL h i with
    | none => rw [q] at o; exact o.elim
    | some xs =>
      rw [q] at o
      dsimp only at o
      cases q2 : optL intD xs with
      | none => rw [q2] at o; exact o.elim
      | some ns =>
        rw [q2] at o
        dsimp only at o
        split at o
        · rename_i h0
          obtain ⟨vs,e1,r1⟩ := s.ob i _ (z0h q)
          obtain ⟨_,rfl⟩ := r
          exact ⟨_,ns,rfl,by rw [e1,z39 r1 q2],h0,fun l hl => z3g s (z2o _) hl o⟩
        · exact o.elim
  | _ => exact o.elim
theorem z94 (hg : Gl X "sorted") (hm : X.mg "sorted" = none) (ha : SndA X G E [e] mas)
    (he : starEach [e] X.env = [(false,eval e X.env)] := by rfl) : Snd X G E (.Call (.Name "sorted" p) [e] [] pos) (z05 (f1 z6d) mas) :=
  z1l (CallR.imp z78 fun xs H Q ⟨v,h1,a,ns,h2,h3⟩ => ⟨a,ns,by rw [h1,h2],h3⟩) (z6x ze1) hg hm ze0 ha (by decide) (by decide) he rfl
theorem z95 {n : Nat} (ns : List Int) : shL n (ns.map Dv.int) = ns.map Dv.int:= by
  rw [z2i]; simp [sh]
theorem zi6 : Up1 z6d:= fun B x l => by
  cases x with
  | ref i =>
    dsimp only [z6d,sh]
    rw [z14]
    cases getL l i with
    | none => trivial
    | some xs =>
      dsimp only [Option.map_some]
      rw [z6b]
      cases optL intD xs with
      | none => trivial
      | some ns =>
        dsimp only
        split
        · rw [← z95 (n := B.length) (z2c ns),z5n,z2p]
          show UpR B _ (.ok _ _) _
          rw [z95]
          exact rfl
        · trivial
  | _ => trivial
end
section
variable {X : Cx} {G : Cfg} {E : XK} {e o a b : Expr} {es : List Expr} {ma mb mo me : M Dv} {mas : M (List Dv)} {p pos np apos cpos : Pos} {y : Str}
def zi7 (_ j : Int) : Prop := 0 < j∧j < 18446744073709551616
theorem ze2 : OpR X (binaryOp .FloorDiv) (rI zi7 fun i j => .int (i / j)) := opI fun i j _ _ _ _ _ hc q => by
  have h1 : (0 : Int) < j := hc.1
  have h2 : j < 18446744073709551616 := hc.2
  refine floordiv_int (by omega) (by rw [Int.fdiv_eq_ediv_of_nonneg i (by omega)]; exact q) (.inl (PyProof.noPylong_of_log2 ?_))
  have h3 : j.natAbs ≠ 0 := by omega
  have h4 : j.natAbs < 2 ^ 64 := by omega
  have := (Nat.log2_lt h3).mpr h4
  omega
def divW (_ j : Int) : Bool := decide (0 < j) && decide (j < 18446744073709551616)
theorem zi8 (i j : Int) (h : divW i j = true) : zi7 i j:= by
  unfold divW at h; unfold zi7
  simpa only [Bool.and_eq_true,decide_eq_true_eq] using h
def z4w : Dv→Dv→Hs→Rs Dv := iOpC divW fun i j => .int (i / j)
theorem z6e (ha : Snd X G E a ma) (hb : Snd X G E b mb) : Snd X G E (.BinOp a .FloorDiv b pos) (m2 z4w ma mb) := z4d ze2 (z43 zi8) ha hb
theorem ze3 : Up2 z4w := zhz
def zfv (K : PySem.W.Frag) : R2:= fun x y H Q => ∃ a b ys,x = .ref a∧y = .ref b∧SqT K H a []∧SqT K H b ys∧Q (.ref b) H
theorem op_catT0 : OpR X (binaryOp .Add) (zfv X.K):= by
  intro pins s σ H x y v u Q I rx ry ⟨a,b,ys,e1,e2,ha,hb,q⟩
  subst e1; subst e2
  cases rx
  cases ry
  obtain ⟨its,r1,p1,_⟩ := I.tuple ha
  obtain ⟨its2,r2,p2,_⟩ := I.tuple hb
  have hn : its = [] := r1.nil_iff.mpr rfl
  subst hn
  obtain ⟨⟨cls,dd,data,sl⟩,ho,hc,n,hd⟩ := p1
  obtain ⟨⟨cls2,dd2,data2,sl2⟩,ho2,hc2,n2,hd2⟩ := p2
  simp only at hc hd hc2 hd2
  subst hc hd hc2 hd2
  exact concat_meets ⟨_,ho,rfl⟩ ⟨_,ho2,rfl⟩ noFill_tuple_add seq_tuple_add PySem.F.slot_tuple_add PySem.F.entry_tuple_add (PySem.F.args_tuple_add_2 _ _)
    (tuple_addW0 a b _ _ n n2 dd dd2 sl sl2 rfl) ⟨ho,ho2,⟨.ref b,H,I,rfl,q⟩⟩
def addE (x y : Dv) (h : Hs) : Rs Dv := match x,y with
  | .tup [],.tup ys => .ok (.tup ys) h
  | x,y => addD x y h
theorem zi9 : OpD G (fun x y H Q => zfv G.K x y H Q ∨ zh7 G.K x y H Q) addE:= by
  intro E μ h H x y vx vy Q s rx ry o
  unfold addE at o
  split at o
  · rename_i ys
    obtain ⟨a,vs,rfl,ea,ra⟩ := rx
    obtain ⟨b,ws,rfl,eb,rb⟩ := id ry
    have : vs = [] := by rw [RelDL] at ra; exact ra
    subst this
    exact .inl ⟨a,b,ws,rfl,rfl,SqT.of ea,SqT.of eb,o.val s ry⟩
  · exact .inr (zh9 E μ h H _ _ vx vy Q s rx ry o)
theorem z17 (ha : Snd X G E a ma) (hb : Snd X G E b mb) : Snd X G E (.BinOp a .Add b pos) (m2 addE ma mb):= fun hK => z4d (op_catT0.or zh8) (by rw [hK]; exact zi9) ha hb hK
theorem z6f : Up2 addE:= fun B x y l => by
  have h := zlq B x y l
  cases x with
  | tup xs =>
    cases xs with
    | nil =>
      cases y with
      | tup ys => exact rfl
      | _ => exact h
    | cons z zs => cases y <;> exact h
  | _ => cases y <;> exact h
def posI (k : Int) : List Int→Option Nat
  | [] => none
  | n :: ns => if n = k then some 0 else (posI k ns).map (· + 1)
theorem zfw {k : Int} : ∀ {ns : List Int} {j : Nat},posI k ns = some j→ns[j]? = some k∧∀ m,m < j→ns[m]? ≠ some k
  | [],j,h => by cases h
  | n :: ns,j,h => by
    unfold posI at h
    split at h
    · rename_i e
      cases h
      exact ⟨by simp [e],fun m hm => by omega⟩
    · rename_i e
      cases q : posI k ns with
      | none => rw [q] at h; cases h
      | some i =>
        rw [q] at h; cases h
        obtain ⟨h1,h2⟩ := zfw q
        refine ⟨by simpa using h1,fun m hm => ?_⟩
        cases m with
        | zero => simpa using e
        | succ m =>
          have hm' : m < i := by simpa using hm
          simpa using h2 m hm'
theorem zc1 : ∀ {vs : List Value} {ns : List Int} {i : Nat} {n : Int},IntsAre vs ns→ns[i]? = some n→∃ t,vs[i]? = some (.int n t)
  | _,_,0,n,.cons m t h,e => by simp at e; subst e; exact ⟨t,rfl⟩
  | _,_,i + 1,n,.cons m t h,e => by simpa using zc1 h (by simpa using e)
  | _,_,i,n,.nil,e => by simp at e
theorem zia (a b : Value) : argsOk "tuple.index" ⟨[a,b],[]⟩ := by unfold argsOk; kernel_rfl
theorem z58 {prog : Program} {w : World} {A : Around} {E : Value→Shared→Prop} {s : Shared} {t : Addr} {items : Array Value} {ns : List Int} {k : Int} {u : Tok} {j : Nat} {P : Fin→Shared→Prop} (ht : IsTup s.heap t items) (hi : IntsAre items.toList ns)
    (hj : ns[j]? = some k) (hno : ∀ m,m < j→ns[m]? ≠ some k) (h : P (.done (.ret (.int j s.toks))) { s with toks := s.toks + 1 }) : wpAny (model prog w) A (Builtin.«tuple.index» ⟨[.ref t,.int k u],[]⟩) P E s:= by
  show wpAny _ _ (Builtin.Tuple.tupleItemsOf (.ref t) >>= _) _ _ s
  refine wpAny_bind (tupleItemsOf_ ht ?_)
  refine wpAny_bind (wpAny_pure ?_)
  refine wpAny_bind (wpAny_pure ?_)
  show wpAny _ _ (forIn [:min items.size items.size] (none,()) _ >>= _) _ _ s
  rw [Nat.min_self,Std.Legacy.Range.forIn_eq_forIn_range']
  have hsz : items.size = ns.length := by have := hi.length; simpa using this
  have hjn : j < ns.length := (List.getElem?_eq_some_iff.mp hj).1
  refine wpAny_bind (wpAny_forIn_list _ (fun rest b s' => b = (none,())∧s' = s∧∃ i,i ≤ j∧rest = List.range' i (items.size - i) 1) _ ?_ ?_ _ _ ⟨rfl,rfl,0,Nat.zero_le _, ?_⟩)
  · rintro x rest b s' ⟨rfl,rfl,i,hij,hr⟩
    have hlt : i < items.size := by omega
    obtain ⟨z,hz⟩ : ∃ z,items.size - i = z + 1 := ⟨items.size - i - 1,by omega⟩
    rw [hz,List.range'_succ] at hr
    injection hr with hx hrest
    subst hx
    obtain ⟨n,hn⟩ : ∃ n,ns[x]? = some n := ⟨ns[x]'(by omega),by simp [show x < ns.length by omega]⟩
    obtain ⟨tt,ht2⟩ := zc1 hi hn
    have ht3 : items[x]? = some (.int n tt) := by simpa using ht2
    rw [ht3]
    dsimp only
    refine wpAny_bind (wpAny_eqBool_int ?_)
    by_cases hxj : x = j
    · subst hxj
      have hnk : n = k := by rw [hj] at hn; cases hn; rfl
      subst hnk
      rw [if_pos (by simp)]
      refine wpAny_bind (wpAny_bind (wpAny_mkInt ?_))
      exact wpAny_pure (wpAny_pure (wpAny_pure h))
    · have hne : n ≠ k:= fun e => hno x (by omega) (by rw [hn,e])
      rw [if_neg (by simpa using hne)]
      exact wpAny_pure ⟨rfl,rfl,x + 1,by omega,by rw [hrest]; congr 1; omega⟩
  · rintro b s' ⟨rfl,rfl,i,hij,hr⟩
    exfalso
    have hlt : i < items.size := by omega
    have := congrArg List.length hr
    simp at this
    omega
  · simp [Std.Legacy.Range.size]
theorem ze4 : MtR X "tuple.index" (fun x xs H Q => ∃ (a : Addr) (ns : List Int) (k : Int) (j : Nat),x = .ref a∧xs = [.int k]∧H a = some (.tup (ns.map V.int))∧posI k ns = some j∧Q (.int j) H):= by
  intro pins s σ H x xs v us Q I rx rv ⟨a,ns,k,j,e1,e2,ha,hj,q⟩
  subst e1; subst e2
  cases rx
  obtain ⟨u,rfl,ru⟩ := z5u rv
  obtain ⟨t,rfl⟩ := ru
  obtain ⟨its,rits,p1,_⟩ := I.tuple (SqT.of ha)
  obtain ⟨h1,h2⟩ := zfw hj
  refine wpAny_call_entry PySem.F.slot_tuple_index p1.typeIs PySem.F.entry_tuple_index (z58 p1 (z4v rits) h1 h2 ⟨_,rfl, ?_⟩) (zia _ _)
  exact ⟨.int j,H,I.tok _,⟨_,rfl⟩,q⟩
theorem znl {id : String} {name : Str} {r : V→List V→Hp→VK→Prop} {to : TE} {t : TA} (slot : Slot "tuple" name id) (hty : typeOf (.builtin id) = pure (.type "method_descriptor")) (hm : MtR X id r) (ho : PE X o to) (ha : PA X [e] t)
    (hbase : attributeBase o name X.env (eval o X.env) = eval o X.env)
    (hfew : ((backTo cpos (starEach [e] X.env)).all (fun x => !x.1) && (backToKw cpos (keywordEach [] X.env)).all (fun x => x.1.isSome)
      && decide ([e].length + ([] : List Keyword).length + (if ([] : List Keyword).isEmpty then 0 else 1) < 30)) = true)
    (hline : (apos.endLine == cpos.line) = true) (hs : starEach [e] X.env = [(false,eval e X.env)]) :
    PE X (.Call (.Attribute o name apos) [e] [] cpos) (fun σ H Q => to σ H fun x H1 => (∃ a xs,x = .ref a∧H1 a = some (.tup xs))∧t σ H1 fun xs H2 => r x xs H2 Q):= by
  intro pins s σ H Q I h
  refine wpAny_Call_method_late hbase hfew hline rfl (thn (ho pins s σ H _ I h) fun v s1 ⟨x,H1,I1,r1,⟨a,ys,ex,ea⟩,q1⟩ => ?_)
  subst ex
  cases r1
  obtain ⟨_,its,rits,ob,g1,g2,g3,n,g4⟩ := (show ObjOk X.prog X.w H1 s1.heap a (.tup ys) from I1.hok a _ ea)
  refine ⟨"tuple",id,PySem.F.plainAttrs_tuple,slot,hty,⟨ob,g1,g2⟩,fun b eb => ?_, ?_⟩
  · cases eb
    exact ⟨ob,g1,g3⟩
  · have hA := ha cpos pins s1 σ H1 _ I1 q1
    rw [hs] at hA ⊢
    exact Calls.callWith_builtin (by rfl) (Calls.evalArgs_plain (thn hA fun us s2 ⟨vs,H2,I2,r2,q2⟩ => hm pins s2 σ H2 (.ref a) vs (.ref a) us Q I2 rfl r2 q2))
def idxD (x i : Dv) (h : Hs) : Rs Dv := match x,i with
  | .tup xs,.int k => match optL intD xs with
    | some ns => match posI k ns with
      | some j => .ok (.int j) h
      | none => .bad
    | none => .bad
  | _,_ => .bad
def isTp (x : Dv) : Bool := match x with
  | .tup _ => true
  | _ => false
def mIdx (mo me : M Dv) : M Dv:= fun ρ h => (mo ρ h).bind fun x h1 => if isTp x = true then (me ρ h1).bind fun d h2 => idxD x d h2 else .bad
theorem z79 (ho : Snd X G E (.Name y np) mo) (he : Snd X G E e me) (hs : starEach [e] X.env = [(false,eval e X.env)] := by rfl) (hl : (apos.endLine == cpos.line) = true := by rfl) : Snd X G E (.Call (.Attribute (.Name y np) "index" apos) [e] [] cpos) (mIdx mo me):= fun hK =>
  PE.imp (znl PySem.F.slot_tuple_index PySem.F.type_tuple_index ze4 (ho hK) (z1r (he hK) z3s hs) rfl (by rw [hs]; rfl) hl hs) fun σ H Q ⟨μ,ρ,h,rs,s,oo⟩ => z0u rs s oo fun μ1 x h1 vx H1 x1 rs1 s1 r1 o1 => by
    split at o1
    · rename_i hl
      cases x with
      | tup xs =>
        obtain ⟨a,vs,rfl,ea,ra⟩ := id r1
        refine ⟨⟨a,vs,rfl,ea⟩,z0u rs1 s1 o1 fun μ2 d h2 vd H2 x2 rs2 s2 r2 o2 => ?_⟩
        cases d with
        | int k =>
          dsimp only [idxD] at o2
          cases q : optL intD xs with
          | none => rw [q] at o2; exact o2.elim
          | some ns =>
            rw [q] at o2
            dsimp only at o2
            cases q2 : posI k ns with
            | none => rw [q2] at o2; exact o2.elim
            | some j =>
              rw [q2] at o2
              obtain ⟨a',vs',e',ea',ra'⟩ := RelD.mono x2 _ _ r1
              cases e'
              rw [RelD] at r2; subst r2
              exact ⟨_,ns,k,j,rfl,rfl,by rw [ea',z39 ra' q],q2,o2.val s2 rfl⟩
        | _ => exact o2.elim
      | _ => cases hl
    · exact o1.elim
end
section
variable {X : Cx} {G : Cfg} {E : XK} {k : Nat} {a b : Expr} {ma mb mo : M Dv} {pos : Pos}
theorem ze5 (g : Good X G E k) (ha : Snd X G E a ma) (hb : Snd X G E b mb) (hm : lastMarks [.NotIn] [b] = false := by with_unfolding_all rfl) : SndT X G E (.Compare a [.NotIn] [b] pos) (mB (m2 (in0 true) ma mb)):= fun hK => z4e (zb8 g.room.units) (by rw [hK]; exact zll true) ha hb hm hK
theorem t_is (ha : Snd X G E a ma) (hb : Snd X G E b mb) : SndT X G E (.Compare a [.Is] [b] pos) (mB (m2 (isC false) ma mb)) := z4e zla (zlc false) ha hb (z3r _)
end
abbrev UpO (m : MO) : Prop := ∀ (B : Hs) (ρ' ρ : Ev) (l : Hs),UpV B.length ρ' ρ→UpR B id (m ρ' l) (m ρ (B ++ shH B.length l))
theorem znm : UpO mNoB:= fun B ρ' ρ l v => rfl
theorem u_bd {m : M Dv} (h : UpE m) : UpO (mBd m):= fun B ρ' ρ l v => (h B ρ' ρ l v).bind fun d l1 => by cases d <;> first | trivial | exact rfl
theorem zfx {n : Nat} (xs : List Dv) (lo hi : Option Int) : cutD (shL n xs) lo hi = shL n (cutD xs lo hi):= by
  unfold cutD
  rw [z0v]
  simp [z2i,List.map_drop,List.map_take]
theorem znn (B : Hs) (x : Dv) (lo hi : Option Int) (l : Hs) : UpR B (sh B.length) (slD x lo hi l) (slD (sh B.length x) lo hi (B ++ shH B.length l)):= by
  cases x with
  | ref j =>
    dsimp only [slD,sh]
    rw [z14]
    cases getL l j with
    | none => trivial
    | some xs =>
      dsimp only [Option.map_some]
      rw [zfx,z5n,z2p]; exact rfl
  | tup xs =>
    dsimp only [slD,sh]
    rw [z0v,zfx]
    split
    · trivial
    · exact rfl
  | _ => trivial
theorem zib {mo : M Dv} {ml mh : MO} (ho : UpE mo) (hl : UpO ml) (hh : UpO mh) : UpE (mSl mo ml mh):= fun B ρ' ρ l v => (ho B ρ' ρ l v).bind fun x l1 => (hl B ρ' ρ l1 v).bind fun lo l2 => (hh B ρ' ρ l2 v).bind fun hi l3 => znn B x lo hi l3
theorem z18 {H : Hs} {n : Nat} {xs ys : List Dv} (e : getL H n = some xs) : getL (H.set n (.lst ys)) n = some ys:= by
  have h := (List.getElem?_eq_some_iff.mp (z0h e)).1
  unfold getL
  rw [List.getElem?_set_self h]
theorem z30 {H : Hs} {n j : Nat} {o : Ob} (h : n ≠ j) : getL (H.set n o) j = getL H j:= by
  unfold getL
  rw [List.getElem?_set_ne h]
theorem z20 {H : Hs} {n : Nat} {xs : List Dv} (e : getL H n = some xs) : n < H.length := (List.getElem?_eq_some_iff.mp (z0h e)).1
theorem z0n {H l : Hs} {n : Nat} {xs : List Dv} (e : getL H n = some xs) : getL (H ++ l) n = some xs:= by
  unfold getL
  rw [List.getElem?_append_left (z20 e),z0h e]
structure Fr (S : List Nat) (H H' : Hs) : Prop where
  le : H.length ≤ H'.length
  at_ : ∀ j,j < H.length→j ∉ S→H'[j]? = H[j]?
theorem Fr.refl {S : List Nat} {H : Hs} : Fr S H H := ⟨Nat.le_refl _,fun _ _ _ => rfl⟩
theorem Fr.trans {S T : List Nat} {H H1 H2 : Hs} (a : Fr S H H1) (b : Fr T H1 H2) (h : ∀ j ∈ T,j ∈ S ∨ H.length ≤ j) : Fr S H H2 :=
  ⟨Nat.le_trans a.le b.le,fun j hj hS => (b.at_ j (Nat.lt_of_lt_of_le hj a.le) fun z => (h j z).elim hS fun w => absurd (Nat.lt_of_lt_of_le hj w) (Nat.lt_irrefl _)).trans (a.at_ j hj hS)⟩
theorem Fr.app {S : List Nat} {H l : Hs} : Fr S H (H ++ l) := ⟨by simp,fun j hj _ => List.getElem?_append_left hj⟩
theorem Fr.set {H : Hs} {n : Nat} {o : Ob} : Fr [n] H (H.set n o) := ⟨by simp,fun j hj hS => List.getElem?_set_ne (by simpa using Ne.symm (by simpa using hS))⟩
theorem Fr.getL {S : List Nat} {H H' : Hs} {j : Nat} {xs : List Dv} (a : Fr S H H') (e : getL H j = some xs) (h : j ∉ S) : getL H' j = some xs:= by
  unfold L2.Mr.getL at e ⊢
  rw [a.at_ j (z20 e) h]; exact e
theorem Fr.mono {S T : List Nat} {H H' : Hs} (a : Fr S H H') (h : ∀ j ∈ S,j ∈ T) : Fr T H H' := ⟨a.le,fun j hj hT => a.at_ j hj fun z => hT (h j z)⟩
theorem z0f {m u : MS} {ρ ρ1 : Ev} {h h1 : Hs} (e : m ρ h = .nx ρ1 h1) : mSeq m u ρ h = u ρ1 h1 := by unfold mSeq; rw [e]
theorem z3u {mi : M Src} {st : Tgt} {b : MS} {ρ : Ev} {h h1 : Hs} {src : Src} (e : mi ρ h = .ok src h1) : mFor mi st b ρ h = forM src st b src.n 0 ρ h1 := by unfold mFor; rw [e]; rfl
theorem if_T {c : M Bool} {t u : MS} {ρ : Ev} {h h1 : Hs} (e : c ρ h = .ok true h1) : mIf c t u ρ h = t ρ h1 := by unfold mIf; rw [e]; rfl
theorem if_F {c : M Bool} {t u : MS} {ρ : Ev} {h h1 : Hs} (e : c ρ h = .ok false h1) : mIf c t u ρ h = u ρ h1 := by unfold mIf; rw [e]; rfl
theorem z1p {src : Src} {sg : Tgt} {b : MS} {f k : Nat} {ρ ρ1 ρ2 : Ev} {H H2 : Hs} {d : Dv} (hg : src.get k H = some d) (hs : sg d ρ = some ρ1) (hb : b ρ1 H = .nx ρ2 H2) : forM src sg b (f + 1) k ρ H = forM src sg b f (k + 1) ρ2 H2:= by
  simp [forM,hg,hs,hb]
theorem zc2 {src : Src} {sg : Tgt} {b : MS} (P : Nat→Ev→Hs→Prop)
    (step : ∀ k ρ H,k < src.n→P k ρ H→∃ d ρ1 ρ2 H2,src.get k H = some d∧sg d ρ = some ρ1∧b ρ1 H = .nx ρ2 H2∧P (k + 1) ρ2 H2)
    (fin : ∀ ρ H,P src.n ρ H→src.fin H = true) : ∀ (f k : Nat) (ρ : Ev) (H : Hs),f + k = src.n→P k ρ H→∃ ρ' H',forM src sg b f k ρ H = .nx ρ' H'∧P src.n ρ' H'
  | 0,k,ρ,H,h,p => by
    have hk : k = src.n := by omega
    subst hk
    exact ⟨ρ,H,by simp [forM,fin ρ H p],p⟩
  | f + 1,k,ρ,H,h,p => by
    obtain ⟨d,ρ1,ρ2,H2,e1,e2,e3,p2⟩ := step k ρ H (by omega) p
    rw [z1p e1 e2 e3]
    exact zc2 P step fin f (k + 1) ρ2 H2 (by omega) p2
theorem z21 {mi : M Src} {src : Src} {sg : Tgt} {b : MS} {ρ : Ev} {H H1 : Hs} (hi : mi ρ H = .ok src H1) (P : Nat→Ev→Hs→Prop)
    (step : ∀ k ρ H,k < src.n→P k ρ H→∃ d ρ1 ρ2 H2,src.get k H = some d∧sg d ρ = some ρ1∧b ρ1 H = .nx ρ2 H2∧P (k + 1) ρ2 H2)
    (fin : ∀ ρ H,P src.n ρ H→src.fin H = true) (p : P 0 ρ H1) : ∃ ρ' H',mFor mi sg b ρ H = .nx ρ' H'∧P src.n ρ' H':= by
  rw [z3u hi]
  exact zc2 P step fin src.n 0 ρ H1 (by omega) p
theorem z46 {src : Src} {sg : Tgt} {t : M Bool} {m : MC} (P : Nat→Ev→Hs→List Dv→Prop)
    (step : ∀ k ρ H acc,k < src.n→P k ρ H acc→∃ d ρ1,src.get k H = some d∧sg d ρ = some ρ1 ∧
      ((∃ H2,t ρ1 H = .ok false H2∧P (k + 1) ρ1 H2 acc) ∨ ∃ H2 ρ3 acc3 H3,t ρ1 H = .ok true H2∧m ρ1 H2 acc = .ok (ρ3,acc3) H3∧P (k + 1) ρ3 H3 acc3))
    (fin : ∀ ρ H acc,P src.n ρ H acc→src.fin H = true) : ∀ (f k : Nat) (ρ : Ev) (H : Hs) (acc : List Dv),f + k = src.n→P k ρ H acc→∃ ρ' H' acc',z1v src sg t m f k ρ H acc = .ok (ρ',acc') H'∧P src.n ρ' H' acc'
  | 0,k,ρ,H,acc,h,p => by
    have hk : k = src.n := by omega
    subst hk
    exact ⟨ρ,H,acc,by simp [z1v,fin ρ H acc p],p⟩
  | f + 1,k,ρ,H,acc,h,p => by
    obtain ⟨d,ρ1,e1,e2,e3⟩ := step k ρ H acc (by omega) p
    rcases e3 with ⟨H2,e3,p2⟩ | ⟨H2,ρ3,acc3,H3,e3,e4,p2⟩
    · obtain ⟨ρ',H',acc',e5,p5⟩ := z46 P step fin f (k + 1) ρ1 H2 acc (by omega) p2
      exact ⟨ρ',H',acc',by simp [z1v,e1,e2,e3,e5],p5⟩
    · obtain ⟨ρ',H',acc',e5,p5⟩ := z46 P step fin f (k + 1) ρ3 H3 acc3 (by omega) p2
      exact ⟨ρ',H',acc',by simp [z1v,e1,e2,e3,e4,e5],p5⟩
theorem z3a (k : Nat) (H : Hs) : ∀ ns : List Int,optL (pur (k + 1) H) (ns.map Dv.int) = some (ns.map Dt.int)
  | [] => rfl
  | n :: ns => by
    rw [List.map_cons,optL,z3a k H ns]; rfl
def prD (p : Int × Int) : Dv := .tup [.int p.1,.int p.2]
def prT (p : Int × Int) : Dt := .tup [.int p.1,.int p.2]
theorem zfy (k : Nat) (H : Hs) (p : Int × Int) : pur (k + 2) H (prD p) = some (prT p) := rfl
theorem zc3 (k : Nat) (H : Hs) : ∀ ps : List (Int × Int),optL (pur (k + 2) H) (ps.map prD) = some (ps.map prT)
  | [] => rfl
  | p :: ps => by
    rw [List.map_cons,optL,zc3 k H ps,zfy]; rfl
theorem zm5 (p q : Int × Int) : deq (prT p) (prT q) = decide (p = q):= by
  obtain ⟨a,b⟩ := p
  obtain ⟨c,d⟩ := q
  simp only [prT,deq,deqL,Bool.and_true]
  rw [Bool.eq_iff_iff]
  simp
theorem z5p (neg : Bool) (H : Hs) (p : Int × Int) (ps : List (Int × Int)) : in0 neg (prD p) (.tup (ps.map prD)) H = .ok (.bl (if neg then !decide (p ∈ ps) else decide (p ∈ ps))) H:= by
  have e : (ps.map prT).any (fun t => deq t (prT p)) = decide (p ∈ ps):= by
    rw [Bool.eq_iff_iff]
    simp only [List.any_map,List.any_eq_true,Function.comp,zm5,decide_eq_true_eq]
    constructor
    · rintro ⟨q,hq,rfl⟩; exact hq
    · intro h; exact ⟨p,h,rfl⟩
  have h1 : optL (pur z16 H) (ps.map prD) = some (ps.map prT) := zc3 28 H ps
  have h2 : pur z16 H (prD p) = some (prT p) := zfy 28 H p
  show inD [] neg (prD p) (.tup (ps.map prD)) H = _
  simp only [inD,seqD,h1,h2,e]
theorem zc4 (neg : Bool) (H : Hs) (x : Int) (ns : List Int) : in0 neg (.int x) (.tup (ns.map Dv.int)) H = .ok (.bl (if neg then !decide (x ∈ ns) else decide (x ∈ ns))) H:= by
  have e : (ns.map Dt.int).any (fun t => deq t (.int x)) = decide (x ∈ ns):= by
    rw [Bool.eq_iff_iff]
    simp only [List.any_map,List.any_eq_true,Function.comp,deq,decide_eq_true_eq,beq_iff_eq]
    constructor
    · rintro ⟨q,hq,rfl⟩; exact hq
    · intro h; exact ⟨x,h,rfl⟩
  have h1 : optL (pur z16 H) (ns.map Dv.int) = some (ns.map Dt.int) := z3a 29 H ns
  have h2 : pur z16 H (.int x) = some (.int x) := rfl
  show inD [] neg (.int x) (.tup (ns.map Dv.int)) H = _
  simp only [inD,seqD,h1,h2,e]
section
variable {X : Cx} {G : Cfg} {E : XK} {elt tg iter tg' iter' : Expr} {ifs ifs' : List Expr} {sc : Scope} {ps px pos : Pos} {N : List Str} {cap : List (Option Nat)} {mi mi' : M Src} {st st' : Tgt} {test test' : M Bool} {me : M Dv} {i : Nat} {x : Str}
theorem z4x (hN : X.N.Nodup) (hi' : X.N[i]? = some x) (hc : X.calm = true) (C : CapOk X sc N cap) (hi : SndI X G E tg iter mi) (hg : ∀ s H ex,SndG (blk X sc N s H ex) G tg st) (htt : ∀ s H ex,zd8 (blk X sc N s H ex) G ifs test) (hel : ∀ s H ex,Snd (blk X sc N s H ex) G E0 elt me)
    (hx : X.env.scope.names.lookup x = some .local := by rfl) (hsw : swapsWith (.ListComp elt [⟨tg,iter,ifs,0⟩] sc ps) (some (.Name x px)) pos.line X.env = pure true := by rfl)
    (hs : ∀ x,foldedSetIterable iter X.env x = pure x := by intro _; rfl) : SndS X G E (.Assign [.Name x px] (.ListComp elt [⟨tg,iter,ifs,0⟩] sc ps) pos) (mAsg (mAl (z27 mi cap st test (z1t me))) (z06 i)):= fun hK =>
  PS.imp (z9m hsw hN hi' hx hc C rfl (fun it D env => zfa elt tg iter ifs sc ps (.ref it) D env) (hi hK) (fun s H ex => hg s H ex hK) (fun s H ex => htt s H ex hK) (fun s H ex D => PCl.imp (z8g (hel s H ex hK)) fun _ _ _ _ t => zav t) hs) fun D σ H ⟨μ,ρ,h,rs,s,o⟩ =>
    z8k (zfi (z1s rs s o fun μ1 d h1 v H1 x1 rs1 s1 r1 o1 => o1 μ1 H1 _ Ext.refl s1 (rs1.set i r1)))
end
end L2.Mr
namespace L2.Mr.K71
open PySem PySem.Spec PyProof.Rows L2 L2.Mr
def top (i : Nat) : Stmt := PySem.Challenge.pw_nearorders_k71_numbers_by_rule.main.body.getD i (.Pass ⟨0,0,0,0⟩)
abbrev s_qu : Stmt := top 17
abbrev s_qk : Stmt := top 18
abbrev s_ql : Stmt := top 21
abbrev s_qj : Stmt := top 22
abbrev s_qg : Stmt := top 23
abbrev s_qq : Stmt := top 25
abbrev s_qm : Stmt := top 26
abbrev s_qh : Stmt := top 27
abbrev s_qn : Stmt := top 28
abbrev s_qo : Stmt := top 29
abbrev s_qr : Stmt := top 30
abbrev s_qe : Stmt := top 31
abbrev s_qf : Stmt := top 32
abbrev s_qc : Stmt := top 33
abbrev s_qb : Stmt := top 34
abbrev s_qd : Stmt := top 35
abbrev s_qi : Stmt := top 36
abbrev s_qp : Stmt := top 37
abbrev s_qs : Stmt := top 38
abbrev s_qt : Stmt := top 39
abbrev s_qa : Stmt := top 40
abbrev s_qv : Stmt := top 41
structure Ad where
  f_qu : Addr
  fd_qu : FuncData
  f_qk : Addr
  fd_qk : FuncData
  f_ql : Addr
  fd_ql : FuncData
  f_qj : Addr
  fd_qj : FuncData
  f_qg : Addr
  fd_qg : FuncData
  f_qq : Addr
  fd_qq : FuncData
  f_qm : Addr
  fd_qm : FuncData
  f_qh : Addr
  fd_qh : FuncData
  f_qn : Addr
  fd_qn : FuncData
  f_qo : Addr
  fd_qo : FuncData
  f_qr : Addr
  fd_qr : FuncData
  f_qe : Addr
  fd_qe : FuncData
  f_qf : Addr
  fd_qf : FuncData
  f_qc : Addr
  fd_qc : FuncData
  f_qb : Addr
  fd_qb : FuncData
  f_qd : Addr
  fd_qd : FuncData
  f_qi : Addr
  fd_qi : FuncData
  f_qp : Addr
  fd_qp : FuncData
  f_qs : Addr
  fd_qs : FuncData
  f_qt : Addr
  fd_qt : FuncData
  f_qa : Addr
  fd_qa : FuncData
  f_qv : Addr
  fd_qv : FuncData
  c_NoOrder : Addr
  c_NoNumber : Addr
  c_NoPairs : Addr
  c_Round : Addr
  c_NoThing : Addr
  c_NoRow : Addr
  c_TooMany : Addr
  c_TooFew : Addr
  c_NoText : Addr
  c_NoLine : Addr
  c_NoDeed : Addr
  c_NoSeating : Addr
  c_NoRing : Addr
  c_NoSizes : Addr
  t_MOST_SIZES : Tok
  NE : Addr
  cc : Addr
  P : Addr
def tblV : List (Nat × Bool) := [(13,true)]
def tbl0 : List (Nat × Bool) := [(13,false)]
def tbl1 : List (Nat × Bool) := [(13,false)]
def tbl2 : List (Nat × Bool) := [(13,false)]
def tbl3 : List (Nat × Bool) := [(13,false)]
def tbl4 : List (Nat × Bool) := [(13,false)]
def tbl5 : List (Nat × Bool) := [(13,false)]
def tbl6 : List (Nat × Bool) := [(13,false)]
def tbl7 : List (Nat × Bool) := [(13,false)]
def tbl8 : List (Nat × Bool) := [(13,false)]
def tbl9 : List (Nat × Bool) := [(13,false)]
def tbl10 : List (Nat × Bool) := [(13,false)]
def tbl11 : List (Nat × Bool) := [(13,false)]
def tbl12 : List (Nat × Bool) := [(13,false)]
def tbl13 : List (Nat × Bool) := [(13,true)]
structure Tx (K : PySem.W.Frag) (mg : Str→Option Value) (G : Cfg) (A : Ad) : Prop where
  hK : K = G.K
  F_qu : Fun K "is_whole" "is_whole" s_qu A.f_qu A.fd_qu
  B_qu : Binds K A.fd_qu ["thing"] []
  m_qu : mg "is_whole" = some (.ref A.f_qu)
  F_qk : Fun K "rounded_up" "rounded_up" s_qk A.f_qk A.fd_qk
  B_qk : Binds K A.fd_qk ["number","by"] []
  m_qk : mg "rounded_up" = some (.ref A.f_qk)
  F_ql : Fun K "need_sizes" "need_sizes" s_ql A.f_ql A.fd_ql
  B_ql : Binds K A.fd_ql ["sizes"] []
  m_ql : mg "need_sizes" = some (.ref A.f_ql)
  F_qj : Fun K "levels_span" "levels_span" s_qj A.f_qj A.fd_qj
  B_qj : Binds K A.fd_qj ["sizes"] []
  m_qj : mg "levels_span" = some (.ref A.f_qj)
  F_qg : Fun K "chains_reach" "chains_reach" s_qg A.f_qg A.fd_qg
  B_qg : Binds K A.fd_qg ["sizes"] []
  m_qg : mg "chains_reach" = some (.ref A.f_qg)
  F_qq : Fun K "_law_take" "_law_take" s_qq A.f_qq A.fd_qq
  B_qq : Binds K A.fd_qq ["_law_state_here","_law_many"] []
  m_qq : mg "_law_take" = some (.ref A.f_qq)
  F_qm : Fun K "_law_loose" "_law_loose" s_qm A.f_qm A.fd_qm
  B_qm : Binds K A.fd_qm ["_law_order"] []
  m_qm : mg "_law_loose" = some (.ref A.f_qm)
  F_qh : Fun K "_law_cell_at" "_law_cell_at" s_qh A.f_qh A.fd_qh
  B_qh : Binds K A.fd_qh ["_law_script","_law_k"] []
  m_qh : mg "_law_cell_at" = some (.ref A.f_qh)
  F_qn : Fun K "_law_state" "_law_state" s_qn A.f_qn A.fd_qn
  B_qn : Binds K A.fd_qn ["_law_script","_law_k"] []
  m_qn : mg "_law_state" = some (.ref A.f_qn)
  F_qo : Fun K "_law_sizes" "_law_sizes" s_qo A.f_qo A.fd_qo
  B_qo : Binds K A.fd_qo ["_law_state_here"] []
  m_qo : mg "_law_sizes" = some (.ref A.f_qo)
  F_qr : Fun K "_law_same" "_law_same" s_qr A.f_qr A.fd_qr
  B_qr : Binds K A.fd_qr ["_law_found","_law_due"] []
  m_qr : mg "_law_same" = some (.ref A.f_qr)
  F_qe : Fun K "_law_numbered" "_law_numbered" s_qe A.f_qe A.fd_qe
  B_qe : Binds K A.fd_qe ["_law_sizes_here"] []
  m_qe : mg "_law_numbered" = some (.ref A.f_qe)
  F_qf : Fun K "_law_of_sizes" "_law_of_sizes" s_qf A.f_qf A.fd_qf
  B_qf : Binds K A.fd_qf ["_law_sizes_here","_law_chains"] []
  m_qf : mg "_law_of_sizes" = some (.ref A.f_qf)
  F_qc : Fun K "_law_least_with" "_law_least_with" s_qc A.f_qc A.fd_qc
  B_qc : Binds K A.fd_qc ["_law_order","_law_reach"] []
  m_qc : mg "_law_least_with" = some (.ref A.f_qc)
  F_qb : Fun K "_law_least_reach" "_law_least_reach" s_qb A.f_qb A.fd_qb
  B_qb : Binds K A.fd_qb ["_law_order"] []
  m_qb : mg "_law_least_reach" = some (.ref A.f_qb)
  F_qd : Fun K "_law_bad_sizes" "_law_bad_sizes" s_qd A.f_qd A.fd_qd
  B_qd : Binds K A.fd_qd ["_law_state_here"] []
  m_qd : mg "_law_bad_sizes" = some (.ref A.f_qd)
  F_qi : Fun K "_law_refused" "_law_refused" s_qi A.f_qi A.fd_qi
  B_qi : Binds K A.fd_qi ["_law_call"] []
  m_qi : mg "_law_refused" = some (.ref A.f_qi)
  F_qp : Fun K "_law_great" "_law_great" s_qp A.f_qp A.fd_qp
  B_qp : Binds K A.fd_qp ["_law_state_here"] []
  m_qp : mg "_law_great" = some (.ref A.f_qp)
  F_qs : Fun K "_law_rows" "_law_rows" s_qs A.f_qs A.fd_qs
  B_qs : Binds K A.fd_qs ["_law_order"] []
  m_qs : mg "_law_rows" = some (.ref A.f_qs)
  F_qt : Fun K "_law_span" "_law_span" s_qt A.f_qt A.fd_qt
  B_qt : Binds K A.fd_qt ["_law_order"] []
  m_qt : mg "_law_span" = some (.ref A.f_qt)
  F_qa : Fun K "_law_reach_by_rule" "_law_reach_by_rule" s_qa A.f_qa A.fd_qa
  B_qa : Binds K A.fd_qa ["_law_sizes_here"] []
  m_qa : mg "_law_reach_by_rule" = some (.ref A.f_qa)
  F_qv : Fun K "law" "law" s_qv A.f_qv A.fd_qv
  B_qv : Binds K A.fd_qv ["_law_script"] []
  m_qv : mg "law" = some (.ref A.f_qv)
  z_ValueError : mg "ValueError" = none
  z_abs : mg "abs" = none
  z_all : mg "all" = none
  z_bool : mg "bool" = none
  z_int : mg "int" = none
  z_isinstance : mg "isinstance" = none
  z_len : mg "len" = none
  z_list : mg "list" = none
  z_max : mg "max" = none
  z_min : mg "min" = none
  z_range : mg "range" = none
  z_sorted : mg "sorted" = none
  z_sum : mg "sum" = none
  z_tuple : mg "tuple" = none
  z_zip : mg "zip" = none
  c_MOST_SIZES : mg "MOST_SIZES" = some (.int 6 A.t_MOST_SIZES)
  n_NoOrder : mg "NoOrder" = some (.ref A.c_NoOrder)
  n_NoNumber : mg "NoNumber" = some (.ref A.c_NoNumber)
  n_NoPairs : mg "NoPairs" = some (.ref A.c_NoPairs)
  n_Round : mg "Round" = some (.ref A.c_Round)
  n_NoThing : mg "NoThing" = some (.ref A.c_NoThing)
  n_NoRow : mg "NoRow" = some (.ref A.c_NoRow)
  n_TooMany : mg "TooMany" = some (.ref A.c_TooMany)
  n_TooFew : mg "TooFew" = some (.ref A.c_TooFew)
  n_NoText : mg "NoText" = some (.ref A.c_NoText)
  n_NoLine : mg "NoLine" = some (.ref A.c_NoLine)
  n_NoDeed : mg "NoDeed" = some (.ref A.c_NoDeed)
  n_NoSeating : mg "NoSeating" = some (.ref A.c_NoSeating)
  n_NoRing : mg "NoRing" = some (.ref A.c_NoRing)
  n_NoSizes : mg "NoSizes" = some (.ref A.c_NoSizes)
  ns_NoSizes : PySem.W.nsIn K mainGlobals "NoSizes" = some (some (.ref A.c_NoSizes))
  x_NoSizes : PySem.W.excIn K A.c_NoSizes bmV "ValueError.__new__" = true
  ce_NoSizes : A.c_NoSizes = G.cl 13
  ktV : ∀ c b,tblV.lookup c = some b→PySem.W.kitOne G.K (.ref (G.cl c)) (.type "ValueError") = some b∧ExK G.K (G.cl c)
  kt0 : ∀ c b,tbl0.lookup c = some b→PySem.W.kitOne G.K (.ref (G.cl c)) (.ref A.c_NoOrder) = some b∧ExK G.K (G.cl c)
  kt1 : ∀ c b,tbl1.lookup c = some b→PySem.W.kitOne G.K (.ref (G.cl c)) (.ref A.c_NoNumber) = some b∧ExK G.K (G.cl c)
  kt2 : ∀ c b,tbl2.lookup c = some b→PySem.W.kitOne G.K (.ref (G.cl c)) (.ref A.c_NoPairs) = some b∧ExK G.K (G.cl c)
  kt3 : ∀ c b,tbl3.lookup c = some b→PySem.W.kitOne G.K (.ref (G.cl c)) (.ref A.c_Round) = some b∧ExK G.K (G.cl c)
  kt4 : ∀ c b,tbl4.lookup c = some b→PySem.W.kitOne G.K (.ref (G.cl c)) (.ref A.c_NoThing) = some b∧ExK G.K (G.cl c)
  kt5 : ∀ c b,tbl5.lookup c = some b→PySem.W.kitOne G.K (.ref (G.cl c)) (.ref A.c_NoRow) = some b∧ExK G.K (G.cl c)
  kt6 : ∀ c b,tbl6.lookup c = some b→PySem.W.kitOne G.K (.ref (G.cl c)) (.ref A.c_TooMany) = some b∧ExK G.K (G.cl c)
  kt7 : ∀ c b,tbl7.lookup c = some b→PySem.W.kitOne G.K (.ref (G.cl c)) (.ref A.c_TooFew) = some b∧ExK G.K (G.cl c)
  kt8 : ∀ c b,tbl8.lookup c = some b→PySem.W.kitOne G.K (.ref (G.cl c)) (.ref A.c_NoText) = some b∧ExK G.K (G.cl c)
  kt9 : ∀ c b,tbl9.lookup c = some b→PySem.W.kitOne G.K (.ref (G.cl c)) (.ref A.c_NoLine) = some b∧ExK G.K (G.cl c)
  kt10 : ∀ c b,tbl10.lookup c = some b→PySem.W.kitOne G.K (.ref (G.cl c)) (.ref A.c_NoDeed) = some b∧ExK G.K (G.cl c)
  kt11 : ∀ c b,tbl11.lookup c = some b→PySem.W.kitOne G.K (.ref (G.cl c)) (.ref A.c_NoSeating) = some b∧ExK G.K (G.cl c)
  kt12 : ∀ c b,tbl12.lookup c = some b→PySem.W.kitOne G.K (.ref (G.cl c)) (.ref A.c_NoRing) = some b∧ExK G.K (G.cl c)
  kt13 : ∀ c b,tbl13.lookup c = some b→PySem.W.kitOne G.K (.ref (G.cl c)) (.ref A.c_NoSizes) = some b∧ExK G.K (G.cl c)
  n_NearError : mg "NearError" = some (.ref A.NE)
  e1 : PySem.W.subIn K (.ref A.NE) (.type "BaseException") = some true
  e2 : PySem.W.subIn K (.type "type") (.type "tuple") = some false
  e3 : PySem.W.kitCls K (.ref A.NE) (.ref A.NE) = some true
  e4 : ∀ c,c < 14→PySem.W.subIn K (.ref (G.cl c)) (.ref A.NE) = some true
  lq : (("law" : Str) ++ ".<locals>.") ++ "<lambda>" = G.lq
  tab : G.tab = some A.P
  code : A.fd_qv.code = .ref A.cc
theorem nd0 : (["thing"] : List Str).Nodup := by decide +kernel
theorem nd1 : (["number","by"] : List Str).Nodup := by decide +kernel
theorem nd2 : (["sizes"] : List Str).Nodup := by decide +kernel
theorem nd3 : (["size"] : List Str).Nodup := by decide +kernel
theorem nd4 : (["_law_state_here","_law_many","_law_found","_law_stirred"] : List Str).Nodup := by decide +kernel
theorem nd5 : (["_law_order","_law_found","_law_a","_law_b"] : List Str).Nodup := by decide +kernel
theorem nd6 : (["_law_script","_law_k"] : List Str).Nodup := by decide +kernel
theorem nd7 : (["_law_script","_law_k","_law_cell"] : List Str).Nodup := by decide +kernel
theorem nd8 : (["_law_state_here","_law_found","_law_turn","_law_left","_law_kept","_law_size"] : List Str).Nodup := by decide +kernel
theorem nd9 : (["_law_found","_law_due"] : List Str).Nodup := by decide +kernel
theorem nd10 : (["_law_one","_law_other"] : List Str).Nodup := by decide +kernel
theorem nd11 : (["_law_sizes_here","_law_found","_law_at"] : List Str).Nodup := by decide +kernel
theorem nd12 : (["_law_sizes_here","_law_chains","_law_kind","_law_pairs","_law_a","_law_b"] : List Str).Nodup := by decide +kernel
theorem nd13 : (["_law_order","_law_reach","_law_found","_law_turn","_law_up","_law_a","_law_b"] : List Str).Nodup := by decide +kernel
theorem nd14 : (["_law_order","_law_reach"] : List Str).Nodup := by decide +kernel
theorem nd15 : (["_law_state_here","_law_some"] : List Str).Nodup := by decide +kernel
theorem nd16 : (["_law_call","_law_error","e","_law_marks"] : List Str).Nodup := by decide +kernel
theorem nd17 : (["_law_k","_law_marks"] : List Str).Nodup := by decide +kernel
theorem nd18 : (["_law_state_here","_law_found","_law_turn","_law_size","_law_part"] : List Str).Nodup := by decide +kernel
theorem nd19 : (["_law_order","_law_found","_law_turn","_law_longer","_law_row","_law_thing","_law_ahead"] : List Str).Nodup := by decide +kernel
theorem nd20 : (["_law_a","_law_b","_law_thing","_law_row"] : List Str).Nodup := by decide +kernel
theorem nd21 : (["_law_order","_law_pairs","_law_least","_law_row","_law_far"] : List Str).Nodup := by decide +kernel
theorem nd22 : (["_law_a","_law_b","_law_row"] : List Str).Nodup := by decide +kernel
theorem nd23 : (["_law_sizes_here","_law_two"] : List Str).Nodup := by decide +kernel
theorem nd24 : (["_law_script","_law_k","_law_state_here","_law_sizes_here","_law_handed","_law_bad"] : List Str).Nodup := by decide +kernel
section
variable {P : Program} {w : World} {K : PySem.W.Frag} {mg : Str→Option Value} {base : Heap} {G : Cfg} {A : Ad}
theorem zno : FnScope ["thing"] ["thing"] (z03 s_qu) := ⟨rfl,rfl,rfl,by decide +kernel,rfl,by decide +kernel,by decide +kernel⟩
def zic : MS := (mRet (z62 (m1 (isiD z8x) (mVar 0)) (m1 notD (m1 (isiD z2z) (mVar 0)))))
def F_qu : List Dv→Hs→Rs Dv := z0x 1 1 (zic)
theorem znp (T : Tx K mg G A) : FnOk P w K mg base (CXm P w base) 1 A.f_qu A.fd_qu ["thing"] (spOf G F_qu) :=
  z1d (k := 0) (N := ["thing"]) (mb := zic) T.F_qu zno T.hK fun cdv Ar outer s H E₀ E g =>
    (z0d (z0q (z7r (zho rfl T.z_isinstance rfl T.z_int (z01 0)) (z7q (zh2 (z68 rfl T.z_isinstance rfl T.z_bool (z01 0)))))))
theorem znq : FnScope ["number","by"] ["number","by"] (z03 s_qk) := ⟨rfl,rfl,rfl,by decide +kernel,rfl,by decide +kernel,by decide +kernel⟩
def zid : MS := (mRet (m1 negD (m2 z4w (m1 negD (mVar 0)) (mVar 1))))
def F_qk : List Dv→Hs→Rs Dv := z0x 2 2 (zid)
theorem znr (T : Tx K mg G A) : FnOk P w K mg base (CXm P w base) 1 A.f_qk A.fd_qk ["number","by"] (spOf G F_qk) :=
  z1d (k := 0) (N := ["number","by"]) (mb := zid) T.F_qk znq T.hK fun cdv Ar outer s H E₀ E g =>
    (z0d (z0q (zbi (z6e (zbi (z01 0)) (z01 1)))))
theorem zns : FnScope ["sizes"] ["sizes"] (z03 s_ql) := ⟨rfl,rfl,rfl,by decide +kernel,rfl,by decide +kernel,by decide +kernel⟩
def zie : MS := (mSeq (mIf (mOr (mNot (mTru (m1 (isiD z5m) (mVar 0)))) (mNot (mB (z5e leD leD (mC (.int 1)) (z05 (f1 len0) (z00 (mVar 0) mNil)) (mC (.int 6)))))) (z8p 13 (z00 (mC (.str "sizes are a list of one to six whole numbers")) mNil)) z0p) (mIf (mNot (mTru (mL allF (z27 (m1s lstD (mVar 0)) [none] (z06 0) z4l (z1t (z62 (z05 F_qu (z00 (mVar 0) mNil)) (m2 geD (mVar 0) (mC (.int 1))))))))) (z8p 13 (z00 (mC (.str "each size is a whole number from 1 on")) mNil)) z0p))
def F_ql : List Dv→Hs→Rs Dv := z0x 1 1 (zie)
theorem zm6 (T : Tx K mg G A) : FnOk P w K mg base (CXm P w base) 2 A.f_ql A.fd_ql ["sizes"] (spOf G F_ql) :=
  z1d (k := 1) (N := ["sizes"]) (mb := zie) T.F_ql zns T.hK fun cdv Ar outer s H E₀ E g =>
    (z0a (z1o (SndW.t (zao (z4g (z2s (z83 rfl T.z_isinstance rfl T.z_list (z01 0)))) (z6w (z4g (zle z04 (z38 rfl T.z_len (z02 (z01 0) z08)) (zbe rfl T.c_MOST_SIZES)))))) (z0d (z8q g rfl T.n_NoSizes T.ns_NoSizes T.x_NoSizes T.ce_NoSizes (z02 z61 z08))) z15) (z0d (z1o (z4g (z2s (zb6 g.calm rfl T.z_all (z65 g.calm (zbg (N := ["size"]) (cap := [none]) (os := (z03 s_ql)) (oN := ["sizes"]) rfl rfl rfl (by decide +kernel) rfl (by decide +kernel) (by decide +kernel) (by decide +kernel)) (z2x (z01 0)) (fun s H ex => (z0r (i := 0) nd3 rfl (by first | exact Or.inl rfl | exact Or.inr rfl))) (fun s H ex => zaw) (fun s H ex => (z7r (z0e (z28 g) (znp T) (by decide) rfl T.m_qu T.F_qu.kp T.B_qu (z02 (z01 0) z08)) (z7q (x_ge (z01 0) z04)))))))) (z0d (z8q g rfl T.n_NoSizes T.ns_NoSizes T.x_NoSizes T.ce_NoSizes (z02 z61 z08))) z15)))
theorem znt : FnScope ["sizes"] ["sizes"] (z03 s_qj) := ⟨rfl,rfl,rfl,by decide +kernel,rfl,by decide +kernel,by decide +kernel⟩
def zif : MS := (mSeq (z1m (z05 F_ql (z00 (mVar 0) mNil))) (mRet (m2 subD (z05 (f1 (l1D maxI)) (z00 (mVar 0) mNil)) (mC (.int 1)))))
def F_qj : List Dv→Hs→Rs Dv := z0x 1 1 (zif)
theorem zig (T : Tx K mg G A) : FnOk P w K mg base (CXm P w base) 3 A.f_qj A.fd_qj ["sizes"] (spOf G F_qj) :=
  z1d (k := 2) (N := ["sizes"]) (mb := zif) T.F_qj znt T.hK fun cdv Ar outer s H E₀ E g =>
    (z0a (z2h (z0e g (zm6 T) (by decide) rfl T.m_ql T.F_ql.kp T.B_ql (z02 (z01 0) z08))) (z0d (z0q (z57 (z93 g.calm rfl T.z_max (z02 (z01 0) z08)) z04))))
theorem znu : FnScope ["sizes"] ["sizes"] (z03 s_qg) := ⟨rfl,rfl,rfl,by decide +kernel,rfl,by decide +kernel,by decide +kernel⟩
def ze6 : MS := (mSeq (z1m (z05 F_ql (z00 (mVar 0) mNil))) (mSeq (mIf (mB (m2 eqD (z05 (f1 len0) (z00 (mVar 0) mNil)) (mC (.int 1)))) (mRet (mC (.int 0))) z0p) (mRet (z05 F_qk (z00 (m2 subD (z05 (f1 sumD) (z00 (mSl (z05 (f1 z6d) (z00 (mVar 0) mNil)) (mBd (m1 negD (mC (.int 2)))) mNoB) mNil)) (mC (.int 2))) (z00 (mC (.int 2)) mNil))))))
def F_qg : List Dv→Hs→Rs Dv := z0x 1 1 (ze6)
theorem zih (T : Tx K mg G A) : FnOk P w K mg base (CXm P w base) 3 A.f_qg A.fd_qg ["sizes"] (spOf G F_qg) :=
  z1d (k := 2) (N := ["sizes"]) (mb := ze6) T.F_qg znu T.hK fun cdv Ar outer s H E₀ E g =>
    (z0a (z2h (z0e g (zm6 T) (by decide) rfl T.m_ql T.F_ql.kp T.B_ql (z02 (z01 0) z08))) (z0a (z1o (t_eq g (z38 rfl T.z_len (z02 (z01 0) z08)) z04) (z0d (z0q z04)) z15) (z0d (z0q (z0e g (znr T) (by decide) rfl T.m_qk T.F_qk.kp T.B_qk (z02 (z57 (zm1 g.calm rfl T.z_sum (z02 (z73 (z94 rfl T.z_sorted (z02 (z01 0) z08)) (zbd (zbi z04)) zbc) z08)) z04) (z02 z04 z08)))))))
theorem znv : FnScope ["_law_state_here","_law_many","_law_found","_law_stirred"] ["_law_state_here","_law_many"] (z03 s_qq) := ⟨rfl,rfl,rfl,by decide +kernel,rfl,by decide +kernel,by decide +kernel⟩
def ze7 : MS := (mSeq (mIf (mTru (m2 ix0 (mVar 0) (mC (.int 1)))) (mSeq (mAsg (m2 modD (m2 ix0 (mVar 0) (mC (.int 0))) (mVar 1)) (z06 2)) (mSeq (z24 (mVar 0) (mC (.int 0)) (m2 z4w (m2 ix0 (mVar 0) (mC (.int 0))) (mVar 1))) (mRet (mVar 2)))) z0p) (mSeq (z24 (mVar 0) (mC (.int 0)) (m2 modD (m2 addE (m2 mulD (m2 ix0 (mVar 0) (mC (.int 0))) (mC (.int 48271))) (mC (.int 29))) (mC (.int 2147483647)))) (mSeq (mAsg (m2 modD (m2 addE (m2 addE (m2 mulD (m2 ix0 (mVar 0) (mC (.int 0))) (m2 ix0 (mVar 0) (mC (.int 0)))) (m2 mulD (mC (.int 39373)) (m2 ix0 (mVar 0) (mC (.int 0))))) (mC (.int 7))) (mC (.int 2147483629))) (z06 3)) (mSeq (mAsg (m2 modD (m2 addE (m2 mulD (mVar 3) (mVar 3)) (m2 mulD (mC (.int 16807)) (mVar 3))) (mC (.int 2147483587))) (z06 3)) (mRet (m2 modD (m2 z4w (mVar 3) (mC (.int 8))) (mVar 1)))))))
def F_qq : List Dv→Hs→Rs Dv := z0x 2 4 (ze7)
theorem z6g (T : Tx K mg G A) : FnOk P w K mg base (CXm P w base) 1 A.f_qq A.fd_qq ["_law_state_here","_law_many"] (spOf G F_qq) :=
  z1d (k := 0) (N := ["_law_state_here","_law_many","_law_found","_law_stirred"]) (mb := ze7) T.F_qq znv T.hK fun cdv Ar outer s H E₀ E g =>
    (z0a (z1o (z2s (z0z (z01 0) z04)) (z0a (z0t (i := 2) nd4 rfl (by first | exact Or.inl rfl | exact Or.inr rfl) (z74 (z0z (z01 0) z04) (z01 1))) (z0a (z36 (z01 0) z04 (z6e (z0z (z01 0) z04) (z01 1))) (z0d (z0q (z01 2))))) z15) (z0a (z36 (z01 0) z04 (z74 (z17 (z82 (z0z (z01 0) z04) z04) z04) z04)) (z0a (z0t (i := 3) nd4 rfl (by first | exact Or.inl rfl | exact Or.inr rfl) (z74 (z17 (z17 (z82 (z0z (z01 0) z04) (z0z (z01 0) z04)) (z82 z04 (z0z (z01 0) z04))) z04) z04)) (z0a (z0t (i := 3) nd4 rfl (by first | exact Or.inl rfl | exact Or.inr rfl) (z74 (z17 (z82 (z01 3) (z01 3)) (z82 z04 (z01 3))) z04)) (z0d (z0q (z74 (z6e (z01 3) z04) (z01 1))))))))
theorem znw : FnScope ["_law_order","_law_found","_law_a","_law_b"] ["_law_order"] (z03 s_qm) := ⟨rfl,rfl,rfl,by decide +kernel,rfl,by decide +kernel,by decide +kernel⟩
def ze8 : MS := (mSeq (mAsg (mLst mNil) (z06 1)) (mSeq (mFor (mas z0w (z00 (m2 ix0 (mVar 0) (mC (.int 0))) mNil)) (z06 2) (mFor (mas z64 (z00 (m2 addE (mVar 2) (mC (.int 1))) (z00 (m2 ix0 (mVar 0) (mC (.int 0))) mNil))) (z06 3) (mIf (mAnd (mB (m2 (in0 true) (mTup (z00 (mVar 2) (z00 (mVar 3) mNil))) (m2 ix0 (mVar 0) (mC (.int 1))))) (mB (m2 (in0 true) (mTup (z00 (mVar 3) (z00 (mVar 2) mNil))) (m2 ix0 (mVar 0) (mC (.int 1)))))) (z1m (mApp (mVar 1) (mTup (z00 (mVar 2) (z00 (mVar 3) mNil))))) z0p))) (mRet (mVar 1))))
def F_qm : List Dv→Hs→Rs Dv := z0x 1 4 (ze8)
theorem zm7 (T : Tx K mg G A) : FnOk P w K mg base (CXm P w base) 1 A.f_qm A.fd_qm ["_law_order"] (spOf G F_qm) :=
  z1d (k := 0) (N := ["_law_order","_law_found","_law_a","_law_b"]) (mb := ze8) T.F_qm znw T.hK fun cdv Ar outer s H E₀ E g =>
    (z0a (z0t (i := 1) nd5 rfl (by first | exact Or.inl rfl | exact Or.inr rfl) (z0l z08)) (z0a (z1h g.own g.calm (z11 rfl T.z_range (z02 (z0z (z01 0) z04) z08)) (z0r (i := 2) nd5 rfl (by first | exact Or.inl rfl | exact Or.inr rfl)) (z0d (z1h g.own g.calm (zau rfl T.z_range (z02 (z17 (z01 2) z04) (z02 (z0z (z01 0) z04) z08))) (z0r (i := 3) nd5 rfl (by first | exact Or.inl rfl | exact Or.inr rfl)) (z0d (z1o (SndW.t (z5f (ze5 g (z26 (z02 (z01 2) (z02 (z01 3) z08))) (z0z (z01 0) z04)) (z4f (ze5 g (z26 (z02 (z01 3) (z02 (z01 2) z08))) (z0z (z01 0) z04))))) (z0d (z2h (z3j (z01 1) (z26 (z02 (z01 2) (z02 (z01 3) z08)))))) z15))))) (z0d (z0q (z01 1)))))
theorem znx : FnScope ["_law_script","_law_k"] ["_law_script","_law_k"] (z03 s_qh) := ⟨rfl,rfl,rfl,by decide +kernel,rfl,by decide +kernel,by decide +kernel⟩
def ze9 (scr : List Int) : MS := (mSeq (mIf (mB (m2 ltD (mVar 1) (z05 (f1 (lenD scr)) (z00 (mVar 0) mNil)))) (mRet (m2 (ixD scr) (mVar 0) (mVar 1))) z0p) (mRet (mC (.int 0))))
def F_qh (scr : List Int) : List Dv→Hs→Rs Dv := z0x 2 2 (ze9 scr)
theorem zny (T : Tx K mg G A) : FnOk P w K mg base (CXm P w base) 1 A.f_qh A.fd_qh ["_law_script","_law_k"] (spOf G (F_qh G.scr)) :=
  z1d (k := 0) (N := ["_law_script","_law_k"]) (mb := (ze9 G.scr)) T.F_qh znx T.hK fun cdv Ar outer s H E₀ E g =>
    (z0a (z1o (t_lt (z01 1) (zas rfl T.z_len (z02 (z01 0) z08))) (z0d (z0q (zkt (z01 0) (z01 1)))) z15) (z0d (z0q z04)))
theorem znz : FnScope ["_law_script","_law_k","_law_cell"] ["_law_script","_law_k"] (z03 s_qn) := ⟨rfl,rfl,rfl,by decide +kernel,rfl,by decide +kernel,by decide +kernel⟩
def zea (scr : List Int) : MS := (mSeq (mAsg (z05 (F_qh scr) (z00 (mVar 0) (z00 (mVar 1) mNil))) (z06 2)) (mSeq (mIf (mB (m2 geD (mVar 2) (m2 powD (mC (.int 10)) (mC (.int 18))))) (mRet (mLst (z00 (m2 subD (mVar 2) (m2 powD (mC (.int 10)) (mC (.int 18)))) (z00 (mC (.bl true)) mNil)))) z0p) (mRet (mLst (z00 (m2 modD (mVar 2) (mC (.int 2147483647))) (z00 (mC (.bl false)) mNil))))))
def F_qn (scr : List Int) : List Dv→Hs→Rs Dv := z0x 2 3 (zea scr)
theorem zo0 (T : Tx K mg G A) : FnOk P w K mg base (CXm P w base) 2 A.f_qn A.fd_qn ["_law_script","_law_k"] (spOf G (F_qn G.scr)) :=
  z1d (k := 1) (N := ["_law_script","_law_k","_law_cell"]) (mb := (zea G.scr)) T.F_qn znz T.hK fun cdv Ar outer s H E₀ E g =>
    (z0a (z0t (i := 2) nd7 rfl (by first | exact Or.inl rfl | exact Or.inr rfl) (z0e g (zny T) (by decide) rfl T.m_qh T.F_qh.kp T.B_qh (z02 (z01 0) (z02 (z01 1) z08)))) (z0a (z1o (t_ge (z01 2) (zbh z04 z04)) (z0d (z0q (z0l (z02 (z57 (z01 2) (zbh z04 z04)) (z02 z1w z08))))) z15) (z0d (z0q (z0l (z02 (z74 (z01 2) z04) (z02 z1w z08)))))))
theorem zo1 : FnScope ["_law_state_here","_law_found","_law_turn","_law_left","_law_kept","_law_size"] ["_law_state_here"] (z03 s_qo) := ⟨rfl,rfl,rfl,by decide +kernel,rfl,by decide +kernel,by decide +kernel⟩
def zc5 : MS := (mSeq (mAsg (mLst mNil) (z06 1)) (mSeq (mFor (mas z0w (z00 (m2 addE (mC (.int 1)) (z05 F_qq (z00 (mVar 0) (z00 (mC (.int 6)) mNil)))) mNil)) (z06 2) (z1m (mApp (mVar 1) (m2 addE (mC (.int 1)) (m2 ix0 (mLst (z00 (mC (.int 0)) (z00 (mC (.int 0)) (z00 (z05 F_qq (z00 (mVar 0) (z00 (mC (.int 3)) mNil))) (z00 (z05 F_qq (z00 (mVar 0) (z00 (mC (.int 6)) mNil))) mNil))))) (z05 F_qq (z00 (mVar 0) (z00 (mC (.int 4)) mNil)))))))) (mSeq (mAsg (mC (.int 6)) (z06 3)) (mSeq (mAsg (mLst mNil) (z06 4)) (mSeq (mFor (m1s lstD (mVar 1)) (z06 5) (mIf (mOr (mB (m2 leD (mVar 5) (mVar 3))) (mB (m2 eqD (mVar 4) (mLst mNil)))) (mSeq (z1m (mApp (mVar 4) (mVar 5))) (mAsg (m2 subD (mVar 3) (mVar 5)) (z06 3))) z0p)) (mRet (m2 ix0 (mLst (z00 (mVar 4) (z00 (mVar 4) (z00 (mVar 4) (z00 (mVar 1) mNil))))) (z05 F_qq (z00 (mVar 0) (z00 (mC (.int 4)) mNil))))))))))
def F_qo : List Dv→Hs→Rs Dv := z0x 1 6 (zc5)
theorem zo2 (T : Tx K mg G A) : FnOk P w K mg base (CXm P w base) 2 A.f_qo A.fd_qo ["_law_state_here"] (spOf G F_qo) :=
  z1d (k := 1) (N := ["_law_state_here","_law_found","_law_turn","_law_left","_law_kept","_law_size"]) (mb := zc5) T.F_qo zo1 T.hK fun cdv Ar outer s H E₀ E g =>
    (z0a (z0t (i := 1) nd8 rfl (by first | exact Or.inl rfl | exact Or.inr rfl) (z0l z08)) (z0a (z1h g.own g.calm (z11 rfl T.z_range (z02 (z17 z04 (z0e g (z6g T) (by decide) rfl T.m_qq T.F_qq.kp T.B_qq (z02 (z01 0) (z02 z04 z08)))) z08)) (z0r (i := 2) nd8 rfl (by first | exact Or.inl rfl | exact Or.inr rfl)) (z0d (z2h (z3j (z01 1) (z17 z04 (z0z (z0l (z02 z04 (z02 z04 (z02 (z0e g (z6g T) (by decide) rfl T.m_qq T.F_qq.kp T.B_qq (z02 (z01 0) (z02 z04 z08))) (z02 (z0e g (z6g T) (by decide) rfl T.m_qq T.F_qq.kp T.B_qq (z02 (z01 0) (z02 z04 z08))) z08))))) (z0e g (z6g T) (by decide) rfl T.m_qq T.F_qq.kp T.B_qq (z02 (z01 0) (z02 z04 z08))))))))) (z0a (z0t (i := 3) nd8 rfl (by first | exact Or.inl rfl | exact Or.inr rfl) z04) (z0a (z0t (i := 4) nd8 rfl (by first | exact Or.inl rfl | exact Or.inr rfl) (z0l z08)) (z0a (z1h g.own g.calm (z2x (z01 1)) (z0r (i := 5) nd8 rfl (by first | exact Or.inl rfl | exact Or.inr rfl)) (z0d (z1o (SndW.t (zao (t_le (z01 5) (z01 3)) (z6w (t_eq g (z01 4) (z0l z08))))) (z0a (z2h (z3j (z01 4) (z01 5))) (z0d (z0t (i := 3) nd8 rfl (by first | exact Or.inl rfl | exact Or.inr rfl) (z57 (z01 3) (z01 5))))) z15))) (z0d (z0q (z0z (z0l (z02 (z01 4) (z02 (z01 4) (z02 (z01 4) (z02 (z01 1) z08))))) (z0e g (z6g T) (by decide) rfl T.m_qq T.F_qq.kp T.B_qq (z02 (z01 0) (z02 z04 z08)))))))))))
theorem zo3 : FnScope ["_law_found","_law_due"] ["_law_found","_law_due"] (z03 s_qr) := ⟨rfl,rfl,rfl,by decide +kernel,rfl,by decide +kernel,by decide +kernel⟩
def zii (Fs : List Dv→Hs→Rs Dv) : MS := (mSeq (mIf (mTru (m1 (isiD zdr) (mVar 1))) (mSeq (mIf (mOr (mB (m2 neD (m1 (isiD z8y) (mVar 0)) (m1 (isiD z8y) (mVar 1)))) (mB (m2 neD (m1 (isiD z5m) (mVar 0)) (m1 (isiD z5m) (mVar 1))))) (mRet (mC (.bl false))) z0p) (mSeq (mIf (mB (m2 neD (z05 (f1 len0) (z00 (mVar 0) mNil)) (z05 (f1 len0) (z00 (mVar 1) mNil)))) (mRet (mC (.bl false))) z0p) (mRet (mL allF (z27 (mas zipS (z00 (mVar 0) (z00 (mVar 1) mNil))) [none,none] (sTup 2 (z1e (z06 0) (z1e (z06 1) sNil))) z4l (z1t (z05 Fs (z00 (mVar 0) (z00 (mVar 1) mNil))))))))) z0p) (mRet (z62 (m2 eqD (mVar 0) (mVar 1)) (m2 eqD (m1 (isiD z2z) (mVar 0)) (m1 (isiD z2z) (mVar 1))))))
def F_qr : Nat→List Dv→Hs→Rs Dv
  | 0 => fun _ _ => .bad
  | n + 1 => z0x 2 2 (zii (F_qr n))
theorem zij (T : Tx K mg G A) : ∀ n,FnOk P w K mg base (CXm P w base) n A.f_qr A.fd_qr ["_law_found","_law_due"] (spOf G (F_qr n))
  | 0 => zli
  | n + 1 => by
    have okS := zij T n
    exact z1d (N := ["_law_found","_law_due"]) (mb := zii (F_qr n)) T.F_qr zo3 T.hK fun cdv Ar outer s H E₀ E g =>
      (z0a (z1o (z2s (zlg rfl T.z_isinstance rfl T.z_tuple rfl T.z_list (z01 1))) (z0a (z1o (SndW.t (zao (t_ne g (zbm rfl T.z_isinstance rfl T.z_tuple (z01 0)) (zbm rfl T.z_isinstance rfl T.z_tuple (z01 1))) (z6w (t_ne g (z83 rfl T.z_isinstance rfl T.z_list (z01 0)) (z83 rfl T.z_isinstance rfl T.z_list (z01 1)))))) (z0d (z0q z1w)) z15) (z0a (z1o (t_ne g (z38 rfl T.z_len (z02 (z01 0) z08)) (z38 rfl T.z_len (z02 (z01 1) z08))) (z0d (z0q z1w)) z15) (z0d (z0q (zb6 g.calm rfl T.z_all (z65 g.calm (zbg (N := ["_law_one","_law_other"]) (cap := [none,none]) (os := (z03 s_qr)) (oN := ["_law_found","_law_due"]) rfl rfl rfl (by decide +kernel) rfl (by decide +kernel) (by decide +kernel) (by decide +kernel)) (zl3 rfl T.z_zip (z02 (z01 0) (z02 (z01 1) z08))) (fun s H ex => (z6z (z28 g).calm (z1j (z0r (i := 0) nd10 rfl (by first | exact Or.inl rfl | exact Or.inr rfl)) (z1j (z0r (i := 1) nd10 rfl (by first | exact Or.inl rfl | exact Or.inr rfl)) z4k)))) (fun s H ex => zaw) (fun s H ex => (z0e (z28 g) okS (Nat.le_refl _) rfl T.m_qr T.F_qr.kp T.B_qr (z02 (z01 0) (z02 (z01 1) z08)))))))))) z15) (z0d (z0q (z7r (x_eq g (z01 0) (z01 1)) (z7q (x_eq g (z68 rfl T.z_isinstance rfl T.z_bool (z01 0)) (z68 rfl T.z_isinstance rfl T.z_bool (z01 1))))))))
theorem zo4 : FnScope ["_law_sizes_here","_law_found","_law_at"] ["_law_sizes_here"] (z03 s_qe) := ⟨rfl,rfl,rfl,by decide +kernel,rfl,by decide +kernel,by decide +kernel⟩
def zc6 : MS := (mSeq (mAsg (mLst mNil) (z06 1)) (mSeq (mFor (mas z0w (z00 (z05 (f1 len0) (z00 (mVar 0) mNil)) mNil)) (z06 2) (mAsg (m2 addE (mVar 1) (m2 repD (mLst (z00 (mVar 2) mNil)) (m2 ix0 (mVar 0) (mVar 2)))) (z06 1))) (mRet (mVar 1))))
def F_qe : List Dv→Hs→Rs Dv := z0x 1 3 (zc6)
theorem zo5 (T : Tx K mg G A) : FnOk P w K mg base (CXm P w base) 1 A.f_qe A.fd_qe ["_law_sizes_here"] (spOf G F_qe) :=
  z1d (k := 0) (N := ["_law_sizes_here","_law_found","_law_at"]) (mb := zc6) T.F_qe zo4 T.hK fun cdv Ar outer s H E₀ E g =>
    (z0a (z0t (i := 1) nd11 rfl (by first | exact Or.inl rfl | exact Or.inr rfl) (z0l z08)) (z0a (z1h g.own g.calm (z11 rfl T.z_range (z02 (z38 rfl T.z_len (z02 (z01 0) z08)) z08)) (z0r (i := 2) nd11 rfl (by first | exact Or.inl rfl | exact Or.inr rfl)) (z0d (z0t (i := 1) nd11 rfl (by first | exact Or.inl rfl | exact Or.inr rfl) (z17 (z01 1) (zi5 (z0l (z02 (z01 2) z08)) (z0z (z01 0) (z01 2))))))) (z0d (z0q (z01 1)))))
theorem zo6 : FnScope ["_law_sizes_here","_law_chains","_law_kind","_law_pairs","_law_a","_law_b"] ["_law_sizes_here","_law_chains"] (z03 s_qf) := ⟨rfl,rfl,rfl,by decide +kernel,rfl,by decide +kernel,by decide +kernel⟩
def zm8 : MS := (mSeq (mAsg (z05 F_qe (z00 (mVar 0) mNil)) (z06 2)) (mSeq (mAsg (mLst mNil) (z06 3)) (mSeq (mFor (mas z0w (z00 (z05 (f1 len0) (z00 (mVar 2) mNil)) mNil)) (z06 4) (mFor (mas z0w (z00 (z05 (f1 len0) (z00 (mVar 2) mNil)) mNil)) (z06 5) (mIf (mOr (mAnd (mTru (mVar 1)) (mAnd (mB (m2 ltD (mVar 4) (mVar 5))) (mB (m2 eqD (m2 ix0 (mVar 2) (mVar 4)) (m2 ix0 (mVar 2) (mVar 5)))))) (mAnd (mNot (mTru (mVar 1))) (mB (m2 ltD (m2 ix0 (mVar 2) (mVar 4)) (m2 ix0 (mVar 2) (mVar 5)))))) (z1m (mApp (mVar 3) (mTup (z00 (mVar 4) (z00 (mVar 5) mNil))))) z0p))) (mRet (mTup (z00 (z05 (f1 len0) (z00 (mVar 2) mNil)) (z00 (z05 (f1 z2g) (z00 (mVar 3) mNil)) mNil)))))))
def F_qf : List Dv→Hs→Rs Dv := z0x 2 6 (zm8)
theorem zm9 (T : Tx K mg G A) : FnOk P w K mg base (CXm P w base) 2 A.f_qf A.fd_qf ["_law_sizes_here","_law_chains"] (spOf G F_qf) :=
  z1d (k := 1) (N := ["_law_sizes_here","_law_chains","_law_kind","_law_pairs","_law_a","_law_b"]) (mb := zm8) T.F_qf zo6 T.hK fun cdv Ar outer s H E₀ E g =>
    (z0a (z0t (i := 2) nd12 rfl (by first | exact Or.inl rfl | exact Or.inr rfl) (z0e g (zo5 T) (by decide) rfl T.m_qe T.F_qe.kp T.B_qe (z02 (z01 0) z08))) (z0a (z0t (i := 3) nd12 rfl (by first | exact Or.inl rfl | exact Or.inr rfl) (z0l z08)) (z0a (z1h g.own g.calm (z11 rfl T.z_range (z02 (z38 rfl T.z_len (z02 (z01 2) z08)) z08)) (z0r (i := 4) nd12 rfl (by first | exact Or.inl rfl | exact Or.inr rfl)) (z0d (z1h g.own g.calm (z11 rfl T.z_range (z02 (z38 rfl T.z_len (z02 (z01 2) z08)) z08)) (z0r (i := 5) nd12 rfl (by first | exact Or.inl rfl | exact Or.inr rfl)) (z0d (z1o (SndW.t (zao (SndW.t (z5f (z2s (z01 1)) (z5f (t_lt (z01 4) (z01 5)) (z4f (t_eq g (z0z (z01 2) (z01 4)) (z0z (z01 2) (z01 5))))))) (z6w (SndW.t (z5f (z4g (z2s (z01 1))) (z4f (t_lt (z0z (z01 2) (z01 4)) (z0z (z01 2) (z01 5))))))))) (z0d (z2h (z3j (z01 3) (z26 (z02 (z01 4) (z02 (z01 5) z08)))))) z15))))) (z0d (z0q (z26 (z02 (z38 rfl T.z_len (z02 (z01 2) z08)) (z02 (z6y rfl T.z_tuple (z02 (z01 3) z08)) z08))))))))
theorem zo7 : FnScope ["_law_order","_law_reach","_law_found","_law_turn","_law_up","_law_a","_law_b"] ["_law_order","_law_reach"] (z03 s_qc) := ⟨rfl,rfl,rfl,by decide +kernel,rfl,by decide +kernel,by decide +kernel⟩
def zma : MS := (mSeq (mAsg (m2 repD (mLst (z00 (mC (.int 0)) mNil)) (m2 ix0 (mVar 0) (mC (.int 0)))) (z06 2)) (mSeq (mFor (mas z0w (z00 (m2 addE (m2 mulD (m2 ix0 (mVar 0) (mC (.int 0))) (m2 ix0 (mVar 0) (mC (.int 0)))) (mC (.int 2))) mNil)) (z06 3) (mSeq (mAsg (z05 (f1 z4o) (z00 (mVar 2) mNil)) (z06 4)) (mSeq (mFor (m1s tupS (m2 ix0 (mVar 0) (mC (.int 1)))) (sTup 2 (z1e (z06 5) (z1e (z06 6) sNil))) (z24 (mVar 4) (mVar 6) (z05 z35 (z00 (m2 ix0 (mVar 4) (mVar 6)) (z00 (m2 addE (m2 ix0 (mVar 2) (mVar 5)) (mC (.int 1))) mNil))))) (mSeq (mFor (m1s lstD (z05 F_qm (z00 (mVar 0) mNil))) (sTup 2 (z1e (z06 5) (z1e (z06 6) sNil))) (mSeq (z24 (mVar 4) (mVar 5) (z05 z35 (z00 (m2 ix0 (mVar 4) (mVar 5)) (z00 (m2 subD (m2 ix0 (mVar 2) (mVar 6)) (mVar 1)) mNil)))) (z24 (mVar 4) (mVar 6) (z05 z35 (z00 (m2 ix0 (mVar 4) (mVar 6)) (z00 (m2 subD (m2 ix0 (mVar 2) (mVar 5)) (mVar 1)) mNil)))))) (mSeq (mIf (mB (m2 eqD (mVar 4) (mVar 2))) (mRet (z05 (f1 z2g) (z00 (mVar 2) mNil))) z0p) (mSeq (mAsg (mVar 4) (z06 2)) (mIf (mB (m2 geD (z05 (f1 (l1D maxI)) (z00 (mVar 2) mNil)) (m2 ix0 (mVar 0) (mC (.int 0))))) (mRet (mC .non)) z0p))))))) (mRet (mC .non))))
def F_qc : List Dv→Hs→Rs Dv := z0x 2 7 (zma)
theorem zo8 (T : Tx K mg G A) : FnOk P w K mg base (CXm P w base) 2 A.f_qc A.fd_qc ["_law_order","_law_reach"] (spOf G F_qc) :=
  z1d (k := 1) (N := ["_law_order","_law_reach","_law_found","_law_turn","_law_up","_law_a","_law_b"]) (mb := zma) T.F_qc zo7 T.hK fun cdv Ar outer s H E₀ E g =>
    (z0a (z0t (i := 2) nd13 rfl (by first | exact Or.inl rfl | exact Or.inr rfl) (zi5 (z0l (z02 z04 z08)) (z0z (z01 0) z04))) (z0a (z1h g.own g.calm (z11 rfl T.z_range (z02 (z17 (z82 (z0z (z01 0) z04) (z0z (z01 0) z04)) z04) z08)) (z0r (i := 3) nd13 rfl (by first | exact Or.inl rfl | exact Or.inr rfl)) (z0a (z0t (i := 4) nd13 rfl (by first | exact Or.inl rfl | exact Or.inr rfl) (zbn rfl T.z_list (z02 (z01 2) z08))) (z0a (z1h g.own g.calm (zfh (z0z (z01 0) z04)) (z6z g.calm (z1j (z0r (i := 5) nd13 rfl (by first | exact Or.inl rfl | exact Or.inr rfl)) (z1j (z0r (i := 6) nd13 rfl (by first | exact Or.inl rfl | exact Or.inr rfl)) z4k))) (z0d (z36 (z01 4) (z01 6) (z44 g.calm rfl T.z_max (z02 (z0z (z01 4) (z01 6)) (z02 (z17 (z0z (z01 2) (z01 5)) z04) z08)))))) (z0a (z1h g.own g.calm (z2x (z0e g (zm7 T) (by decide) rfl T.m_qm T.F_qm.kp T.B_qm (z02 (z01 0) z08))) (z6z g.calm (z1j (z0r (i := 5) nd13 rfl (by first | exact Or.inl rfl | exact Or.inr rfl)) (z1j (z0r (i := 6) nd13 rfl (by first | exact Or.inl rfl | exact Or.inr rfl)) z4k))) (z0a (z36 (z01 4) (z01 5) (z44 g.calm rfl T.z_max (z02 (z0z (z01 4) (z01 5)) (z02 (z57 (z0z (z01 2) (z01 6)) (z01 1)) z08)))) (z0d (z36 (z01 4) (z01 6) (z44 g.calm rfl T.z_max (z02 (z0z (z01 4) (z01 6)) (z02 (z57 (z0z (z01 2) (z01 5)) (z01 1)) z08))))))) (z0a (z1o (t_eq g (z01 4) (z01 2)) (z0d (z0q (z6y rfl T.z_tuple (z02 (z01 2) z08)))) z15) (z0a (z0t (i := 2) nd13 rfl (by first | exact Or.inl rfl | exact Or.inr rfl) (z01 4)) (z0d (z1o (t_ge (z93 g.calm rfl T.z_max (z02 (z01 2) z08)) (z0z (z01 0) z04)) (z0d (z0q z3f)) z15)))))))) (z0d (z0q z3f))))
theorem zo9 : FnScope ["_law_order","_law_reach"] ["_law_order"] (z03 s_qb) := ⟨rfl,rfl,rfl,by decide +kernel,rfl,by decide +kernel,by decide +kernel⟩
def zmb : MS := (mSeq (mAsg (mC (.int 0)) (z06 1)) (mSeq (z2t (mB (m2 (isC false) (z05 F_qc (z00 (mVar 0) (z00 (mVar 1) mNil))) (mC .non))) (mAsg (m2 addE (mVar 1) (mC (.int 1))) (z06 1)) 20) (mRet (mVar 1))))
def F_qb : List Dv→Hs→Rs Dv := z0x 1 2 (zmb)
theorem zoa (T : Tx K mg G A) : FnOk P w K mg base (CXm P w base) 3 A.f_qb A.fd_qb ["_law_order"] (spOf G F_qb) :=
  z1d (k := 2) (N := ["_law_order","_law_reach"]) (mb := zmb) T.F_qb zo9 T.hK fun cdv Ar outer s H E₀ E g =>
    (z0a (z0t (i := 1) nd14 rfl (by first | exact Or.inl rfl | exact Or.inr rfl) z04) (z0a (zdq 20 g.own (t_is (z0e g (zo8 T) (by decide) rfl T.m_qc T.F_qc.kp T.B_qc (z02 (z01 0) (z02 (z01 1) z08))) z3f) (z0d (z0t (i := 1) nd14 rfl (by first | exact Or.inl rfl | exact Or.inr rfl) (z17 (z01 1) z04)))) (z0d (z0q (z01 1)))))
theorem zob : FnScope ["_law_state_here","_law_some"] ["_law_state_here"] (z03 s_qd) := ⟨rfl,rfl,rfl,by decide +kernel,rfl,by decide +kernel,by decide +kernel⟩
def zeb : MS := (mSeq (mAsg (mLst (z00 (mC .non) (z00 (mLst mNil) (z00 (mLst (z00 (mC (.int 0)) mNil)) (z00 (mLst (z00 (mC (.int 1)) (z00 (m1 negD (mC (.int 1))) mNil))) (z00 (mLst (z00 (mC (.bl true)) mNil)) (z00 (mLst (z00 (mC (.str "1")) mNil)) (z00 (mTup (z00 (mC (.int 1)) (z00 (mC (.int 2)) mNil))) (z00 (m2 repD (mLst (z00 (mC (.int 1)) mNil)) (mC (.int 7))) (z00 (mC .edc) (z00 (mC (.int 3)) (z00 (mLst (z00 (mC .non) mNil)) (z00 (mLst (z00 (mLst (z00 (mC (.int 1)) mNil)) mNil)) (z00 (mLst (z00 (mC (.int 1)) (z00 (mTup (z00 (mC (.int 2)) mNil)) mNil))) (z00 (mC (.str "12")) mNil))))))))))))))) (z06 1)) (mRet (m2 ix0 (mVar 1) (z05 F_qq (z00 (mVar 0) (z00 (mC (.int 14)) mNil))))))
def F_qd : List Dv→Hs→Rs Dv := z0x 1 2 (zeb)
theorem zoc (T : Tx K mg G A) : FnOk P w K mg base (CXm P w base) 2 A.f_qd A.fd_qd ["_law_state_here"] (spOf G F_qd) :=
  z1d (k := 1) (N := ["_law_state_here","_law_some"]) (mb := zeb) T.F_qd zob T.hK fun cdv Ar outer s H E₀ E g =>
    (z0a (z0t (i := 1) nd15 rfl (by first | exact Or.inl rfl | exact Or.inr rfl) (z0l (z02 z3f (z02 (z0l z08) (z02 (z0l (z02 z04 z08)) (z02 (z0l (z02 z04 (z02 (zbi z04) z08))) (z02 (z0l (z02 z1w z08)) (z02 (z0l (z02 z61 z08)) (z02 (z26 (z02 z04 (z02 z04 z08))) (z02 (zi5 (z0l (z02 z04 z08)) z04) (z02 zhm (z02 z04 (z02 (z0l (z02 z3f z08)) (z02 (z0l (z02 (z0l (z02 z04 z08)) z08)) (z02 (z0l (z02 z04 (z02 (z26 (z02 z04 z08)) z08))) (z02 z61 z08)))))))))))))))) (z0d (z0q (z0z (z01 1) (z0e g (z6g T) (by decide) rfl T.m_qq T.F_qq.kp T.B_qq (z02 (z01 0) (z02 z04 z08)))))))
def z87 : MS := (mSeq (mAsg (mLst (z00 (m1 (isiD (z1n none tbl0)) (mVar 1)) (z00 (m1 (isiD (z1n none tbl1)) (mVar 1)) (z00 (m1 (isiD (z1n none tbl2)) (mVar 1)) mNil)))) (z06 3)) (mSeq (mAsg (m2 addE (mVar 3) (mLst (z00 (m1 (isiD (z1n none tbl3)) (mVar 1)) (z00 (m1 (isiD (z1n none tbl4)) (mVar 1)) (z00 (m1 (isiD (z1n none tbl5)) (mVar 1)) mNil))))) (z06 3)) (mSeq (mAsg (m2 addE (mVar 3) (mLst (z00 (m1 (isiD (z1n none tbl6)) (mVar 1)) (z00 (m1 (isiD (z1n none tbl7)) (mVar 1)) (z00 (m1 (isiD (z1n none tbl8)) (mVar 1)) mNil))))) (z06 3)) (mSeq (mAsg (m2 addE (mVar 3) (mLst (z00 (m1 (isiD (z1n none tbl9)) (mVar 1)) (z00 (m1 (isiD (z1n none tbl10)) (mVar 1)) (z00 (m1 (isiD (z1n none tbl11)) (mVar 1)) mNil))))) (z06 3)) (mSeq (mAsg (m2 addE (mVar 3) (mLst (z00 (m1 (isiD (z1n none tbl12)) (mVar 1)) (z00 (m1 (isiD (z1n none tbl13)) (mVar 1)) mNil)))) (z06 3)) (mSeq (mIf (mNot (mTru (m1 (isiD (z1n none tblV)) (mVar 1)))) (mRet (mC .non)) z0p) (mRet (mAl (z27 (mas z0w (z00 (mC (.int 14)) mNil)) [none,some 3] (z06 0) (mTru (m2 ix0 (mVar 1) (mVar 0))) (z1t (mVar 0)))))))))))
theorem zod : FnScope ["_law_call","_law_error","e","_law_marks"] ["_law_call"] (z03 s_qi) := ⟨rfl,rfl,rfl,by decide +kernel,rfl,by decide +kernel,by decide +kernel⟩
theorem z3n {k : Nat} (T : Tx K mg G A) (cdv : Value) (Ar : Around) (outer : List Env) (s : Shared) (H : Hp) (E₀ E : XK) (g : Good (cxOf (CXm P w base) P w K mg base ["_law_call","_law_error","e","_law_marks"] "_law_refused" (z03 s_qi) A.f_qi cdv Ar outer s H E₀) G E k) : z3w (cxOf (CXm P w base) P w K mg base ["_law_call","_law_error","e","_law_marks"] "_law_refused" (z03 s_qi) A.f_qi cdv Ar outer s H E₀) G E ((z07 s_qi).drop 2) z87 :=
  (z0a (z0t (i := 3) nd16 rfl (by first | exact Or.inl rfl | exact Or.inr rfl) (z0l (z02 (z1f rfl T.z_isinstance rfl T.n_NoOrder (z01 1) (fun _ h => by cases h) T.kt0) (z02 (z1f rfl T.z_isinstance rfl T.n_NoNumber (z01 1) (fun _ h => by cases h) T.kt1) (z02 (z1f rfl T.z_isinstance rfl T.n_NoPairs (z01 1) (fun _ h => by cases h) T.kt2) z08))))) (z0a (z0t (i := 3) nd16 rfl (by first | exact Or.inl rfl | exact Or.inr rfl) (z17 (z01 3) (z0l (z02 (z1f rfl T.z_isinstance rfl T.n_Round (z01 1) (fun _ h => by cases h) T.kt3) (z02 (z1f rfl T.z_isinstance rfl T.n_NoThing (z01 1) (fun _ h => by cases h) T.kt4) (z02 (z1f rfl T.z_isinstance rfl T.n_NoRow (z01 1) (fun _ h => by cases h) T.kt5) z08)))))) (z0a (z0t (i := 3) nd16 rfl (by first | exact Or.inl rfl | exact Or.inr rfl) (z17 (z01 3) (z0l (z02 (z1f rfl T.z_isinstance rfl T.n_TooMany (z01 1) (fun _ h => by cases h) T.kt6) (z02 (z1f rfl T.z_isinstance rfl T.n_TooFew (z01 1) (fun _ h => by cases h) T.kt7) (z02 (z1f rfl T.z_isinstance rfl T.n_NoText (z01 1) (fun _ h => by cases h) T.kt8) z08)))))) (z0a (z0t (i := 3) nd16 rfl (by first | exact Or.inl rfl | exact Or.inr rfl) (z17 (z01 3) (z0l (z02 (z1f rfl T.z_isinstance rfl T.n_NoLine (z01 1) (fun _ h => by cases h) T.kt9) (z02 (z1f rfl T.z_isinstance rfl T.n_NoDeed (z01 1) (fun _ h => by cases h) T.kt10) (z02 (z1f rfl T.z_isinstance rfl T.n_NoSeating (z01 1) (fun _ h => by cases h) T.kt11) z08)))))) (z0a (z0t (i := 3) nd16 rfl (by first | exact Or.inl rfl | exact Or.inr rfl) (z17 (z01 3) (z0l (z02 (z1f rfl T.z_isinstance rfl T.n_NoRing (z01 1) (fun _ h => by cases h) T.kt12) (z02 (z1f rfl T.z_isinstance rfl T.n_NoSizes (z01 1) (fun _ h => by cases h) T.kt13) z08))))) (z0a (z1o (z4g (z2s (zlh rfl T.z_isinstance rfl T.z_ValueError (z01 1) (fun _ h => by cases h) T.ktV))) (z0d (z0q z3f)) z15) (z0d (z0q (zhd (z65 g.calm (zbg (N := ["_law_k","_law_marks"]) (cap := [none,some 3]) (os := (z03 s_qi)) (oN := ["_law_call","_law_error","e","_law_marks"]) rfl rfl rfl (by decide +kernel) rfl (by decide +kernel) (by decide +kernel) (by decide +kernel)) (z11 rfl T.z_range (z02 z04 z08)) (fun s H ex => (z0r (i := 0) nd17 rfl (by first | exact Or.inl rfl | exact Or.inr rfl))) (fun s H ex => (zfj (z2s (z0z (z01 1) (z01 0))))) (fun s H ex => (z01 0))))))))))))
theorem zmc {k : Nat} {Nl : List Str} {params : Arguments} {body : Expr} {scope : Scope} {me : M Dv} (T : Tx K mg G A) (LS : LamScope Nl scope) (hb : ∀ (cl : List (Str × Addr)) (pm cdv ct : Value),bindArgs (PySem.W.kla_fn "<lambda>" G.lq params body scope cl pm cdv ct) ⟨[],[]⟩ = pure [])
    (hbody : ∀ (f : Addr) (cdv : Value) (cl : List (Str × Addr)) (A : Around) (outer : List Env) (s : Shared) (H : Hp) (E₀ E : XK),Good (z3k P w K mg base Nl G.lq scope f cdv cl A outer s H E₀) G E k→Snd (z3k P w K mg base Nl G.lq scope f cdv cl A outer s H E₀) G E body me) :
    FnOk P w K mg base (CXm P w base) (k + 2) A.f_qi A.fd_qi ["_law_call"] (zdp G base Nl params body scope me 4 14 z87) :=
  zl5 T.F_qi zod T.hK rfl rfl rfl rfl rfl rfl rfl (by decide) (by decide) (by decide) (by decide) (by decide) (fun _ _ => rfl) (fun _ _ => rfl) (fun _ _ => rfl) rfl T.n_NearError T.e1 T.e2 T.e3 T.e4 LS hb hbody (z3n T)
theorem zoe : FnScope ["_law_state_here","_law_found","_law_turn","_law_size","_law_part"] ["_law_state_here"] (z03 s_qp) := ⟨rfl,rfl,rfl,by decide +kernel,rfl,by decide +kernel,by decide +kernel⟩
def zc7 : MS := (mSeq (mAsg (mLst mNil) (z06 1)) (mSeq (mFor (mas z0w (z00 (m2 addE (mC (.int 1)) (z05 F_qq (z00 (mVar 0) (z00 (mC (.int 6)) mNil)))) mNil)) (z06 2) (mSeq (mAsg (mC (.int 0)) (z06 3)) (mSeq (mFor (mas z0w (z00 (mC (.int 4)) mNil)) (z06 4) (mAsg (m2 addE (m2 mulD (mVar 3) (mC (.int 2147483587))) (z05 F_qq (z00 (mVar 0) (z00 (mC (.int 2147483587)) mNil)))) (z06 3))) (z1m (mApp (mVar 1) (m2 addE (mC (.int 1)) (m2 modD (mVar 3) (m2 ix0 (mLst (z00 (mC (.int 10)) (z00 (mC (.int 1000)) (z00 (m2 powD (mC (.int 10)) (mC (.int 15))) (z00 (m2 subD (m2 powD (mC (.int 10)) (mC (.int 30))) (mC (.int 1))) mNil))))) (z05 F_qq (z00 (mVar 0) (z00 (mC (.int 4)) mNil))))))))))) (mRet (mVar 1))))
def F_qp : List Dv→Hs→Rs Dv := z0x 1 5 (zc7)
theorem zof (T : Tx K mg G A) : FnOk P w K mg base (CXm P w base) 2 A.f_qp A.fd_qp ["_law_state_here"] (spOf G F_qp) :=
  z1d (k := 1) (N := ["_law_state_here","_law_found","_law_turn","_law_size","_law_part"]) (mb := zc7) T.F_qp zoe T.hK fun cdv Ar outer s H E₀ E g =>
    (z0a (z0t (i := 1) nd18 rfl (by first | exact Or.inl rfl | exact Or.inr rfl) (z0l z08)) (z0a (z1h g.own g.calm (z11 rfl T.z_range (z02 (z17 z04 (z0e g (z6g T) (by decide) rfl T.m_qq T.F_qq.kp T.B_qq (z02 (z01 0) (z02 z04 z08)))) z08)) (z0r (i := 2) nd18 rfl (by first | exact Or.inl rfl | exact Or.inr rfl)) (z0a (z0t (i := 3) nd18 rfl (by first | exact Or.inl rfl | exact Or.inr rfl) z04) (z0a (z1h g.own g.calm (z11 rfl T.z_range (z02 z04 z08)) (z0r (i := 4) nd18 rfl (by first | exact Or.inl rfl | exact Or.inr rfl)) (z0d (z0t (i := 3) nd18 rfl (by first | exact Or.inl rfl | exact Or.inr rfl) (z17 (z82 (z01 3) z04) (z0e g (z6g T) (by decide) rfl T.m_qq T.F_qq.kp T.B_qq (z02 (z01 0) (z02 z04 z08))))))) (z0d (z2h (z3j (z01 1) (z17 z04 (z74 (z01 3) (z0z (z0l (z02 z04 (z02 z04 (z02 (zbh z04 z04) (z02 (z57 (zbh z04 z04) z04) z08))))) (z0e g (z6g T) (by decide) rfl T.m_qq T.F_qq.kp T.B_qq (z02 (z01 0) (z02 z04 z08)))))))))))) (z0d (z0q (z01 1)))))
theorem zog : FnScope ["_law_order","_law_found","_law_turn","_law_longer","_law_row","_law_thing","_law_ahead"] ["_law_order"] (z03 s_qs) := ⟨rfl,rfl,rfl,by decide +kernel,rfl,by decide +kernel,by decide +kernel⟩
def zec : MS := (mSeq (mAsg (mLst (z00 (mTup mNil) mNil)) (z06 1)) (mSeq (mFor (mas z0w (z00 (m2 ix0 (mVar 0) (mC (.int 0))) mNil)) (z06 2) (mSeq (mAsg (mLst mNil) (z06 3)) (mSeq (mFor (m1s lstD (mVar 1)) (z06 4) (mFor (mas z0w (z00 (m2 ix0 (mVar 0) (mC (.int 0))) mNil)) (z06 5) (mSeq (mAsg (mAl (z27 (m1s tupS (m2 ix0 (mVar 0) (mC (.int 1)))) [none,none,some 5,some 4] (sTup 2 (z1e (z06 0) (z1e (z06 1) sNil))) (mAnd (mB (m2 eqD (mVar 1) (mVar 2))) (mB (m2 (in0 true) (mVar 0) (mVar 3)))) (z1t (mVar 0)))) (z06 6)) (mIf (mAnd (mB (m2 (in0 true) (mVar 5) (mVar 4))) (mB (m2 eqD (mVar 6) (mLst mNil)))) (z1m (mApp (mVar 3) (m2 addE (mVar 4) (mTup (z00 (mVar 5) mNil))))) z0p)))) (mAsg (mVar 3) (z06 1))))) (mRet (mVar 1))))
def F_qs : List Dv→Hs→Rs Dv := z0x 1 7 (zec)
theorem zoh (T : Tx K mg G A) : FnOk P w K mg base (CXm P w base) 1 A.f_qs A.fd_qs ["_law_order"] (spOf G F_qs) :=
  z1d (k := 0) (N := ["_law_order","_law_found","_law_turn","_law_longer","_law_row","_law_thing","_law_ahead"]) (mb := zec) T.F_qs zog T.hK fun cdv Ar outer s H E₀ E g =>
    (z0a (z0t (i := 1) nd19 rfl (by first | exact Or.inl rfl | exact Or.inr rfl) (z0l (z02 (z26 z08) z08))) (z0a (z1h g.own g.calm (z11 rfl T.z_range (z02 (z0z (z01 0) z04) z08)) (z0r (i := 2) nd19 rfl (by first | exact Or.inl rfl | exact Or.inr rfl)) (z0a (z0t (i := 3) nd19 rfl (by first | exact Or.inl rfl | exact Or.inr rfl) (z0l z08)) (z0a (z1h g.own g.calm (z2x (z01 1)) (z0r (i := 4) nd19 rfl (by first | exact Or.inl rfl | exact Or.inr rfl)) (z0d (z1h g.own g.calm (z11 rfl T.z_range (z02 (z0z (z01 0) z04) z08)) (z0r (i := 5) nd19 rfl (by first | exact Or.inl rfl | exact Or.inr rfl)) (z0a (z4x (i := 6) nd19 rfl g.calm (zbg (N := ["_law_a","_law_b","_law_thing","_law_row"]) (cap := [none,none,some 5,some 4]) (os := (z03 s_qs)) (oN := ["_law_order","_law_found","_law_turn","_law_longer","_law_row","_law_thing","_law_ahead"]) rfl rfl rfl (by decide +kernel) rfl (by decide +kernel) (by decide +kernel) (by decide +kernel)) (zfh (z0z (z01 0) z04)) (fun s H ex => (z6z (z28 g).calm (z1j (z0r (i := 0) nd20 rfl (by first | exact Or.inl rfl | exact Or.inr rfl)) (z1j (z0r (i := 1) nd20 rfl (by first | exact Or.inl rfl | exact Or.inr rfl)) z4k)))) (fun s H ex => (zfj (SndW.t (z5f (t_eq (z28 g) (z01 1) (z01 2)) (z4f (ze5 (z28 g) (z01 0) (z01 3))))))) (fun s H ex => (z01 0))) (z0d (z1o (SndW.t (z5f (ze5 g (z01 5) (z01 4)) (z4f (t_eq g (z01 6) (z0l z08))))) (z0d (z2h (z3j (z01 3) (z17 (z01 4) (z26 (z02 (z01 5) z08)))))) z15)))))) (z0d (z0t (i := 1) nd19 rfl (by first | exact Or.inl rfl | exact Or.inr rfl) (z01 3)))))) (z0d (z0q (z01 1)))))
theorem zoi : FnScope ["_law_order","_law_pairs","_law_least","_law_row","_law_far"] ["_law_order"] (z03 s_qt) := ⟨rfl,rfl,rfl,by decide +kernel,rfl,by decide +kernel,by decide +kernel⟩
def zc8 : MS := (mSeq (mAsg (z05 F_qm (z00 (mVar 0) mNil)) (z06 1)) (mSeq (mAsg (m2 ix0 (mVar 0) (mC (.int 0))) (z06 2)) (mSeq (mFor (m1s lstD (z05 F_qs (z00 (mVar 0) mNil))) (z06 3) (mSeq (mAsg (mAl (z27 (m1s lstD (mVar 1)) [none,none,some 3] (sTup 2 (z1e (z06 0) (z1e (z06 1) sNil))) z4l (z1t (z05 (f1 absD) (z00 (m2 subD (mIdx (mVar 2) (mVar 0)) (mIdx (mVar 2) (mVar 1))) mNil))))) (z06 4)) (mAsg (z05 z63 (z00 (mVar 2) (z00 (z05 (f1 (l1D maxI)) (z00 (m2 addE (mLst (z00 (mC (.int 0)) mNil)) (mVar 4)) mNil)) mNil))) (z06 2)))) (mRet (mVar 2)))))
def F_qt : List Dv→Hs→Rs Dv := z0x 1 5 (zc8)
theorem zoj (T : Tx K mg G A) : FnOk P w K mg base (CXm P w base) 2 A.f_qt A.fd_qt ["_law_order"] (spOf G F_qt) :=
  z1d (k := 1) (N := ["_law_order","_law_pairs","_law_least","_law_row","_law_far"]) (mb := zc8) T.F_qt zoi T.hK fun cdv Ar outer s H E₀ E g =>
    (z0a (z0t (i := 1) nd21 rfl (by first | exact Or.inl rfl | exact Or.inr rfl) (z0e g (zm7 T) (by decide) rfl T.m_qm T.F_qm.kp T.B_qm (z02 (z01 0) z08))) (z0a (z0t (i := 2) nd21 rfl (by first | exact Or.inl rfl | exact Or.inr rfl) (z0z (z01 0) z04)) (z0a (z1h g.own g.calm (z2x (z0e g (zoh T) (by decide) rfl T.m_qs T.F_qs.kp T.B_qs (z02 (z01 0) z08))) (z0r (i := 3) nd21 rfl (by first | exact Or.inl rfl | exact Or.inr rfl)) (z0a (z4x (i := 4) nd21 rfl g.calm (zbg (N := ["_law_a","_law_b","_law_row"]) (cap := [none,none,some 3]) (os := (z03 s_qt)) (oN := ["_law_order","_law_pairs","_law_least","_law_row","_law_far"]) rfl rfl rfl (by decide +kernel) rfl (by decide +kernel) (by decide +kernel) (by decide +kernel)) (z2x (z01 1)) (fun s H ex => (z6z (z28 g).calm (z1j (z0r (i := 0) nd22 rfl (by first | exact Or.inl rfl | exact Or.inr rfl)) (z1j (z0r (i := 1) nd22 rfl (by first | exact Or.inl rfl | exact Or.inr rfl)) z4k)))) (fun s H ex => zaw) (fun s H ex => (zhb rfl T.z_abs (z02 (z57 (z79 (z01 2) (z01 0)) (z79 (z01 2) (z01 1))) z08)))) (z0d (z0t (i := 2) nd21 rfl (by first | exact Or.inl rfl | exact Or.inr rfl) (z8j g.calm rfl T.z_min (z02 (z01 2) (z02 (z93 g.calm rfl T.z_max (z02 (z17 (z0l (z02 z04 z08)) (z01 4)) z08)) z08))))))) (z0d (z0q (z01 2))))))
theorem zok : FnScope ["_law_sizes_here","_law_two"] ["_law_sizes_here"] (z03 s_qa) := ⟨rfl,rfl,rfl,by decide +kernel,rfl,by decide +kernel,by decide +kernel⟩
def zed : MS := (mSeq (mIf (mB (m2 eqD (z05 (f1 len0) (z00 (mVar 0) mNil)) (mC (.int 1)))) (mRet (mC (.int 0))) z0p) (mSeq (mAsg (mSl (z05 (f1 z6d) (z00 (mVar 0) mNil)) (mBd (m1 negD (mC (.int 2)))) mNoB) (z06 1)) (mRet (m2 addE (m2 z4w (m2 subD (m2 addE (m2 ix0 (mVar 1) (mC (.int 0))) (m2 ix0 (mVar 1) (mC (.int 1)))) (mC (.int 2))) (mC (.int 2))) (m2 modD (m2 addE (m2 ix0 (mVar 1) (mC (.int 0))) (m2 ix0 (mVar 1) (mC (.int 1)))) (mC (.int 2)))))))
def F_qa : List Dv→Hs→Rs Dv := z0x 1 2 (zed)
theorem zol (T : Tx K mg G A) : FnOk P w K mg base (CXm P w base) 1 A.f_qa A.fd_qa ["_law_sizes_here"] (spOf G F_qa) :=
  z1d (k := 0) (N := ["_law_sizes_here","_law_two"]) (mb := zed) T.F_qa zok T.hK fun cdv Ar outer s H E₀ E g =>
    (z0a (z1o (t_eq g (z38 rfl T.z_len (z02 (z01 0) z08)) z04) (z0d (z0q z04)) z15) (z0a (z0t (i := 1) nd23 rfl (by first | exact Or.inl rfl | exact Or.inr rfl) (z73 (z94 rfl T.z_sorted (z02 (z01 0) z08)) (zbd (zbi z04)) zbc)) (z0d (z0q (z17 (z6e (z57 (z17 (z0z (z01 1) z04) (z0z (z01 1) z04)) z04) z04) (z74 (z17 (z0z (z01 1) z04) (z0z (z01 1) z04)) z04))))))
def z6h : M Dv := (z05 F_qj (z00 (mVar 0) mNil))
def z6i : M Dv := (z05 F_qg (z00 (mVar 0) mNil))
def zee (scr : List Int) : MS := (mSeq (mAsg (z05 (F_qn scr) (z00 (mVar 0) (z00 (mVar 1) mNil))) (z06 2)) (mSeq (mFor (m1s lstD (mLst (z00 (z05 F_qo (z00 (mVar 2) mNil)) (z00 (z05 F_qp (z00 (mVar 2) mNil)) (z00 (mLst (z00 (mC (.int 1)) mNil)) (z00 (mLst (z00 (m2 powD (mC (.int 10)) (mC (.int 29))) mNil)) mNil)))))) (z06 3) (mSeq (mAsg (z05 (f1 z4o) (z00 (mVar 3) mNil)) (z06 4)) (mSeq (mIf (mNot (mTru (z05 (F_qr 6) (z00 (z05 F_qj (z00 (mVar 4) mNil)) (z00 (m2 subD (z05 (f1 (l1D maxI)) (z00 (mVar 3) mNil)) (mC (.int 1))) mNil))))) (mRet (mC (.bl false))) z0p) (mSeq (mIf (mOr (mNot (mTru (z05 (F_qr 6) (z00 (z05 F_qg (z00 (mVar 4) mNil)) (z00 (z05 F_qa (z00 (mVar 3) mNil)) mNil))))) (mB (m2 neD (mVar 4) (mVar 3)))) (mRet (mC (.bl false))) z0p) (mIf (mB (m2 ltD (z05 (f1 sumD) (z00 (mVar 3) mNil)) (mC (.int 7)))) (mSeq (mIf (mB (m2 neD (z05 F_qt (z00 (z05 F_qf (z00 (mVar 3) (z00 (mC (.bl false)) mNil))) mNil)) (z05 F_qj (z00 (mVar 4) mNil)))) (mRet (mC (.bl false))) z0p) (mIf (mB (m2 neD (z05 F_qb (z00 (z05 F_qf (z00 (mVar 3) (z00 (mC (.bl true)) mNil))) mNil)) (z05 F_qg (z00 (mVar 4) mNil)))) (mRet (mC (.bl false))) z0p)) z0p))))) (mSeq (mAsg (z05 F_qd (z00 (mVar 2) mNil)) (z06 5)) (mSeq (mIf (mB (m2 neD (mRef [5] 4 14 z87 z6h) (mLst (z00 (mC (.int 13)) mNil)))) (mRet (mC (.bl false))) z0p) (mIf (mB (m2 neD (mRef [5] 4 14 z87 z6i) (mLst (z00 (mC (.int 13)) mNil)))) (mRet (mC (.bl false))) z0p)))))
def ml0 (scr : List Int) : MS := (mFor (mas z0w (z00 (z05 z35 (z00 (mC (.int 1)) (z00 (z05 z63 (z00 (z05 (f1 (lenD scr)) (z00 (mVar 0) mNil)) (z00 (mC (.int 8)) mNil))) mNil))) mNil)) (z06 1) (zee scr))
def ml1 : MS := (mRet (mC (.bl true)))
def zef (scr : List Int) : MS := (mSeq (ml0 scr) ml1)
def F_qv (scr : List Int) : List Dv→Hs→Rs Dv := z0x 1 6 (zef scr)
theorem zom : FnScope ["_law_script","_law_k","_law_state_here","_law_sizes_here","_law_handed","_law_bad"] ["_law_script"] (z03 s_qv) := ⟨rfl,rfl,rfl,by decide +kernel,rfl,by decide +kernel,by decide +kernel⟩
theorem zon (T : Tx K mg G A) (hC : PySem.W.CodeHd base A.cc A.P) (hB : z56 mg base) : FnOk P w K mg base (CXm P w base) 10 A.f_qv A.fd_qv ["_law_script"] (spOf G (F_qv G.scr)) :=
  zhq (k := 9) (N := ["_law_script","_law_k","_law_state_here","_law_sizes_here","_law_handed","_law_bad"]) (mb := zef G.scr) T.F_qv zom T.hK fun cdv Ar outer s H E₀ E hcd g =>
    (z0a (z1h g.own g.calm (z11 rfl T.z_range (z02 (z44 g.calm rfl T.z_max (z02 z04 (z02 (z8j g.calm rfl T.z_min (z02 (zas rfl T.z_len (z02 (z01 0) z08)) (z02 z04 z08))) z08))) z08)) (z0r (i := 1) nd24 rfl (by first | exact Or.inl rfl | exact Or.inr rfl)) (z0a (z0t (i := 2) nd24 rfl (by first | exact Or.inl rfl | exact Or.inr rfl) (z0e g (zo0 T) (by decide) rfl T.m_qn T.F_qn.kp T.B_qn (z02 (z01 0) (z02 (z01 1) z08)))) (z0a (z1h g.own g.calm (z2x (z0l (z02 (z0e g (zo2 T) (by decide) rfl T.m_qo T.F_qo.kp T.B_qo (z02 (z01 2) z08)) (z02 (z0e g (zof T) (by decide) rfl T.m_qp T.F_qp.kp T.B_qp (z02 (z01 2) z08)) (z02 (z0l (z02 z04 z08)) (z02 (z0l (z02 (zbh z04 z04) z08)) z08)))))) (z0r (i := 3) nd24 rfl (by first | exact Or.inl rfl | exact Or.inr rfl)) (z0a (z0t (i := 4) nd24 rfl (by first | exact Or.inl rfl | exact Or.inr rfl) (zbn rfl T.z_list (z02 (z01 3) z08))) (z0a (z1o (z4g (z2s (z0e g (zij T 6) (by decide) rfl T.m_qr T.F_qr.kp T.B_qr (z02 (z0e g (zig T) (by decide) rfl T.m_qj T.F_qj.kp T.B_qj (z02 (z01 4) z08)) (z02 (z57 (z93 g.calm rfl T.z_max (z02 (z01 3) z08)) z04) z08))))) (z0d (z0q z1w)) z15) (z0a (z1o (SndW.t (zao (z4g (z2s (z0e g (zij T 6) (by decide) rfl T.m_qr T.F_qr.kp T.B_qr (z02 (z0e g (zih T) (by decide) rfl T.m_qg T.F_qg.kp T.B_qg (z02 (z01 4) z08)) (z02 (z0e g (zol T) (by decide) rfl T.m_qa T.F_qa.kp T.B_qa (z02 (z01 3) z08)) z08))))) (z6w (t_ne g (z01 4) (z01 3))))) (z0d (z0q z1w)) z15) (z0d (z1o (t_lt (zm1 g.calm rfl T.z_sum (z02 (z01 3) z08)) z04) (z0a (z1o (t_ne g (z0e g (zoj T) (by decide) rfl T.m_qt T.F_qt.kp T.B_qt (z02 (z0e g (zm9 T) (by decide) rfl T.m_qf T.F_qf.kp T.B_qf (z02 (z01 3) (z02 z1w z08))) z08)) (z0e g (zig T) (by decide) rfl T.m_qj T.F_qj.kp T.B_qj (z02 (z01 4) z08))) (z0d (z0q z1w)) z15) (z0d (z1o (t_ne g (z0e g (zoa T) (by decide) rfl T.m_qb T.F_qb.kp T.B_qb (z02 (z0e g (zm9 T) (by decide) rfl T.m_qf T.F_qf.kp T.B_qf (z02 (z01 3) (z02 z1w z08))) z08)) (z0e g (zih T) (by decide) rfl T.m_qg T.F_qg.kp T.B_qg (z02 (z01 4) z08))) (z0d (z0q z1w)) z15))) z15)))))) (z0a (z0t (i := 5) nd24 rfl (by first | exact Or.inl rfl | exact Or.inr rfl) (z0e g (zoc T) (by decide) rfl T.m_qd T.F_qd.kp T.B_qd (z02 (z01 2) z08))) (z0a (z1o (t_ne g (zlj (Nl := ["_law_bad"]) (caps := [5]) (me := z6h) (os := z03 s_qv) (oN := ["_law_script","_law_k","_law_state_here","_law_sizes_here","_law_handed","_law_bad"]) g (j := 6 + 2) (by decide) (fun _ => rfl) (fun base _ _ => zmc (k := 6) T ⟨rfl,rfl,rfl,by decide +kernel,by decide +kernel,by decide +kernel⟩ (fun _ _ _ _ => rfl) (fun f cdv cl Ar outer s H E₀ E g => (z0e g (zig T) (by decide) rfl T.m_qj T.F_qj.kp T.B_qj (z02 (z01 0) z08)))) rfl T.m_qi T.F_qi.kp T.B_qi rfl T.lq T.tab (hcd.symm.trans T.code) hC hB ⟨rfl,rfl,rfl,by decide +kernel,by decide +kernel,by decide +kernel⟩ rfl rfl (by decide +kernel) rfl (by decide +kernel)) (z0l (z02 z04 z08))) (z0d (z0q z1w)) z15) (z0d (z1o (t_ne g (zlj (Nl := ["_law_bad"]) (caps := [5]) (me := z6i) (os := z03 s_qv) (oN := ["_law_script","_law_k","_law_state_here","_law_sizes_here","_law_handed","_law_bad"]) g (j := 6 + 2) (by decide) (fun _ => rfl) (fun base _ _ => zmc (k := 6) T ⟨rfl,rfl,rfl,by decide +kernel,by decide +kernel,by decide +kernel⟩ (fun _ _ _ _ => rfl) (fun f cdv cl Ar outer s H E₀ E g => (z0e g (zih T) (by decide) rfl T.m_qg T.F_qg.kp T.B_qg (z02 (z01 0) z08)))) rfl T.m_qi T.F_qi.kp T.B_qi rfl T.lq T.tab (hcd.symm.trans T.code) hC hB ⟨rfl,rfl,rfl,by decide +kernel,by decide +kernel,by decide +kernel⟩ rfl rfl (by decide +kernel) rfl (by decide +kernel)) (z0l (z02 z04 z08))) (z0d (z0q z1w)) z15))))))) (z0d (z0q z1w)))
end
theorem z6j : UpF F_qu := u_fn (z77 (zfo (u_m1 z1i (z0s 0)) (u_m1 zi0 (u_m1 z1i (z0s 0)))))
theorem z4y : UpF F_qk := u_fn (z77 (u_m1 z92 (u_m2 ze3 (u_m1 z92 (z0s 0)) (z0s 1))))
theorem z2j : UpF F_ql := u_fn (z3x (u_if (u_or (zbq (z9u (u_m1 z1i (z0s 0)))) (zbq (u_B (zhw zlp zlp u_c (z1u (z6a z4r) (z0c (z0s 0) z0y)) u_c)))) (zbt (z0c u_c z0y)) z76) (u_if (zbq (z9u (u_L zlt (zft (znh zi1 (z0s 0)) (z2u 0) zln (zfs (zfo (z1u z6j (z0c (z0s 0) z0y)) (u_m2 znf (z0s 0) u_c))))))) (zbt (z0c u_c z0y)) z76))
theorem z3y : UpF F_qj := u_fn (z3x (zbr (z1u z2j (z0c (z0s 0) z0y))) (z77 (u_m2 zfp (z1u (z6a znk) (z0c (z0s 0) z0y)) u_c)))
theorem z3o : UpF F_qg := u_fn (z3x (zbr (z1u z2j (z0c (z0s 0) z0y))) (z3x (u_if (u_B (u_m2 zlu (z1u (z6a z4r) (z0c (z0s 0) z0y)) u_c)) (z77 u_c) z76) (z77 (z1u z4y (z0c (u_m2 zfp (z1u (z6a zm2) (z0c (zib (z1u (z6a zi6) (z0c (z0s 0) z0y)) (u_bd (u_m1 z92 u_c)) znm) z0y)) u_c) (z0c u_c z0y))))))
theorem z1y : UpS z87 := (z3x (z9v (z29 (z0c (u_m1 z1i (z0s 1)) (z0c (u_m1 z1i (z0s 1)) (z0c (u_m1 z1i (z0s 1)) z0y)))) (z2u 3)) (z3x (z9v (u_m2 z6f (z0s 3) (z29 (z0c (u_m1 z1i (z0s 1)) (z0c (u_m1 z1i (z0s 1)) (z0c (u_m1 z1i (z0s 1)) z0y))))) (z2u 3)) (z3x (z9v (u_m2 z6f (z0s 3) (z29 (z0c (u_m1 z1i (z0s 1)) (z0c (u_m1 z1i (z0s 1)) (z0c (u_m1 z1i (z0s 1)) z0y))))) (z2u 3)) (z3x (z9v (u_m2 z6f (z0s 3) (z29 (z0c (u_m1 z1i (z0s 1)) (z0c (u_m1 z1i (z0s 1)) (z0c (u_m1 z1i (z0s 1)) z0y))))) (z2u 3)) (z3x (z9v (u_m2 z6f (z0s 3) (z29 (z0c (u_m1 z1i (z0s 1)) (z0c (u_m1 z1i (z0s 1)) z0y)))) (z2u 3)) (z3x (u_if (zbq (z9u (u_m1 z1i (z0s 1)))) (z77 u_c) z76) (z77 (u_al (zft (zi2 z85 (z0c u_c z0y)) (z2u 0) (z9u (u_m2 z5o (z0s 1) (z0s 0))) (zfs (z0s 0)))))))))))
theorem z9w : UpE z6h := (z1u z3y (z0c (z0s 0) z0y))
theorem z9x : UpE z6i := (z1u z3o (z0c (z0s 0) z0y))
theorem z96 (H : Hs) (n : Nat) (a : Int) (b : Bool) (m : Int) (h0 : 0 < m) (h1 : m < 18446744073709551616) (e : getL H n = some [.int a,.bl b]) :
    ∃ r a',0 ≤ r∧r < m∧F_qq [.ref n,.int m] H = .ok (.int r) (H.set n (.lst [.int a',.bl b])):= by
  cases b with
  | true =>
    refine ⟨a % m,a / m,Int.emod_nonneg _ (by omega),Int.emod_lt_of_pos _ h0, ?_⟩
    simp [F_qq,ze7,z0x,z0o,mSeq,mIf,mTru,m2,mVar,mC,ix0,z1g,ixD,e,atL,atI,ixN,truD,mAsg,modD,iOpC,modB,h0,z06,z24,z4w,divW,h1,setD,mRet,z1c]
  | false =>
    have q1 : ∀ ys,getL (H.set n (.lst ys)) n = some ys:= fun ys => z18 e
    generalize hs : (a * 48271 + 29) % 2147483647 = s
    have s0 : 0 ≤ s := by omega
    have s1 : s < 2147483647 := by omega
    generalize ht : (s * s + 39373 * s + 7) % 2147483629 = t
    have t0 : 0 ≤ t := by omega
    have t1 : t < 2147483629 := by omega
    generalize hu : (t * t + 16807 * t) % 2147483587 = u
    refine ⟨u / 8 % m,s,Int.emod_nonneg _ (by omega),Int.emod_lt_of_pos _ h0, ?_⟩
    have w1 : inW s = true := by simp [inW]; omega
    have w2 : inW t = true := by simp [inW]; omega
    have w3 : inW 48271 = true := by decide
    have w4 : inW 39373 = true := by decide
    have w5 : inW 16807 = true := by decide
    simp [F_qq,ze7,z0x,z0o,mSeq,mIf,mTru,m2,mVar,mC,ix0,z1g,ixD,e,atL,atI,ixN,truD,mAsg,modD,iOpC,modB,h0,z06,z24,z4w,divW,h1,setD,mRet,z1c,z0p,addE,addD,mulD,mulB,w1,w2,w3,w4,w5,q1,hs,ht,hu]
def St (n : Nat) (H : Hs) : Prop := ∃ a b,getL H n = some [.int a,.bl b]
theorem St.fr {n : Nat} {S : List Nat} {H H' : Hs} (s : St n H) (f : Fr S H H') (h : n ∉ S) : St n H' := let ⟨a,b,e⟩ := s; ⟨a,b,f.getL e h⟩
theorem zik {H : Hs} {n : Nat} (m : Int) (s : St n H) (h0 : 0 < m := by decide) (h1 : m < 18446744073709551616 := by decide) :
    ∃ r H',0 ≤ r∧r < m∧F_qq [.ref n,.int m] H = .ok (.int r) H'∧Fr [n] H H'∧St n H':= by
  obtain ⟨a,b,e⟩ := s
  obtain ⟨r,a',r0,r1,ht⟩ := z96 H n a b m h0 h1 e
  exact ⟨r,_,r0,r1,ht,Fr.set,a',b,z18 e⟩
theorem z2k {ρ : Ev} {i n : Nat} {H : Hs} (m : Int) (s : St n H) (hρ : ρ[i]? = some (some (.ref n))) (h0 : 0 < m := by decide) (h1 : m < 18446744073709551616 := by decide) :
    ∃ r H',0 ≤ r∧r < m∧z05 F_qq (z00 (mVar i) (z00 (mC (.int m)) mNil)) ρ H = .ok (.int r) H'∧Fr [n] H H'∧St n H':= by
  obtain ⟨r,H',r0,r1,ht,f,s'⟩ := zik m s h0 h1
  refine ⟨r,H',r0,r1, ?_,f,s'⟩
  simp [z05,z00,mVar,hρ,mC,mNil,ht]
theorem zeg (scr : List Int) (k : Nat) (h : Hs) : ∃ H',F_qn scr [.scr,.int k] h = .ok (.ref h.length) H'∧Fr [] h H'∧St h.length H':= by
  have cell : ∃ c,F_qh scr [.scr,.int k] h = .ok (.int c) h:= by
    by_cases hk : k < scr.length
    · refine ⟨scr[k], ?_⟩
      have hk' : (k : Int) < scr.length := by omega
      simp [F_qh,ze9,z0x,z0o,mSeq,mIf,mB,m2,mVar,mC,ltD,iOp,z05,f1,lenD,seqD,z00,mNil,asB,hk',hk,ixD,atL,atI,ixN,mRet,z1c]
    · refine ⟨0, ?_⟩
      have hk' : ¬ (k : Int) < scr.length := by omega
      simp [F_qh,ze9,z0x,z0o,mSeq,mIf,mB,m2,mVar,mC,ltD,iOp,z05,f1,lenD,seqD,z00,mNil,asB,hk',hk,ixD,atL,atI,ixN,mRet,z1c,z0p]
  obtain ⟨c,hc⟩ := cell
  have fin : ∀ a b,Fr [] h (h ++ [Ob.lst [.int a,.bl b]])∧St h.length (h ++ [Ob.lst [.int a,.bl b]]):= fun a b => ⟨Fr.app,a,b,by rw [zbo]; rfl⟩
  by_cases hg : c ≥ 1000000000000000000
  · refine ⟨_, ?_,fin (c - 1000000000000000000) true⟩
    simp [F_qn,zea,z0x,z0o,mSeq,mAsg,z05,z00,mVar,mNil,hc,z06,mIf,mB,m2,geD,iOp,powD,iOpC,powB,mC,asB,hg,mRet,mLst,subD,lim,z1c]
  · refine ⟨_, ?_,fin (c % 2147483647) false⟩
    simp [F_qn,zea,z0x,z0o,mSeq,mAsg,z05,z00,mVar,mNil,hc,z06,mIf,mB,m2,geD,iOp,powD,iOpC,powB,mC,asB,hg,mRet,mLst,subD,lim,z1c,z0p,modD,modB]
structure OkN (ns : List Int) : Prop where
  l1 : 1 ≤ ns.length
  l6 : ns.length ≤ 6
  pos : ∀ n ∈ ns,1 ≤ n
def nums (k : Nat) : List Int→List Dv
  | [] => []
  | n :: ns => List.replicate n.toNat (.int k) ++ nums (k + 1) ns
theorem zc9 : ∀ (ns : List Int),(∀ n ∈ ns,1 ≤ n)→0 ≤ ns.sum
  | [],h => by simp
  | n :: ns,h => by
    have h1 := h n (by simp)
    have h2 := zc9 ns fun m hm => h m (by simp [hm])
    simp; omega
theorem zfz : ∀ (ns : List Int),(∀ n ∈ ns,1 ≤ n)→∀ n ∈ ns,n ≤ ns.sum
  | [],h,n,hn => by simp at hn
  | a :: ns,h,n,hn => by
    have h1 := h a (by simp)
    have h2 := zc9 ns fun m hm => h m (by simp [hm])
    have h3 := zfz ns fun m hm => h m (by simp [hm])
    simp at hn ⊢
    rcases hn with rfl | hn
    · omega
    · have := h3 n hn; omega
theorem z3b : ∀ ns : List Int,optL intD (ns.map Dv.int) = some ns
  | [] => rfl
  | n :: ns => by simp [optL,intD,z3b ns]
theorem z7a : ∀ f : Nat,optL blD (List.replicate f (Dv.bl true)) = some (List.replicate f true)
  | 0 => rfl
  | f + 1 => by simp [List.replicate_succ,optL,blD,z7a f]
section
variable {ns : List Int} {H : Hs} {j : Nat}
theorem zeh (n : Int) : F_qu [.int n] H = .ok (.bl true) H:= by
  simp [F_qu,zic,z0x,z0o,mRet,z62,m1,mVar,isiD,tyD,z8x,z2z,notD,z1c]
theorem z97 (e : getL H j = some (ns.map Dv.int)) (hp : ∀ n ∈ ns,1 ≤ n) : ∀ (f k : Nat) (x : Option Dv) (acc : List Dv),f + k = ns.length→acc.length + f ≤ 6 →
    ∃ y,z1v (srcR j ns.length) (z06 0) z4l (z1t (z62 (z05 F_qu (z00 (mVar 0) mNil)) (m2 geD (mVar 0) (mC (.int 1))))) f k [x] H acc = .ok ([y],acc ++ List.replicate f (.bl true)) H
  | 0,k,x,acc,h,ha => ⟨x,by simp [z1v,srcR,e]⟩
  | f + 1,k,x,acc,h,ha => by
    have hk : k < ns.length := by omega
    have hn := hp ns[k] (List.getElem_mem hk)
    obtain ⟨y,hy⟩ := z97 e hp f (k + 1) (some (.int ns[k])) (acc ++ [.bl true]) (by omega) (by simp; omega)
    refine ⟨y, ?_⟩
    rw [show acc ++ List.replicate (f + 1) (Dv.bl true) = (acc ++ [.bl true]) ++ List.replicate f (.bl true) by simp [List.replicate_succ],← hy]
    have hl : acc.length < 1000000 := by omega
    rw [z1v]
    simp [srcR,e,hk,z06,z4l,z1t,z62,z05,z00,mNil,mVar,zeh,m2,geD,iOp,mC,hn,hl]
theorem zca (o : OkN ns) (e : getL H j = some (ns.map Dv.int)) : F_ql [.ref j] H = .ok .non H:= by
  obtain ⟨y,hy⟩ := z97 e o.pos ns.length 0 none [] (by omega) (by simpa using o.l6)
  have h1 : (1 : Int) ≤ ns.length := by have := o.l1; omega
  have h6 : (ns.length : Int) ≤ 6 := by have := o.l6; omega
  simp [F_ql,zie,z0x,z0o,mSeq,mIf,mOr,mNot,mTru,m1,isiD,mVar,tyD,e,z5m,truD,mB,z5e,mC,z05,f1,len0,z1g,lenD,seqD,z00,mNil,leD,iOp,h1,h6,asB,z0p,mL,z27,m1s,lstD,z2q,z1c]
  simp only [srcR] at hy ⊢
  simp [hy,allF,z7a,z1c,truD]
theorem zg0 (e : getL H j = some (ns.map Dv.int)) : sumD (.ref j) H = .ok (.int ns.sum) H := by simp [sumD,e,z3b]
theorem z7b (hp : ∀ n ∈ ns,1 ≤ n) (h6 : ∀ n ∈ ns,n ≤ 6) : ∀ (f k : Nat) (x : Option Dv) (acc : List Dv) (B : Hs),f + k = ns.length→acc.length + 6 * f ≤ 1000→getL (B ++ [.lst acc]) j = some (ns.map Dv.int)→j < B.length →
    ∃ ρ2 B',forM (z0m 0 ns.length) (z06 2) (mAsg (m2 addE (mVar 1) (m2 repD (mLst (z00 (mVar 2) mNil)) (m2 ix0 (mVar 0) (mVar 2)))) (z06 1)) f k [some (.ref j),some (.ref B.length),x] (B ++ [.lst acc]) =
      .nx [some (.ref j),some (.ref B'.length),ρ2] (B' ++ [.lst (acc ++ nums k (ns.drop k))])∧Fr [] B B'
  | 0,k,x,acc,B,h,ha,e,hj => by
    have : ns.drop k = [] := List.drop_eq_nil_of_le (by omega)
    exact ⟨x,B,by simp [forM,z0m,this,nums],Fr.refl⟩
  | f + 1,k,x,acc,B,h,ha,e,hj => by
    have hk : k < ns.length := by omega
    have hn := hp ns[k] (List.getElem_mem hk)
    have hn6 := h6 ns[k] (List.getElem_mem hk)
    have e1 : getL (B ++ [.lst acc] ++ [.lst [.int k]]) j = some (ns.map Dv.int) := z0n e
    have e2 : getL ((B ++ [.lst acc] ++ [.lst [.int k]]) ++ [.lst (List.replicate ns[k].toNat (Dv.int k))]) j = some (ns.map Dv.int) := z0n e1
    obtain ⟨ρ2,B',hb,fb⟩ := z7b hp h6 f (k + 1) (some (.int k)) (acc ++ List.replicate ns[k].toNat (.int k)) (((B ++ [.lst acc]) ++ [.lst [.int k]]) ++ [.lst (List.replicate ns[k].toNat (Dv.int k))]) (by omega) (by simp; omega) (z0n e2) (by simp; omega)
    refine ⟨ρ2,B', ?_,Fr.trans (Fr.trans (Fr.trans (Fr.app (l := [.lst acc])) Fr.app (by simp) (T := [])) (Fr.app (S := [])) (by simp)) fb (by simp)⟩
    rw [List.drop_eq_getElem_cons hk,nums,← List.append_assoc,← hb,forM]
    have hw : inW ns[k] = true := by simp [inW]; omega
    have c1 : ns[k] < 9223372036854775808 := by omega
    have c2 : -9223372036854775808 ≤ ns[k] := by omega
    have c3 : ns[k].toNat ≤ 1000000 := by omega
    have c4 : acc.length + ns[k].toNat ≤ 1000000 := by omega
    have ix : ixN ns.length (k : Int) = some k := by simp [ixN]; omega
    have g1 : getL (B ++ [.lst acc,.lst [.int k],.lst (List.replicate ns[k].toNat (Dv.int k))]) B.length = some acc := by simp [getL]
    have g2 : getL (B ++ [.lst acc,.lst [.int k],.lst (List.replicate ns[k].toNat (Dv.int k))]) (B.length + 2) = some (List.replicate ns[k].toNat (Dv.int k)) := by simp [getL]
    have g3 : getL (B ++ [.lst acc,.lst [.int k]]) (B.length + 1) = some [.int k] := by simp [getL]
    have g4 : getL (B ++ [.lst acc,.lst [.int k]]) j = some (ns.map Dv.int) := by simpa using e1
    simp [z0m,z06,mAsg,m2,mVar,mLst,z00,mNil,lim,ix0,z1g,ixD,g4,atL,atI,ix,hk,repD,g3,hw,c1,c2,c3,addE,addD,g1,g2,c4]
theorem zil {m : Nat} (h : m ≤ 6) : inR (m : Int) = true:= by
  have h1 : (-4611686018427387904 : Int) ≤ m := by omega
  have h2 : (m : Int) < 4611686018427387904 := by omega
  unfold inR
  rw [decide_eq_true h1,decide_eq_true h2]; rfl
theorem zcb {m : Int} (hr : inR m = true) : z0w [.int m] H = .ok (z0m 0 m) H := by simp [z0w,hr]
theorem zim (o : OkN ns) (hs : ns.sum ≤ 6) (e : getL H j = some (ns.map Dv.int)) : ∃ B,F_qe [.ref j] H = .ok (.ref B.length) (B ++ [.lst (nums 0 ns)])∧Fr [] H B:= by
  obtain ⟨x,B,hb,fb⟩ := z7b o.pos (fun n hn => Int.le_trans (zfz ns o.pos n hn) hs) ns.length 0 none [] H (by omega) (by have := o.l6; simp; omega) (z0n e) (z20 e)
  refine ⟨B, ?_,fb⟩
  have hr := zil o.l6
  have e1 : getL (H ++ [.lst []]) j = some (ns.map Dv.int) := z0n e
  have nn : (z0m 0 (ns.length : Int)).n = ns.length := by simp [z0m]
  have s1 : mAsg (mLst mNil) (z06 1) [some (.ref j),none,none] H = .nx [some (.ref j),some (.ref H.length),none] (H ++ [.lst []]) := rfl
  have s2 : mas z0w (z00 (z05 (f1 len0) (z00 (mVar 0) mNil)) mNil) [some (.ref j),some (.ref H.length),none] (H ++ [.lst []]) = .ok (z0m 0 (ns.length : Int)) (H ++ [.lst []]):= by
    rw [← zcb hr]
    have q : f1 len0 [.ref j] (H ++ [.lst []]) = .ok (.int ns.length) (H ++ [.lst []]):= by
      rw [show f1 len0 [.ref j] (H ++ [.lst []]) = lenD [] (.ref j) (H ++ [.lst []]) from rfl]
      simp [lenD,seqD,e1]
    show ((f1 len0 [.ref j] (H ++ [.lst []])).bind fun d h1 => Rs.ok [d] h1).bind z0w = _
    rw [q,Rs.bind_ok,Rs.bind_ok]
  have s3 : zc6 [some (.ref j),none,none] H = .rt (.ref B.length) (B ++ [.lst (nums 0 ns)]):= by
    unfold zc6
    rw [z0f s1,z0f (by rw [z3u s2,nn]; exact hb)]
    rfl
  show z1c (zc6 [some (.ref j),none,none] H) = _
  rw [s3]; rfl
end
def ordD (n : Nat) (ps : List (Int × Int)) : Dv := .tup [.int n,.tup (ps.map prD)]
def z2v (ps : List (Int × Int)) (a : Nat) : Nat→List (Int × Int)
  | 0 => []
  | k + 1 => z2v ps a k ++ if ((a : Int),(a : Int) + 1 + (k : Int)) ∈ ps ∨ ((a : Int) + 1 + (k : Int),(a : Int)) ∈ ps then [] else [((a : Int),(a : Int) + 1 + (k : Int))]
def z2w (n : Nat) (ps : List (Int × Int)) : Nat→List (Int × Int)
  | 0 => []
  | k + 1 => z2w n ps k ++ z2v ps k (n - (k + 1))
def z2r (n : Nat) (ps : List (Int × Int)) : List (Int × Int) := z2w n ps n
theorem z3p (ps : List (Int × Int)) (a : Nat) : ∀ k,(z2v ps a k).length ≤ k
  | 0 => Nat.le_refl _
  | k + 1 => by
    have := z3p ps a k
    unfold z2v
    split <;> simp <;> omega
theorem z3q (n : Nat) (ps : List (Int × Int)) : ∀ k,(z2w n ps k).length ≤ k * n
  | 0 => by simp [z2w]
  | k + 1 => by
    have h1 := z3q n ps k
    have h2 := z3p ps k (n - (k + 1))
    unfold z2w
    rw [List.length_append,Nat.succ_mul]
    omega
theorem z2l {m : Int} (h0 : 0 ≤ m) (h : m ≤ 100) : inR m = true := by simp [inR]; omega
section
variable {n : Nat} {ps : List (Int × Int)} {i : Nat}
def z7c : MS := mIf (mAnd (mB (m2 (in0 true) (mTup (z00 (mVar 2) (z00 (mVar 3) mNil))) (m2 ix0 (mVar 0) (mC (.int 1))))) (mB (m2 (in0 true) (mTup (z00 (mVar 3) (z00 (mVar 2) mNil))) (m2 ix0 (mVar 0) (mC (.int 1)))))) (z1m (mApp (mVar 1) (mTup (z00 (mVar 2) (z00 (mVar 3) mNil))))) z0p
theorem ord0 (H : Hs) : ix0 (ordD n ps) (.int 0) H = .ok (.int n) H := rfl
theorem ord1 (H : Hs) : ix0 (ordD n ps) (.int 1) H = .ok (.tup (ps.map prD)) H := rfl
theorem zei {H : Hs} {a b : Int} {acc : List (Int × Int)} (e : getL H i = some (acc.map prD)) (hl : acc.length < 1000) :
    z7c [some (ordD n ps),some (.ref i),some (.int a),some (.int b)] H = .nx [some (ordD n ps),some (.ref i),some (.int a),some (.int b)] (H.set i (.lst ((acc ++ if (a,b) ∈ ps ∨ (b,a) ∈ ps then [] else [(a,b)]).map prD))):= by
  have self : H.set i (.lst (acc.map prD)) = H:= by
    apply List.ext_getElem?
    intro k
    by_cases hk : i = k
    · subst hk; rw [List.getElem?_set_self (z20 e),z0h e]
    · rw [List.getElem?_set_ne hk]
  have t1 : ∀ (x y : Int),mB (m2 (in0 true) (fun _ h => .ok (prD (x,y)) h) (fun _ h => .ok (.tup (ps.map prD)) h)) [] H = .ok (!decide ((x,y) ∈ ps)) H:= fun x y => by
    simp [mB,m2,z5p,asB]
  have hl' : acc.length < 1000000 := by omega
  by_cases h1 : (a,b) ∈ ps
  · simp [z7c,mIf,mAnd,mB,m2,mTup,z00,mVar,mNil,lim,mC,ord1]
    rw [show Dv.tup [.int a,.int b] = prD (a,b) from rfl,z5p]
    simp [h1,asB,z0p,self]
  · by_cases h2 : (b,a) ∈ ps
    · simp [z7c,mIf,mAnd,mB,m2,mTup,z00,mVar,mNil,lim,mC,ord1]
      rw [show Dv.tup [.int a,.int b] = prD (a,b) from rfl,show Dv.tup [.int b,.int a] = prD (b,a) from rfl,z5p]
      simp [h1,asB,z5p,h2,z0p,self]
    · simp [z7c,mIf,mAnd,mB,m2,mTup,z00,mVar,mNil,lim,mC,ord1]
      rw [show Dv.tup [.int a,.int b] = prD (a,b) from rfl,show Dv.tup [.int b,.int a] = prD (b,a) from rfl,z5p]
      simp only [h1,Rs.bind_ok,asB,z5p]
      simp [h2,h1,z1m,mApp,mVar,isL,e,mTup,z00,mNil,lim,appD,hl']
      rfl
theorem zin {H : Hs} {i j : Int} (h1 : inR i = true) (h2 : inR j = true) : z64 [.int i,.int j] H = .ok (z0m i j) H := by simp [z64,h1,h2]
theorem z88 {H : Hs} {j : Int} (h2 : inR j = true) : z0w [.int j] H = .ok (z0m 0 j) H := by simp [z0w,h2]
theorem zej {a : Nat} {x3 : Option Dv} {H : Hs} {acc : List (Int × Int)} (hn : n ≤ 10) (ha : a < n) (hl : acc.length ≤ 200) (e : getL H i = some (acc.map prD)) :
    ∃ y3,mFor (mas z64 (z00 (m2 addE (mVar 2) (mC (.int 1))) (z00 (m2 ix0 (mVar 0) (mC (.int 0))) mNil))) (z06 3) z7c [some (ordD n ps),some (.ref i),some (.int a),x3] H =
      .nx [some (ordD n ps),some (.ref i),some (.int a),y3] (H.set i (.lst ((acc ++ z2v ps a (n - (a + 1))).map prD))):= by
  have hi : mas z64 (z00 (m2 addE (mVar 2) (mC (.int 1))) (z00 (m2 ix0 (mVar 0) (mC (.int 0))) mNil)) [some (ordD n ps),some (.ref i),some (.int a),x3] H = .ok (z0m ((a : Int) + 1) n) H:= by
    have q : z00 (m2 addE (mVar 2) (mC (.int 1))) (z00 (m2 ix0 (mVar 0) (mC (.int 0))) mNil) [some (ordD n ps),some (.ref i),some (.int a),x3] H = .ok [.int ((a : Int) + 1),.int n] H := rfl
    unfold mas
    rw [q,Rs.bind_ok]
    exact zin (z2l (m := (a : Int) + 1) (by omega) (by omega)) (z2l (m := (n : Int)) (by omega) (by omega))
  have hN : (z0m ((a : Int) + 1) n).n = n - (a + 1):= by
    show ((n : Int) - ((a : Int) + 1)).toNat = _
    omega
  obtain ⟨ρ',H',h1,y3,h2,h3⟩ := z21 (b := z7c) (sg := z06 3) hi (fun k ρ H' => ∃ y3,ρ = [some (ordD n ps),some (.ref i),some (.int a),y3]∧H' = H.set i (.lst ((acc ++ z2v ps a k).map prD)))
    (fun k ρ H' hk ⟨y3,e1,e2⟩ => by
      subst e1; subst e2
      have e' : getL (H.set i (.lst ((acc ++ z2v ps a k).map prD))) i = some ((acc ++ z2v ps a k).map prD) := z18 e
      refine ⟨.int ((a : Int) + 1 + (k : Int)),_,_,_,rfl,rfl,zei e' (by have := z3p ps a k; rw [List.length_append]; omega),_,rfl, ?_⟩
      rw [List.set_set,z2v,List.append_assoc]) (fun _ _ _ => rfl) ⟨x3,rfl,by
      have self : H.set i (.lst (acc.map prD)) = H:= by
        apply List.ext_getElem?
        intro k
        by_cases hk : i = k
        · subst hk; rw [List.getElem?_set_self (z20 e),z0h e]
        · rw [List.getElem?_set_ne hk]
      rw [z2v,List.append_nil,self]⟩
  rw [hN] at h3
  exact ⟨y3,by rw [h1,h2,h3]⟩
theorem z98 {H : Hs} (hn : n ≤ 10) : F_qm [ordD n ps] H = .ok (.ref H.length) (H ++ [.lst ((z2r n ps).map prD)]):= by
  have e0 : getL (H ++ [.lst []]) H.length = some (([] : List (Int × Int)).map prD) := by simp [getL]
  have w0 : mAsg (mLst mNil) (z06 1) [some (ordD n ps),none,none,none] H = .nx [some (ordD n ps),some (.ref H.length),none,none] (H ++ [.lst []]) := rfl
  have hi : mas z0w (z00 (m2 ix0 (mVar 0) (mC (.int 0))) mNil) [some (ordD n ps),some (.ref H.length),none,none] (H ++ [.lst []]) = .ok (z0m 0 n) (H ++ [.lst []]):= by
    have q : z00 (m2 ix0 (mVar 0) (mC (.int 0))) mNil [some (ordD n ps),some (.ref H.length),none,none] (H ++ [.lst []]) = .ok [.int n] (H ++ [.lst []]) := rfl
    unfold mas
    rw [q,Rs.bind_ok]
    exact z88 (z2l (m := (n : Int)) (by omega) (by omega))
  have hN : (z0m 0 (n : Int)).n = n := by simp [z0m]
  obtain ⟨ρ',H',h1,y2,y3,h2,h3⟩ := z21 (b := mFor (mas z64 (z00 (m2 addE (mVar 2) (mC (.int 1))) (z00 (m2 ix0 (mVar 0) (mC (.int 0))) mNil))) (z06 3) z7c) (sg := z06 2) hi
    (fun k ρ H' => ∃ y2 y3,ρ = [some (ordD n ps),some (.ref H.length),y2,y3]∧H' = H ++ [.lst ((z2w n ps k).map prD)])
    (fun k ρ H' hk ⟨y2,y3,e1,e2⟩ => by
      subst e1; subst e2
      rw [hN] at hk
      have e' : getL (H ++ [.lst ((z2w n ps k).map prD)]) H.length = some ((z2w n ps k).map prD) := by simp [getL]
      have hb : (z2w n ps k).length ≤ 200:= by
        have h1 := z3q n ps k
        have h2 : k * n ≤ 10 * 10 := Nat.mul_le_mul (by omega) hn
        omega
      obtain ⟨z3,hz⟩ := zej (x3 := y3) (ps := ps) hn hk hb e'
      refine ⟨.int (0 + (k : Int)),[some (ordD n ps),some (.ref H.length),some (.int (k : Int)),y3],_,_,rfl,by simp [z06],hz,_,_,rfl, ?_⟩
      rw [zdu,z2w]; rfl) (fun _ _ _ => rfl) ⟨none,none,rfl,rfl⟩
  rw [hN] at h3
  show z1c (ze8 [some (ordD n ps),none,none,none] H) = _
  have z : ze8 [some (ordD n ps),none,none,none] H = .rt (.ref H.length) (H ++ [.lst ((z2r n ps).map prD)]):= by
    show mSeq (mAsg (mLst mNil) (z06 1)) (mSeq (mFor (mas z0w (z00 (m2 ix0 (mVar 0) (mC (.int 0))) mNil)) (z06 2) (mFor (mas z64 (z00 (m2 addE (mVar 2) (mC (.int 1))) (z00 (m2 ix0 (mVar 0) (mC (.int 0))) mNil))) (z06 3) z7c)) (mRet (mVar 1))) _ _ = _
    rw [z0f w0,z0f h1,h2,h3]
    rfl
  rw [z]; rfl
end
def rowD (r : List Int) : Dv := .tup (r.map Dv.int)
def z2a (ps : List (Int × Int)) (r : List Int) (x : Int) : List Int := (ps.filter fun p => decide (p.2 = x) && !decide (p.1 ∈ r)).map (·.1)
theorem zg1 {H : Hs} {q : Nat} {ks : List Int} (e : getL H q = some (ks.map Dv.int)) : eqD (.ref q) (.ref H.length) (H ++ [.lst []]) = .ok (.bl ks.isEmpty) (H ++ [.lst []]):= by
  have p1 : pur z16 (H ++ [.lst []]) (.ref q) = some (.lst (ks.map Dt.int)):= by
    show pur (28 + 1 + 1) (H ++ [.lst []]) (.ref q) = _
    rw [pur]
    simp only [z0n (l := [.lst []]) e,z3a]
  have p2 : pur z16 (H ++ [.lst []]) (.ref H.length) = some (.lst []):= by
    show pur (28 + 1 + 1) (H ++ [.lst []]) (.ref H.length) = _
    rw [pur]
    have : getL (H ++ [.lst []]) H.length = some [] := by simp [getL]
    simp only [this]; rfl
  unfold eqD
  rw [p1,p2]
  cases ks <;> simp [deq,deqL]
theorem zmd {t u : M Bool} {ρ : Ev} {h h1 : Hs} (e : t ρ h = .ok true h1) : mAnd t u ρ h = u ρ h1 := by unfold mAnd; rw [e]; rfl
theorem zoo {t u : M Bool} {ρ : Ev} {h h1 : Hs} (e : t ρ h = .ok false h1) : mAnd t u ρ h = .ok false h1 := by unfold mAnd; rw [e]; rfl
section
variable {n : Nat} {ps : List (Int × Int)} {i : Nat}
theorem z9y (r : List Int) (x : Int) {k : Nat} (hk : k < ps.length) : z2a (ps.take (k + 1)) r x = z2a (ps.take k) r x ++ if ps[k].2 = x∧ps[k].1 ∉ r then [ps[k].1] else []:= by
  unfold z2a
  rw [List.take_succ_eq_append_getElem hk,List.filter_append,List.map_append]
  congr 1
  by_cases h1 : ps[k].2 = x <;> by_cases h2 : ps[k].1 ∈ r <;> simp [h1,h2]
theorem zek {H : Hs} {f tn lg y6 : Option Dv} {r : List Int} {x : Int} (hl : ps.length ≤ 1000) :
    z27 (m1s tupS (m2 ix0 (mVar 0) (mC (.int 1)))) [none,none,some 5,some 4] (sTup 2 (z1e (z06 0) (z1e (z06 1) sNil))) (mAnd (mB (m2 eqD (mVar 1) (mVar 2))) (mB (m2 (in0 true) (mVar 0) (mVar 3)))) (z1t (mVar 0))
      [some (ordD n ps),f,tn,lg,some (rowD r),some (.int x),y6] H = .ok ((z2a ps r x).map Dv.int) H:= by
  have hi : m1s tupS (m2 ix0 (mVar 0) (mC (.int 1))) [some (ordD n ps),f,tn,lg,some (rowD r),some (.int x),y6] H = .ok (srcL (ps.map prD)) H := rfl
  have hn : (srcL (ps.map prD)).n = ps.length := by simp [srcL]
  obtain ⟨ρ',H',acc',h1,a,b,h2,h3,h4⟩ := z46 (src := srcL (ps.map prD)) (sg := sTup 2 (z1e (z06 0) (z1e (z06 1) sNil))) (t := mAnd (mB (m2 eqD (mVar 1) (mVar 2))) (mB (m2 (in0 true) (mVar 0) (mVar 3)))) (m := z1t (mVar 0))
    (fun k ρ H' acc => ∃ a b,ρ = [a,b,some (.int x),some (rowD r)]∧H' = H∧acc = (z2a (ps.take k) r x).map Dv.int)
    (fun k ρ H' acc hk ⟨a,b,e1,e2,e3⟩ => by
      subst e1; subst e2; subst e3
      rw [hn] at hk
      have hal : (z2a (ps.take k) r x).length ≤ 1000:= by
        unfold z2a
        rw [List.length_map]
        have := List.length_filter_le (fun p : Int × Int => decide (p.2 = x) && !decide (p.1 ∈ r)) (ps.take k)
        rw [List.length_take] at this
        omega
      refine ⟨prD ps[k],[some (.int ps[k].1),some (.int ps[k].2),some (.int x),some (rowD r)],by simp [srcL,hk],rfl, ?_⟩
      have te : mB (m2 eqD (mVar 1) (mVar 2)) [some (.int ps[k].1),some (.int ps[k].2),some (.int x),some (rowD r)] H' = .ok (decide (ps[k].2 = x)) H':= by
        simp [mB,m2,mVar,eqD,z16,pur,deq,asB]
        rw [Bool.eq_iff_iff]; simp
      have ti : mB (m2 (in0 true) (mVar 0) (mVar 3)) [some (.int ps[k].1),some (.int ps[k].2),some (.int x),some (rowD r)] H' = .ok (!decide (ps[k].1 ∈ r)) H':= by
        simp [mB,m2,mVar,rowD,zc4,asB]
      rw [z9y r x hk]
      by_cases c1 : ps[k].2 = x
      · by_cases c2 : ps[k].1 ∈ r
        · exact .inl ⟨H',(zmd (te.trans (by rw [decide_eq_true c1]))).trans (ti.trans (by rw [decide_eq_true c2]; rfl)),_,_,rfl,rfl,by simp [c2]⟩
        · refine .inr ⟨H',[some (.int ps[k].1),some (.int ps[k].2),some (.int x),some (rowD r)],(z2a (ps.take k) r x).map Dv.int ++ [.int ps[k].1],H',(zmd (te.trans (by rw [decide_eq_true c1]))).trans (ti.trans (by rw [decide_eq_false c2]; rfl)), ?_,_,_,rfl,rfl,by simp [c1,c2]⟩
          have : (z2a (ps.take k) r x).length < 1000000 := by omega
          simp [z1t,mVar,this]
      · exact .inl ⟨H',zoo (te.trans (by rw [decide_eq_false c1])),_,_,rfl,rfl,by simp [c1]⟩) (fun _ _ _ _ => rfl) (srcL (ps.map prD)).n 0 [none,none,some (.int x),some (rowD r)] H [] (by omega) ⟨none,none,rfl,rfl,by simp [z2a]⟩
  unfold z27
  rw [hi,Rs.bind_ok]
  have hc : z2q [none,none,some 5,some 4] [some (ordD n ps),f,tn,lg,some (rowD r),some (.int x),y6] = [none,none,some (.int x),some (rowD r)] := rfl
  rw [hc,h1]
  dsimp only
  rw [h3,h4,hn,List.take_length]
def free (ps : List (Int × Int)) (r : List Int) (x : Int) : Bool := !decide (x ∈ r) && (z2a ps r x).isEmpty
def z59 : MS := (mSeq (mAsg (mAl (z27 (m1s tupS (m2 ix0 (mVar 0) (mC (.int 1)))) [none,none,some 5,some 4] (sTup 2 (z1e (z06 0) (z1e (z06 1) sNil))) (mAnd (mB (m2 eqD (mVar 1) (mVar 2))) (mB (m2 (in0 true) (mVar 0) (mVar 3)))) (z1t (mVar 0)))) (z06 6)) (mIf (mAnd (mB (m2 (in0 true) (mVar 5) (mVar 4))) (mB (m2 eqD (mVar 6) (mLst mNil)))) (z1m (mApp (mVar 3) (m2 addE (mVar 4) (mTup (z00 (mVar 5) mNil))))) z0p))
theorem zel {H : Hs} {r : List Int} {x : Int} (hr : r.length ≤ 1000) : addE (rowD r) (.tup [.int x]) H = .ok (rowD (r ++ [x])) H:= by
  cases r with
  | nil => rfl
  | cons a t =>
    have : t.length + 1 + 1 ≤ 1000000 := by simp at hr; omega
    simp [rowD,addE,addD,lim,this]
theorem zem {H : Hs} {f tn y6 : Option Dv} {j : Nat} {r : List Int} {x : Int} {acc : List (List Int)} (hl : ps.length ≤ 1000) (hr : r.length ≤ 1000) (ha : acc.length < 1000000) (e : getL H j = some (acc.map rowD)) :
    ∃ y6' H',z59 [some (ordD n ps),f,tn,some (.ref j),some (rowD r),some (.int x),y6] H = .nx [some (ordD n ps),f,tn,some (.ref j),some (rowD r),some (.int x),y6'] H'∧getL H' j = some ((acc ++ if free ps r x then [r ++ [x]] else []).map rowD)∧Fr [j] H H':= by
  have w1 : mAsg (mAl (z27 (m1s tupS (m2 ix0 (mVar 0) (mC (.int 1)))) [none,none,some 5,some 4] (sTup 2 (z1e (z06 0) (z1e (z06 1) sNil))) (mAnd (mB (m2 eqD (mVar 1) (mVar 2))) (mB (m2 (in0 true) (mVar 0) (mVar 3)))) (z1t (mVar 0)))) (z06 6)
      [some (ordD n ps),f,tn,some (.ref j),some (rowD r),some (.int x),y6] H = .nx [some (ordD n ps),f,tn,some (.ref j),some (rowD r),some (.int x),some (.ref H.length)] (H ++ [.lst ((z2a ps r x).map Dv.int)]):= by
    unfold mAsg mAl
    rw [zek hl]
    rfl
  have e1 : getL (H ++ [.lst ((z2a ps r x).map Dv.int)]) j = some (acc.map rowD) := z0n e
  have ea : getL (H ++ [.lst ((z2a ps r x).map Dv.int)]) H.length = some ((z2a ps r x).map Dv.int) := by simp [getL]
  have f1 : Fr [j] H (H ++ [.lst ((z2a ps r x).map Dv.int)]) := Fr.app
  generalize H ++ [.lst ((z2a ps r x).map Dv.int)] = H1 at w1 e1 ea f1
  have t1 : mB (m2 (in0 true) (mVar 5) (mVar 4)) [some (ordD n ps),f,tn,some (.ref j),some (rowD r),some (.int x),some (.ref H.length)] H1 = .ok (!decide (x ∈ r)) H1:= by
    simp [mB,m2,mVar,rowD,zc4,asB]
  have t2 : mB (m2 eqD (mVar 6) (mLst mNil)) [some (ordD n ps),f,tn,some (.ref j),some (rowD r),some (.int x),some (.ref H.length)] H1 = .ok (z2a ps r x).isEmpty (H1 ++ [.lst []]):= by
    simp [mB,m2,mVar,mLst,mNil,lim,zg1 ea,asB]
  have e2 : getL (H1 ++ [.lst []]) j = some (acc.map rowD) := z0n e1
  have f2 : Fr [j] H (H1 ++ [.lst []]) := f1.trans (T := []) Fr.app (by simp)
  by_cases c1 : x ∈ r
  · refine ⟨some (.ref H.length),H1, ?_,by simpa [free,c1] using e1,f1⟩
    unfold z59
    rw [z0f w1,if_F (h1 := H1) (by simp [mAnd,t1,c1])]; rfl
  · cases c2 : (z2a ps r x).isEmpty with
    | true =>
      refine ⟨some (.ref H.length),(H1 ++ [Ob.lst []]).set j (Ob.lst ((acc ++ [r ++ [x]]).map rowD)), ?_, ?_,f2.trans (T := [j]) Fr.set (by simp)⟩
      · unfold z59
        rw [z0f w1,if_T (h1 := H1 ++ [.lst []]) (by simp [mAnd,t1,c1,t2,c2])]
        simp [z1m,mApp,mVar,isL,e2,m2,mTup,z00,mNil,lim,zel hr,appD,ha]
      · rw [z18 e2]; simp [free,c1,c2]
    | false =>
      refine ⟨some (.ref H.length),H1 ++ [.lst []], ?_,by simpa [free,c1,c2] using e2,f2⟩
      unfold z59
      rw [z0f w1,if_F (h1 := H1 ++ [.lst []]) (by simp [mAnd,t1,c1,t2,c2])]; rfl
def z4z (ps : List (Int × Int)) (r : List Int) : Nat→List (List Int)
  | 0 => []
  | k + 1 => z4z ps r k ++ if free ps r (0 + (k : Int)) then [r ++ [0 + (k : Int)]] else []
theorem z50 (ps : List (Int × Int)) (r : List Int) : ∀ k,(z4z ps r k).length ≤ k
  | 0 => Nat.le_refl _
  | k + 1 => by
    have := z50 ps r k
    unfold z4z
    split <;> simp <;> omega
theorem zcc {H : Hs} {f tn x5 y6 : Option Dv} {j : Nat} {r : List Int} {acc : List (List Int)} (hn : n ≤ 10) (hl : ps.length ≤ 1000) (hr : r.length ≤ 1000) (ha : acc.length ≤ 100000) (e : getL H j = some (acc.map rowD)) :
    ∃ y5 y6' H',mFor (mas z0w (z00 (m2 ix0 (mVar 0) (mC (.int 0))) mNil)) (z06 5) z59 [some (ordD n ps),f,tn,some (.ref j),some (rowD r),x5,y6] H = .nx [some (ordD n ps),f,tn,some (.ref j),some (rowD r),y5,y6'] H'∧getL H' j = some ((acc ++ z4z ps r n).map rowD)∧Fr [j] H H':= by
  have hi : mas z0w (z00 (m2 ix0 (mVar 0) (mC (.int 0))) mNil) [some (ordD n ps),f,tn,some (.ref j),some (rowD r),x5,y6] H = .ok (z0m 0 n) H:= by
    have q : z00 (m2 ix0 (mVar 0) (mC (.int 0))) mNil [some (ordD n ps),f,tn,some (.ref j),some (rowD r),x5,y6] H = .ok [.int n] H := rfl
    unfold mas
    rw [q,Rs.bind_ok]
    exact z88 (z2l (m := (n : Int)) (by omega) (by omega))
  have hN : (z0m 0 (n : Int)).n = n := by simp [z0m]
  obtain ⟨ρ',H',h1,y5,y6',h2,h3,h4⟩ := z21 (b := z59) (sg := z06 5) hi (fun k ρ H' => ∃ y5 y6',ρ = [some (ordD n ps),f,tn,some (.ref j),some (rowD r),y5,y6']∧getL H' j = some ((acc ++ z4z ps r k).map rowD)∧Fr [j] H H')
    (fun k ρ H' hk ⟨y5,y6',e1,e2,e3⟩ => by
      subst e1
      rw [hN] at hk
      obtain ⟨z,H2,b1,b2,b3⟩ := zem (n := n) (f := f) (tn := tn) (y6 := y6') (x := 0 + (k : Int)) hl hr (by have := z50 ps r k; rw [List.length_append]; omega) e2
      exact ⟨.int (0 + (k : Int)),_,_,_,rfl,rfl,b1,_,_,rfl,by rw [b2,z4z,List.append_assoc],e3.trans b3 (fun j hj => .inl hj)⟩) (fun _ _ _ => rfl) ⟨x5,y6,rfl,by rw [z4z,List.append_nil]; exact e,Fr.refl⟩
  rw [hN] at h3
  exact ⟨y5,y6',H',by rw [h1,h2],h3,h4⟩
def z2m (n : Nat) (ps : List (Int × Int)) : List (List Int)→List (List Int)
  | [] => []
  | r :: rs => z4z ps r n ++ z2m n ps rs
theorem z7d (ps : List (Int × Int)) : ∀ xs ys : List (List Int),z2m n ps (xs ++ ys) = z2m n ps xs ++ z2m n ps ys
  | [],ys => rfl
  | x :: xs,ys => by simp [z2m,z7d ps xs ys]
theorem z51 (ps : List (Int × Int)) : ∀ xs : List (List Int),(z2m n ps xs).length ≤ xs.length * n
  | [] => by simp [z2m]
  | x :: xs => by
    have h1 := z50 ps x n
    have h2 := z51 ps xs
    simp only [z2m,List.length_append,List.length_cons,Nat.succ_mul]
    omega
theorem zio {H : Hs} {tn x4 x5 x6 : Option Dv} {i j : Nat} {rs : List (List Int)} (hn : n ≤ 10) (hl : ps.length ≤ 1000) (hr : ∀ r ∈ rs,r.length ≤ 1000) (hb : rs.length ≤ 8000) (hij : i ≠ j) (ei : getL H i = some (rs.map rowD)) (ej : getL H j = some []) :
    ∃ y4 y5 y6 H',mFor (m1s lstD (mVar 1)) (z06 4) (mFor (mas z0w (z00 (m2 ix0 (mVar 0) (mC (.int 0))) mNil)) (z06 5) z59) [some (ordD n ps),some (.ref i),tn,some (.ref j),x4,x5,x6] H = .nx [some (ordD n ps),some (.ref i),tn,some (.ref j),y4,y5,y6] H'∧getL H' j = some ((z2m n ps rs).map rowD)∧Fr [j] H H':= by
  have hi : m1s lstD (mVar 1) [some (ordD n ps),some (.ref i),tn,some (.ref j),x4,x5,x6] H = .ok (srcR i rs.length) H:= by
    simp [m1s,mVar,lstD,ei]
  obtain ⟨ρ',H',h1,y4,y5,y6,h2,h3,h4⟩ := z21 (b := mFor (mas z0w (z00 (m2 ix0 (mVar 0) (mC (.int 0))) mNil)) (z06 5) z59) (sg := z06 4) hi (fun k ρ H' => ∃ y4 y5 y6,ρ = [some (ordD n ps),some (.ref i),tn,some (.ref j),y4,y5,y6]∧getL H' j = some ((z2m n ps (rs.take k)).map rowD)∧Fr [j] H H')
    (fun k ρ H' hk ⟨y4,y5,y6,e1,e2,e3⟩ => by
      subst e1
      have hk' : k < rs.length := hk
      have hlen : (z2m n ps (rs.take k)).length ≤ 100000:= by
        have h1 := z51 (n := n) ps (rs.take k)
        have h2 : (rs.take k).length * n ≤ 8000 * 10 := Nat.mul_le_mul (by rw [List.length_take]; omega) hn
        omega
      obtain ⟨z5,z6,H2,b1,b2,b3⟩ := zcc (f := some (.ref i)) (tn := tn) (x5 := y5) (y6 := y6) hn hl (hr rs[k] (List.getElem_mem hk')) hlen e2
      have eg : (srcR i rs.length).get k H' = some (rowD rs[k]):= by
        have := e3.getL ei (by simpa using hij)
        simp [srcR,this,hk']
      exact ⟨rowD rs[k],_,_,_,eg,rfl,b1,_,_,_,rfl,by rw [b2,List.take_succ_eq_append_getElem hk',z7d]; simp [z2m],e3.trans b3 (fun j hj => .inl hj)⟩)
    (fun ρ H' ⟨_,_,_,_,_,e3⟩ => by
      have := e3.getL ei (by simpa using hij)
      simp [srcR,this]) ⟨x4,x5,x6,rfl,by simpa [z2m] using ej,Fr.refl⟩
  rw [show (srcR i rs.length).n = rs.length from rfl,List.take_length] at h3
  exact ⟨y4,y5,y6,H',by rw [h1,h2],h3,h4⟩
end
def z3c (n : Nat) (ps : List (Int × Int)) : Nat→List (List Int)
  | 0 => [[]]
  | k + 1 => z2m n ps (z3c n ps k)
section
variable {n : Nat} {ps : List (Int × Int)}
theorem z7e (r : List Int) : ∀ k,∀ q ∈ z4z ps r k,q.length = r.length + 1
  | 0,q,h => by simp [z4z] at h
  | k + 1,q,h => by
    unfold z4z at h
    rcases List.mem_append.mp h with h | h
    · exact z7e r k q h
    · split at h
      · simp at h; subst h; simp
      · simp at h
theorem z7f : ∀ (rs : List (List Int)) (m : Nat),(∀ r ∈ rs,r.length = m)→∀ q ∈ z2m n ps rs,q.length = m + 1
  | [],m,h,q,hq => by simp [z2m] at hq
  | r :: rs,m,h,q,hq => by
    unfold z2m at hq
    rcases List.mem_append.mp hq with hq | hq
    · rw [z7e r n q hq,h r (by simp)]
    · exact z7f rs m (fun r hr => h r (by simp [hr])) q hq
theorem z7g : ∀ k,∀ q ∈ z3c n ps k,q.length = k
  | 0,q,h => by simp [z3c] at h; subst h; rfl
  | k + 1,q,h => z7f (z3c n ps k) k (z7g k) q h
theorem z7h (hn : n ≤ 6) : ∀ k,(z3c n ps k).length ≤ 6 ^ k
  | 0 => by simp [z3c]
  | k + 1 => by
    have h1 := z51 (n := n) ps (z3c n ps k)
    have h2 := z7h hn k
    have h3 : (z3c n ps k).length * n ≤ 6 ^ k * 6 := Nat.mul_le_mul h2 hn
    rw [Nat.pow_succ]
    exact Nat.le_trans h1 h3
theorem ziq {H : Hs} (hn : n ≤ 6) (hl : ps.length ≤ 1000) : ∃ i H',F_qs [ordD n ps] H = .ok (.ref i) H'∧getL H' i = some ((z3c n ps n).map rowD)∧Fr [] H H':= by
  have w0 : mAsg (mLst (z00 (mTup mNil) mNil)) (z06 1) [some (ordD n ps),none,none,none,none,none,none] H = .nx [some (ordD n ps),some (.ref H.length),none,none,none,none,none] (H ++ [.lst [.tup []]]) := rfl
  have hi : mas z0w (z00 (m2 ix0 (mVar 0) (mC (.int 0))) mNil) [some (ordD n ps),some (.ref H.length),none,none,none,none,none] (H ++ [.lst [.tup []]]) = .ok (z0m 0 n) (H ++ [.lst [.tup []]]):= by
    have q : z00 (m2 ix0 (mVar 0) (mC (.int 0))) mNil [some (ordD n ps),some (.ref H.length),none,none,none,none,none] (H ++ [.lst [.tup []]]) = .ok [.int n] (H ++ [.lst [.tup []]]) := rfl
    unfold mas
    rw [q,Rs.bind_ok]
    exact z88 (z2l (m := (n : Int)) (by omega) (by omega))
  have hN : (z0m 0 (n : Int)).n = n := by simp [z0m]
  obtain ⟨ρ',H',h1,i,y2,y3,y4,y5,y6,h2,h3,h4⟩ := z21 (b := mSeq (mAsg (mLst mNil) (z06 3)) (mSeq (mFor (m1s lstD (mVar 1)) (z06 4) (mFor (mas z0w (z00 (m2 ix0 (mVar 0) (mC (.int 0))) mNil)) (z06 5) z59)) (mAsg (mVar 3) (z06 1)))) (sg := z06 2) hi
    (fun k ρ H' => ∃ (i : Nat) (y2 y3 y4 y5 y6 : Option Dv),ρ = [some (ordD n ps),some (.ref i),y2,y3,y4,y5,y6]∧getL H' i = some ((z3c n ps k).map rowD)∧Fr [] H H')
    (fun k ρ H' hk ⟨i,y2,y3,y4,y5,y6,e1,e2,e3⟩ => by
      subst e1
      rw [hN] at hk
      have hb : (z3c n ps k).length ≤ 8000:= by
        have h1 := z7h (ps := ps) hn k
        have h2 : 6 ^ k ≤ 6 ^ 5 := Nat.pow_le_pow_right (by decide) (by omega)
        omega
      have li := z20 e2
      obtain ⟨z4,z5,z6,H2,b1,b2,b3⟩ := zio (n := n) (ps := ps) (rs := z3c n ps k) (tn := some (.int (0 + (k : Int)))) (x4 := y4) (x5 := y5) (x6 := y6) (i := i) (j := H'.length) (by omega) hl (fun r hr => by rw [z7g k r hr]; omega) hb (by omega) (z0n (l := [.lst []]) e2) (by simp [getL])
      have v0 : mAsg (mLst mNil) (z06 3) [some (ordD n ps),some (.ref i),some (.int (0 + (k : Int))),y3,y4,y5,y6] H' = .nx [some (ordD n ps),some (.ref i),some (.int (0 + (k : Int))),some (.ref H'.length),y4,y5,y6] (H' ++ [.lst []]) := rfl
      refine ⟨.int (0 + (k : Int)),[some (ordD n ps),some (.ref i),some (.int (0 + (k : Int))),y3,y4,y5,y6],[some (ordD n ps),some (.ref H'.length),some (.int (0 + (k : Int))),some (.ref H'.length),z4,z5,z6],H2,rfl,rfl, ?_,_,_,_,_,_,_,rfl,b2, ?_⟩
      · rw [z0f v0,z0f b1]; rfl
      · exact (e3.trans (T := []) Fr.app (by simp)).trans b3 (fun j hj => by simp at hj; subst hj; exact .inr e3.le)) (fun _ _ _ => rfl) ⟨H.length,none,none,none,none,none,rfl,by simp [getL,z3c,rowD],Fr.app⟩
  rw [hN] at h3
  refine ⟨i,H', ?_,h3,h4⟩
  show z1c (zec [some (ordD n ps),none,none,none,none,none,none] H) = _
  have z : zec [some (ordD n ps),none,none,none,none,none,none] H = .rt (.ref i) H':= by
    show mSeq (mAsg (mLst (z00 (mTup mNil) mNil)) (z06 1)) (mSeq (mFor (mas z0w (z00 (m2 ix0 (mVar 0) (mC (.int 0))) mNil)) (z06 2) (mSeq (mAsg (mLst mNil) (z06 3)) (mSeq (mFor (m1s lstD (mVar 1)) (z06 4) (mFor (mas z0w (z00 (m2 ix0 (mVar 0) (mC (.int 0))) mNil)) (z06 5) z59)) (mAsg (mVar 3) (z06 1))))) (mRet (mVar 1))) _ _ = _
    rw [z0f w0,z0f h1,h2]
    rfl
  rw [z]; rfl
end
def dist (r : List Int) (p : Int × Int) : Option Int := match posI p.1 r,posI p.2 r with
  | some i,some j => some (((i : Int) - (j : Int)).natAbs : Int)
  | _,_ => none
def z9z (qs : List (Int × Int)) : Int→List (List Int)→Option Int
  | l,[] => some l
  | l,r :: rs => match optL (dist r) qs with
    | none => none
    | some fs => z9z qs (if maxI (0 :: fs) < l then maxI (0 :: fs) else l) rs
def zir (n : Nat) (ps : List (Int × Int)) : Option Int := z9z (z2r n ps) n (z3c n ps n)
theorem z99 {α β : Type} {f : α→Option β} : ∀ {xs : List α} {ys : List β},optL f xs = some ys→∀ k (h : k < xs.length),∃ h' : k < ys.length,f xs[k] = some ys[k]
  | [],ys,e,k,h => by simp at h
  | x :: xs,ys,e,k,h => by
    unfold optL at e
    cases q : f x with
    | none => rw [q] at e; cases e
    | some y =>
      rw [q] at e
      dsimp only at e
      cases q2 : optL f xs with
      | none => rw [q2] at e; cases e
      | some zs =>
        rw [q2] at e; cases e
        cases k with
        | zero => exact ⟨by simp,by simpa using q⟩
        | succ k =>
          obtain ⟨h',e'⟩ := z99 q2 k (by simpa using h)
          exact ⟨by simpa using h',by simpa using e'⟩
theorem z52 : ∀ ns : List Int,optL intD (ns.map Dv.int) = some ns
  | [] => rfl
  | n :: ns => by simp [optL,intD,z52 ns]
section
variable {n : Nat} {ps : List (Int × Int)}
def za0 : M Dv := z05 (f1 absD) (z00 (m2 subD (mIdx (mVar 2) (mVar 0)) (mIdx (mVar 2) (mVar 1))) mNil)
theorem zen {H : Hs} {r : List Int} {p : Int × Int} {v : Int} (h : dist r p = some v) : za0 [some (.int p.1),some (.int p.2),some (rowD r)] H = .ok (.int v) H:= by
  unfold dist at h
  split at h
  · rename_i i j h1 h2
    cases h
    simp [za0,z05,z00,m2,mIdx,mVar,isTp,rowD,idxD,z52,h1,h2,subD,iOp,mNil,f1,absD]
    split <;> omega
  · cases h
theorem zme {H : Hs} {x0 x2 x4 : Option Dv} {q : Nat} {r : List Int} {qs : List (Int × Int)} {fs : List Int} (hl : qs.length ≤ 1000) (e : getL H q = some (qs.map prD)) (hf : optL (dist r) qs = some fs) :
    z27 (m1s lstD (mVar 1)) [none,none,some 3] (sTup 2 (z1e (z06 0) (z1e (z06 1) sNil))) z4l (z1t za0) [x0,some (.ref q),x2,some (rowD r),x4] H = .ok (fs.map Dv.int) H:= by
  have hi : m1s lstD (mVar 1) [x0,some (.ref q),x2,some (rowD r),x4] H = .ok (srcR q qs.length) H := by simp [m1s,mVar,lstD,e]
  have hfl := z67 hf
  obtain ⟨ρ',H',acc',h1,a,b,h2,h3,h4⟩ := z46 (src := srcR q qs.length) (sg := sTup 2 (z1e (z06 0) (z1e (z06 1) sNil))) (t := z4l) (m := z1t za0)
    (fun k ρ H' acc => ∃ a b,ρ = [a,b,some (rowD r)]∧H' = H∧acc = (fs.take k).map Dv.int)
    (fun k ρ H' acc hk ⟨a,b,e1,e2,e3⟩ => by
      subst e1; subst e2; subst e3
      have hk' : k < qs.length := hk
      obtain ⟨hk2,hd⟩ := z99 hf k hk'
      refine ⟨prD qs[k],[some (.int qs[k].1),some (.int qs[k].2),some (rowD r)],by simp [srcR,e,hk'],rfl,.inr ⟨H',[some (.int qs[k].1),some (.int qs[k].2),some (rowD r)],(fs.take k).map Dv.int ++ [.int fs[k]],H',rfl, ?_,_,_,rfl,rfl, ?_⟩⟩
      · have : min k fs.length < 1000000 := by omega
        simp [z1t,zen hd,this]
      · rw [List.take_succ_eq_append_getElem hk2,List.map_append]; rfl) (fun ρ H' acc ⟨_,_,_,e2,_⟩ => by subst e2; simp [srcR,e]) qs.length 0 [none,none,some (rowD r)] H [] (by simp [srcR]) ⟨none,none,rfl,rfl,by simp⟩
  unfold z27
  rw [hi,Rs.bind_ok]
  have hc : z2q [none,none,some 3] [x0,some (.ref q),x2,some (rowD r),x4] = [none,none,some (rowD r)] := rfl
  rw [hc,show (srcR q qs.length).n = qs.length from rfl,h1]
  dsimp only
  rw [h3,h4,show (srcR q qs.length).n = qs.length from rfl,← hfl,List.take_length]
def zeo : MS := (mSeq (mAsg (mAl (z27 (m1s lstD (mVar 1)) [none,none,some 3] (sTup 2 (z1e (z06 0) (z1e (z06 1) sNil))) z4l (z1t za0))) (z06 4)) (mAsg (z05 z63 (z00 (mVar 2) (z00 (z05 (f1 (l1D maxI)) (z00 (m2 addE (mLst (z00 (mC (.int 0)) mNil)) (mVar 4)) mNil)) mNil))) (z06 2)))
theorem zep {H : Hs} {x0 x4 : Option Dv} {q : Nat} {l : Int} {r : List Int} {qs : List (Int × Int)} {fs : List Int} (hl : qs.length ≤ 1000) (e : getL H q = some (qs.map prD)) (hf : optL (dist r) qs = some fs) :
    ∃ y4 H',zeo [x0,some (.ref q),some (.int l),some (rowD r),x4] H = .nx [x0,some (.ref q),some (.int (if maxI (0 :: fs) < l then maxI (0 :: fs) else l)),some (rowD r),y4] H'∧Fr [] H H':= by
  have hfl := z67 hf
  have w1 : mAsg (mAl (z27 (m1s lstD (mVar 1)) [none,none,some 3] (sTup 2 (z1e (z06 0) (z1e (z06 1) sNil))) z4l (z1t za0))) (z06 4) [x0,some (.ref q),some (.int l),some (rowD r),x4] H = .nx [x0,some (.ref q),some (.int l),some (rowD r),some (.ref H.length)] (H ++ [.lst (fs.map Dv.int)]):= by
    unfold mAsg mAl
    rw [zme hl e hf]
    rfl
  have ea : getL (H ++ [.lst (fs.map Dv.int)] ++ [.lst [.int 0]]) H.length = some (fs.map Dv.int) := z0n (by simp [getL])
  have f1' : Fr [] H (H ++ [.lst (fs.map Dv.int)] ++ [.lst [.int 0]]) := Fr.trans (T := []) Fr.app Fr.app (by simp)
  generalize hH : H ++ [.lst (fs.map Dv.int)] = H1 at w1 ea f1'
  have ez : getL (H1 ++ [.lst [.int 0]]) H1.length = some [.int 0] := by simp [getL]
  have hz : fs.length + 1 ≤ 1000000 := by omega
  have em : getL (H1 ++ [.lst [.int 0],.lst (.int 0 :: fs.map Dv.int)]) (H1.length + 1) = some ((0 :: fs).map Dv.int) := by simp [getL]
  have lm : l1D maxI (.ref (H1.length + 1)) (H1 ++ [.lst [.int 0],.lst (.int 0 :: fs.map Dv.int)]) = .ok (.int (maxI (0 :: fs))) (H1 ++ [.lst [.int 0],.lst (.int 0 :: fs.map Dv.int)]):= by
    simp only [l1D,em,z52]
    simp
  refine ⟨some (.ref H.length),H1 ++ [.lst [.int 0],.lst (.int 0 :: fs.map Dv.int)], ?_, ?_⟩
  · unfold zeo
    rw [z0f w1]
    have hz' : 1 + fs.length ≤ 1000000 := by omega
    simp [mAsg,z05,z00,mVar,mLst,mC,mNil,lim,m2,addE,addD,ez,ea,hz',f1,lm,z63,z06]
  · have := f1'.trans (T := []) (Fr.app (S := []) (l := [.lst (.int 0 :: fs.map Dv.int)])) (by simp)
    simpa using this
theorem zis : zc8 = mSeq (mAsg (z05 F_qm (z00 (mVar 0) mNil)) (z06 1)) (mSeq (mAsg (m2 ix0 (mVar 0) (mC (.int 0))) (z06 2)) (mSeq (mFor (m1s lstD (z05 F_qs (z00 (mVar 0) mNil))) (z06 3) zeo) (mRet (mVar 2)))) := rfl
theorem zeq {H H2 : Hs} {d : Dv} {N v : Int} {i : Nat} {qs : List (Int × Int)} {rs : List (List Int)} (hq : qs.length ≤ 1000) (hL : F_qm [d] H = .ok (.ref H.length) (H ++ [.lst (qs.map prD)])) (hx : ∀ H,ix0 d (.int 0) H = .ok (.int N) H)
    (hr : F_qs [d] (H ++ [.lst (qs.map prD)]) = .ok (.ref i) H2) (er : getL H2 i = some (rs.map rowD)) (fr : Fr [] (H ++ [.lst (qs.map prD)]) H2) (hv : z9z qs N rs = some v) : ∃ H',F_qt [d] H = .ok (.int v) H'∧Fr [] H H':= by
  have w0 : mAsg (z05 F_qm (z00 (mVar 0) mNil)) (z06 1) [some d,none,none,none,none] H = .nx [some d,some (.ref H.length),none,none,none] (H ++ [.lst (qs.map prD)]):= by
    simp [mAsg,z05,z00,mVar,mNil,hL,z06]
  have e0 : getL (H ++ [.lst (qs.map prD)]) H.length = some (qs.map prD) := by simp [getL]
  have f0 : Fr [] H (H ++ [.lst (qs.map prD)]) := Fr.app
  generalize H ++ [.lst (qs.map prD)] = H1 at w0 e0 f0 hr fr
  have w1 : mAsg (m2 ix0 (mVar 0) (mC (.int 0))) (z06 2) [some d,some (.ref H.length),none,none,none] H1 = .nx [some d,some (.ref H.length),some (.int N),none,none] H1:= by
    simp [mAsg,m2,mVar,mC,hx,z06]
  have hi : m1s lstD (z05 F_qs (z00 (mVar 0) mNil)) [some d,some (.ref H.length),some (.int N),none,none] H1 = .ok (srcR i rs.length) H2:= by
    simp [m1s,z05,z00,mVar,mNil,hr,lstD,er]
  obtain ⟨ρ',H',h1,l,y3,y4,h2,h3,h4⟩ := z21 (b := zeo) (sg := z06 3) hi (fun k ρ H' => ∃ (l : Int) (y3 y4 : Option Dv),ρ = [some d,some (.ref H.length),some (.int l),y3,y4]∧z9z qs l (rs.drop k) = some v∧Fr [] H2 H')
    (fun k ρ H' hk ⟨l,y3,y4,e1,e2,e3⟩ => by
      subst e1
      have hk' : k < rs.length := hk
      rw [List.drop_eq_getElem_cons hk'] at e2
      unfold z9z at e2
      cases hf : optL (dist rs[k]) qs with
      | none => rw [hf] at e2; cases e2
      | some fs =>
        rw [hf] at e2
        obtain ⟨z4,H3,b1,b2⟩ := zep (x0 := some d) (x4 := y4) (l := l) hq (e3.getL (fr.getL e0 (by simp)) (by simp)) hf
        have eg : (srcR i rs.length).get k H' = some (rowD rs[k]):= by
          have := e3.getL er (by simp)
          simp [srcR,this,hk']
        exact ⟨rowD rs[k],_,_,_,eg,rfl,b1,_,_,_,rfl,e2,e3.trans b2 (by simp)⟩)
    (fun ρ H' ⟨_,_,_,_,_,e3⟩ => by
      have := e3.getL er (by simp)
      simp [srcR,this]) ⟨N,none,none,rfl,by simpa using hv,Fr.refl⟩
  rw [show (srcR i rs.length).n = rs.length from rfl,List.drop_length] at h3
  have hlv : l = v := by simpa [z9z] using h3
  subst hlv
  refine ⟨H', ?_,(f0.trans fr (by simp)).trans h4 (by simp)⟩
  have z0 : F_qt [d] H = z1c (zc8 [some d,none,none,none,none] H) := rfl
  have z : zc8 [some d,none,none,none,none] H = .rt (.int l) H':= by
    rw [zis,z0f w0,z0f w1,z0f h1,h2]
    rfl
  rw [z0,z]; rfl
theorem zit {H : Hs} {v : Int} (hn : n ≤ 6) (hl : ps.length ≤ 1000) (hv : zir n ps = some v) : ∃ H',F_qt [ordD n ps] H = .ok (.int v) H'∧Fr [] H H':= by
  obtain ⟨i,H2,hr,er,fr⟩ := ziq (n := n) (ps := ps) (H := H ++ [.lst ((z2r n ps).map prD)]) hn hl
  have hq : (z2r n ps).length ≤ 1000:= by
    have h1 := z3q n ps n
    have h2 : n * n ≤ 6 * 6 := Nat.mul_le_mul hn hn
    unfold z2r; omega
  exact zeq hq (z98 (by omega)) (fun H => ord0 H) hr er fr hv
end
section
variable {ns : List Int} {H : Hs} {j : Nat}
theorem z7i (o : OkN ns) (e : getL H j = some (ns.map Dv.int)) : F_qj [.ref j] H = .ok (.int (maxI ns - 1)) H:= by
  have h := zca o e
  have h0 : 0 < ns.length := o.l1
  simp [F_qj,zif,z0x,z0o,mSeq,z1m,z05,z00,mNil,mVar,h,f1,l1D,e,z3b,h0,mRet,m2,subD,iOp,mC,z1c]
def two (ns : List Int) : List Int := (z2c ns).drop (ns.length - 2)
theorem ziu (o : OkN ns) (h2 : ns.length ≠ 1) : cutD ((z2c ns).map Dv.int) (some (-2)) none = (two ns).map Dv.int:= by
  have hl := o.l1
  have hs : ((z2c ns).map Dv.int).length = ns.length := by simp [z45]
  have e : HT.sIx ((z2c ns).map Dv.int).length 0 (some (-2)) = ns.length - 2:= by
    rw [hs]
    unfold HT.sIx
    dsimp only
    rw [if_pos (by decide)]; omega
  unfold cutD two
  rw [e,HT.sIx_none,hs,List.map_drop]
  apply List.take_of_length_le
  simp [z45]
theorem zmf (o : OkN ns) (h2 : ns.length ≠ 1) : ∃ a b,two ns = [a,b]:= by
  have hl := o.l1
  have : (two ns).length = 2 := by unfold two; rw [List.length_drop,z45]; omega
  match h : two ns,this with
  | [a,b],_ => exact ⟨a,b,rfl⟩
def slM : M Dv := mSl (z05 (f1 z6d) (z00 (mVar 0) mNil)) (mBd (m1 negD (mC (.int 2)))) mNoB
theorem zmg (o : OkN ns) (h2 : ns.length ≠ 1) (e : getL H j = some (ns.map Dv.int)) {ρ : Ev} (hρ : ρ[0]? = some (some (.ref j))) : ∃ H',slM ρ H = .ok (.ref (H.length + 1)) H'∧getL H' (H.length + 1) = some ((two ns).map Dv.int)∧Fr [] H H':= by
  have h64 : ns.length < 64 := by have := o.l6; omega
  have e1 : getL (H ++ [.lst ((z2c ns).map Dv.int)]) H.length = some ((z2c ns).map Dv.int) := by simp [getL]
  refine ⟨H ++ [.lst ((z2c ns).map Dv.int)] ++ [.lst ((two ns).map Dv.int)], ?_,by simp [getL],Fr.trans (T := []) Fr.app Fr.app (by simp)⟩
  have hc := ziu o h2
  simp only [slM,mSl,z05,z00,mVar,hρ,mNil,Rs.bind_ok,f1,z6d,e,z3b,h64,if_true,mBd,m1,mC,negD,asI,mNoB,slD,e1,hc]
  simp
def z3d (ns : List Int) : Int := if ns.length = 1 then 0 else -(-((two ns).sum - 2) / 2)
theorem len1 {ρ : Ev} (hρ : ρ[0]? = some (some (.ref j))) (e : getL H j = some (ns.map Dv.int)) : mB (m2 eqD (z05 (f1 len0) (z00 (mVar 0) mNil)) (mC (.int 1))) ρ H = .ok (decide (ns.length = 1)) H:= by
  have hb : ((ns.length : Int) == 1) = decide (ns.length = 1):= by
    rw [Bool.eq_iff_iff]; simp; omega
  generalize hm : (ns.length : Int) = m at hb
  have hq : f1 len0 [.ref j] H = .ok (.int m) H:= by
    rw [show f1 len0 [.ref j] H = lenD [] (.ref j) H from rfl]
    simp [lenD,seqD,e,← hm]
  simp [mB,m2,z05,z00,mVar,hρ,mNil,hq,mC,eqD,z16,pur,deq,asB,hb]
theorem zcd : ze6 = mSeq (z1m (z05 F_ql (z00 (mVar 0) mNil))) (mSeq (mIf (mB (m2 eqD (z05 (f1 len0) (z00 (mVar 0) mNil)) (mC (.int 1)))) (mRet (mC (.int 0))) z0p) (mRet (z05 F_qk (z00 (m2 subD (z05 (f1 sumD) (z00 slM mNil)) (mC (.int 2))) (z00 (mC (.int 2)) mNil))))) := rfl
theorem zop (s : Int) : F_qk [.int s,.int 2] H = .ok (.int (-(-s / 2))) H:= by
  simp [F_qk,zid,z0x,z0o,mRet,m1,negD,m2,mVar,z4w,iOpC,divW,z1c]
theorem z7j (o : OkN ns) (e : getL H j = some (ns.map Dv.int)) : ∃ H',F_qg [.ref j] H = .ok (.int (z3d ns)) H'∧Fr [] H H':= by
  have z0 : F_qg [.ref j] H = z1c (ze6 [some (.ref j)] H) := rfl
  have w0 : z1m (z05 F_ql (z00 (mVar 0) mNil)) [some (.ref j)] H = .nx [some (.ref j)] H:= by
    simp [z1m,z05,z00,mVar,mNil,zca o e]
  have t := len1 (ρ := [some (.ref j)]) rfl e
  rw [z0,zcd,z0f w0]
  by_cases h1 : ns.length = 1
  · refine ⟨H, ?_,Fr.refl⟩
    have : mSeq (mIf (mB (m2 eqD (z05 (f1 len0) (z00 (mVar 0) mNil)) (mC (.int 1)))) (mRet (mC (.int 0))) z0p) (mRet (z05 F_qk (z00 (m2 subD (z05 (f1 sumD) (z00 slM mNil)) (mC (.int 2))) (z00 (mC (.int 2)) mNil)))) [some (.ref j)] H = .rt (.int 0) H:= by
      unfold mSeq
      rw [if_T (t.trans (by rw [decide_eq_true h1]))]
      rfl
    rw [this]
    simp [z1c,z3d,h1]
  · obtain ⟨H',hs,es,fs⟩ := zmg o h1 e (ρ := [some (.ref j)]) rfl
    refine ⟨H', ?_,fs⟩
    rw [z0f (ρ1 := [some (.ref j)]) (h1 := H) (by rw [if_F (t.trans (by rw [decide_eq_false h1]))]; rfl)]
    simp [mRet,z05,z00,m2,hs,f1,zg0 es,mC,subD,iOp,mNil,zop,z1c,z3d,h1]
theorem ziv : zed = mSeq (mIf (mB (m2 eqD (z05 (f1 len0) (z00 (mVar 0) mNil)) (mC (.int 1)))) (mRet (mC (.int 0))) z0p) (mSeq (mAsg slM (z06 1)) (mRet (m2 addE (m2 z4w (m2 subD (m2 addE (m2 ix0 (mVar 1) (mC (.int 0))) (m2 ix0 (mVar 1) (mC (.int 1)))) (mC (.int 2))) (mC (.int 2))) (m2 modD (m2 addE (m2 ix0 (mVar 1) (mC (.int 0))) (m2 ix0 (mVar 1) (mC (.int 1)))) (mC (.int 2)))))) := rfl
theorem ziw (o : OkN ns) (e : getL H j = some (ns.map Dv.int)) : ∃ H',F_qa [.ref j] H = .ok (.int (z3d ns)) H'∧Fr [] H H':= by
  have z0 : F_qa [.ref j] H = z1c (zed [some (.ref j),none] H) := rfl
  have t := len1 (ρ := [some (.ref j),none]) rfl e
  rw [z0,ziv]
  by_cases h1 : ns.length = 1
  · refine ⟨H, ?_,Fr.refl⟩
    unfold mSeq
    rw [if_T (t.trans (by rw [decide_eq_true h1]))]
    simp [mRet,mC,z1c,z3d,h1]
  · obtain ⟨H',hs,es,fs⟩ := zmg o h1 e (ρ := [some (.ref j),none]) rfl
    obtain ⟨a,b,hab⟩ := zmf o h1
    refine ⟨H', ?_,fs⟩
    rw [hab] at es
    have es' : getL H' (H.length + 1) = some [.int a,.int b] := es
    rw [z0f (ρ1 := [some (.ref j),none]) (h1 := H) (by rw [if_F (t.trans (by rw [decide_eq_false h1]))]; rfl),z0f (ρ1 := [some (.ref j),some (.ref (H.length + 1))]) (h1 := H') (by simp [mAsg,hs,z06])]
    simp [mRet,m2,ix0,z1g,ixD,mVar,es',mC,atL,atI,ixN,addE,addD,subD,iOp,z4w,iOpC,divW,modD,modB,z1c,z3d,h1,hab]
    omega
end
def bd1 : MS := z1m (mApp (mVar 1) (m2 addE (mC (.int 1)) (m2 ix0 (mLst (z00 (mC (.int 0)) (z00 (mC (.int 0)) (z00 (z05 F_qq (z00 (mVar 0) (z00 (mC (.int 3)) mNil))) (z00 (z05 F_qq (z00 (mVar 0) (z00 (mC (.int 6)) mNil))) mNil))))) (z05 F_qq (z00 (mVar 0) (z00 (mC (.int 4)) mNil))))))
def bd2 : MS := mIf (mOr (mB (m2 leD (mVar 5) (mVar 3))) (mB (m2 eqD (mVar 4) (mLst mNil)))) (mSeq (z1m (mApp (mVar 4) (mVar 5))) (mAsg (m2 subD (mVar 3) (mVar 5)) (z06 3))) z0p
section
variable {H : Hs} {st p q : Nat} {xs : List Dv}
theorem St.lt (s : St st H) : st < H.length := let ⟨_,_,e⟩ := s; z20 e
theorem zce {ρ : Ev} (h0 : ρ[0]? = some (some (.ref st))) (h1 : ρ[1]? = some (some (.ref p))) (s : St st H) (e : getL H p = some xs) (hp : p ≠ st) (hl : xs.length < 1000000) :
    ∃ (n : Int) (H' : Hs),1 ≤ n∧bd1 ρ H = .nx ρ H'∧getL H' p = some (xs ++ [.int n])∧Fr [st,p] H H'∧St st H':= by
  obtain ⟨r3,H1,a0,a1,t1,f1,s1⟩ := z2k 3 s h0
  obtain ⟨r6,H2,b0,b1,t2,f2,s2⟩ := z2k 6 s1 h0
  have f3 : Fr [] H2 (H2 ++ [.lst [.int 0,.int 0,.int r3,.int r6]]) := Fr.app
  have s3 := s2.fr f3 (by simp)
  obtain ⟨r4,H4,c0,c1,t4,f4,s4⟩ := z2k 4 s3 h0
  have hlt := s2.lt
  have hps : p ∉ [st] := by simpa using hp
  have g : getL H4 H2.length = some [.int 0,.int 0,.int r3,.int r6] := f4.getL (by simp [getL]) (by simp; omega)
  have gp : getL H4 p = some xs := f4.getL (z0n (f2.getL (f1.getL e hps) hps)) hps
  have ⟨v,v0,hv⟩ : ∃ v,0 ≤ v∧ix0 (.ref H2.length) (.int r4) H4 = .ok (.int v) H4:= by
    have : r4 = 0 ∨ r4 = 1 ∨ r4 = 2 ∨ r4 = 3 := by omega
    rcases this with rfl | rfl | rfl | rfl
    · exact ⟨0,by omega,by simp [ix0,z1g,ixD,g,atL,atI,ixN]⟩
    · exact ⟨0,by omega,by simp [ix0,z1g,ixD,g,atL,atI,ixN]⟩
    · exact ⟨r3,by omega,by simp [ix0,z1g,ixD,g,atL,atI,ixN]⟩
    · exact ⟨r6,by omega,by simp [ix0,z1g,ixD,g,atL,atI,ixN]⟩
  have fr : Fr [st,p] H H4 := ((f1.trans f2 (fun j hj => .inl hj)).trans f3 (by simp)).trans f4 (fun j hj => .inl hj) |>.mono (by simp)
  refine ⟨1 + v,H4.set p (.lst (xs ++ [.int (1 + v)])),by omega, ?_,z18 gp,fr.trans Fr.set (by simp),s4.fr Fr.set (by simpa using Ne.symm hp)⟩
  simp [bd1,z1m,mApp,mVar,h1,isL,e,m2,mC,mLst,z00,mNil,lim,t1,t2,t4,hv,addE,addD,appD,gp,hl]
theorem z7k {m : Int} : ∀ (f k : Nat) (H : Hs) (ns : List Int) (x2 : Option Dv),St st H→getL H p = some (ns.map Dv.int)→p ≠ st→ns.length + f ≤ 1000→(∀ n ∈ ns,1 ≤ n) →
    ∃ (ms : List Int) (H' : Hs) (y2 : Option Dv),forM (z0m 0 m) (z06 2) bd1 f k [some (.ref st),some (.ref p),x2,none,none,none] H = .nx [some (.ref st),some (.ref p),y2,none,none,none] H'∧getL H' p = some (ms.map Dv.int)∧ms.length = ns.length + f∧(∀ n ∈ ms,1 ≤ n)∧Fr [st,p] H H'∧St st H'
  | 0,k,H,ns,x2,s,e,hp,hl,h1 => ⟨ns,H,x2,by simp [forM,z0m],e,rfl,h1,Fr.refl,s⟩
  | f + 1,k,H,ns,x2,s,e,hp,hl,h1 => by
    obtain ⟨n,H1,n1,hb,e1,f1,s1⟩ := zce (ρ := [some (.ref st),some (.ref p),some (.int (0 + (k : Int))),none,none,none]) rfl rfl s e hp (by simp; omega)
    obtain ⟨ms,H2,y2,hf,e2,l2,p2,f2,s2⟩ := z7k (m := m) f (k + 1) H1 (ns ++ [n]) (some (.int (0 + (k : Int)))) s1 (by rw [e1]; simp) hp (by simp; omega) (fun a ha => by
      simp at ha
      rcases ha with ha | rfl
      · exact h1 a ha
      · exact n1)
    refine ⟨ms,H2,y2, ?_,e2,by rw [l2]; simp; omega,p2,f1.trans f2 (fun j hj => .inl hj),s2⟩
    rw [← hf]
    have hg : (z0m 0 m).get k H = some (.int (0 + (k : Int))) := rfl
    have hs : z06 2 (.int (0 + (k : Int))) [some (.ref st),some (.ref p),x2,none,none,none] = some [some (.ref st),some (.ref p),some (.int (0 + (k : Int))),none,none,none] := rfl
    exact z1p hg hs hb
theorem zcf {ρ : Ev} {left n : Int} {ks : List Int} (hl : 6 ≤ ρ.length) (h3 : ρ[3]? = some (some (.int left))) (h4 : ρ[4]? = some (some (.ref q))) (h5 : ρ[5]? = some (some (.int n))) (e : getL H q = some (ks.map Dv.int)) (hk : ks.length < 1000) :
    ∃ (ks' : List Int) (left' : Int) (H' : Hs),bd2 ρ H = .nx (ρ.set 3 (some (.int left'))) H'∧getL H' q = some (ks'.map Dv.int)∧(ks' = ks ++ [n] ∨ ks' = ks∧ks ≠ [])∧Fr [q] H H':= by
  have self : ρ.set 3 (some (.int left)) = ρ:= by
    apply List.ext_getElem?
    intro i
    by_cases hi : 3 = i
    · subst hi; rw [List.getElem?_set_self (by omega),h3]
    · rw [List.getElem?_set_ne hi]
  have go : ∀ H1,getL H1 q = some (ks.map Dv.int)→mSeq (z1m (mApp (mVar 4) (mVar 5))) (mAsg (m2 subD (mVar 3) (mVar 5)) (z06 3)) ρ H1 = .nx (ρ.set 3 (some (.int (left - n)))) (H1.set q (.lst ((ks ++ [n]).map Dv.int))):= fun H1 e1 => by
    have hk' : ks.length < 1000000 := by omega
    simp [mSeq,z1m,mApp,mVar,h3,h4,h5,isL,e1,appD,hk',mAsg,m2,subD,iOp,z06]
  by_cases hle : n ≤ left
  · refine ⟨ks ++ [n],left - n,_, ?_,z18 e,.inl rfl,Fr.set⟩
    unfold bd2
    rw [if_T (h1 := H) (by simp [mOr,mB,m2,mVar,h5,h3,leD,iOp,hle,asB])]
    exact go H e
  · have ea : mOr (mB (m2 leD (mVar 5) (mVar 3))) (mB (m2 eqD (mVar 4) (mLst mNil))) ρ H = .ok ks.isEmpty (H ++ [.lst []]):= by
      simp [mOr,mB,m2,mVar,h5,h3,h4,leD,iOp,hle,asB,mLst,mNil,lim,zg1 e]
    cases ks with
    | nil =>
      refine ⟨[] ++ [n],left - n,_, ?_,z18 (z0n (l := [.lst []]) e),.inl rfl,(Fr.app (S := [q]) (l := [.lst []])).trans Fr.set (by simp)⟩
      unfold bd2
      rw [if_T ea]
      exact go _ (z0n e)
    | cons a t =>
      refine ⟨a :: t,left,_, ?_,z0n (l := [.lst []]) e,.inr ⟨rfl,by simp⟩,Fr.app⟩
      unfold bd2
      rw [if_F ea,self]; rfl
theorem z7l {ns : List Int} {x2 : Option Dv} (hp : ∀ n ∈ ns,1 ≤ n) (h6 : ns.length ≤ 6) (hpq : p ≠ q) : ∀ (f k : Nat) (H : Hs) (left : Int) (ks : List Int) (x5 : Option Dv),f + k = ns.length→getL H p = some (ns.map Dv.int)→getL H q = some (ks.map Dv.int)→ks.length ≤ k→(∀ n ∈ ks,1 ≤ n)→(ks = []→k = 0) →
    ∃ (ms : List Int) (H' : Hs) (l' : Int) (y5 : Option Dv),forM (srcR p ns.length) (z06 5) bd2 f k [some (.ref st),some (.ref p),x2,some (.int left),some (.ref q),x5] H = .nx [some (.ref st),some (.ref p),x2,some (.int l'),some (.ref q),y5] H'∧getL H' q = some (ms.map Dv.int)∧ms.length ≤ ns.length∧(∀ n ∈ ms,1 ≤ n)∧(ms = []→ns = [])∧Fr [q] H H'
  | 0,k,H,left,ks,x5,h,ep,eq,hk,h1,hz => ⟨ks,H,left,x5,by simp [forM,srcR,ep],eq,by omega,h1,fun z => List.length_eq_zero_iff.mp (by have := hz z; omega),Fr.refl⟩
  | f + 1,k,H,left,ks,x5,h,ep,eq,hk,h1,hz => by
    have hlt : k < ns.length := by omega
    have hn := hp ns[k] (List.getElem_mem hlt)
    obtain ⟨ks',l',H1,hb,e1,hks,f1⟩ := zcf (ρ := [some (.ref st),some (.ref p),x2,some (.int left),some (.ref q),some (.int ns[k])]) (by simp) rfl rfl rfl eq (by omega)
    have ep1 : getL H1 p = some (ns.map Dv.int) := f1.getL ep (by simpa using hpq)
    have c1 : ks'.length ≤ k + 1:= by
      rcases hks with rfl | ⟨rfl,_⟩
      · simp; omega
      · omega
    have c2 : ∀ n ∈ ks',1 ≤ n:= by
      rcases hks with rfl | ⟨rfl,_⟩
      · intro n hn'
        simp at hn'
        rcases hn' with hn' | rfl
        · exact h1 n hn'
        · exact hn
      · exact h1
    have c3 : ks' = []→k + 1 = 0:= by
      rcases hks with rfl | ⟨rfl,z⟩
      · simp
      · exact fun w => absurd w z
    obtain ⟨ms,H2,l2,y5,hf,e2,lm,pm,zm,f2⟩ := z7l hp h6 hpq f (k + 1) H1 l' ks' (some (.int ns[k])) (by omega) ep1 e1 c1 c2 c3
    refine ⟨ms,H2,l2,y5, ?_,e2,lm,pm,zm,f1.trans f2 (fun j hj => .inl hj)⟩
    rw [← hf]
    have hg : (srcR p ns.length).get k H = some (.int ns[k]) := by simp [srcR,ep,hlt]
    have hs : z06 5 (.int ns[k]) [some (.ref st),some (.ref p),x2,some (.int left),some (.ref q),x5] = some [some (.ref st),some (.ref p),x2,some (.int left),some (.ref q),some (.int ns[k])] := rfl
    exact z1p hg hs hb
theorem zer : zc5 = (mSeq (mAsg (mLst mNil) (z06 1)) (mSeq (mFor (mas z0w (z00 (m2 addE (mC (.int 1)) (z05 F_qq (z00 (mVar 0) (z00 (mC (.int 6)) mNil)))) mNil)) (z06 2) bd1) (mSeq (mAsg (mC (.int 6)) (z06 3)) (mSeq (mAsg (mLst mNil) (z06 4)) (mSeq (mFor (m1s lstD (mVar 1)) (z06 5) bd2) (mRet (m2 ix0 (mLst (z00 (mVar 4) (z00 (mVar 4) (z00 (mVar 4) (z00 (mVar 1) mNil))))) (z05 F_qq (z00 (mVar 0) (z00 (mC (.int 4)) mNil)))))))))) := rfl
theorem zes (s : St st H) : ∃ (i : Nat) (ns : List Int) (H' : Hs),F_qo [.ref st] H = .ok (.ref i) H'∧getL H' i = some (ns.map Dv.int)∧OkN ns∧Fr [st] H H'∧St st H'∧H.length ≤ i:= by
  have lt0 := s.lt
  have f0 : Fr [] H (H ++ [.lst []]) := Fr.app
  have s0 := s.fr f0 (by simp)
  have e0 : getL (H ++ [.lst []]) H.length = some (([] : List Int).map Dv.int) := by simp [getL]
  have w0 : mAsg (mLst mNil) (z06 1) [some (.ref st),none,none,none,none,none] H = .nx [some (.ref st),some (.ref H.length),none,none,none,none] (H ++ [.lst []]) := rfl
  obtain ⟨r,H1,r0,r1,t1,f1,s1⟩ := z2k (ρ := [some (.ref st),some (.ref H.length),none,none,none,none]) (i := 0) 6 s0 rfl
  have e1 : getL H1 H.length = some (([] : List Int).map Dv.int) := f1.getL e0 (by simp; omega)
  have hr : inR (1 + r) = true := by simp [inR]; omega
  have w1 : mas z0w (z00 (m2 addE (mC (.int 1)) (z05 F_qq (z00 (mVar 0) (z00 (mC (.int 6)) mNil)))) mNil) [some (.ref st),some (.ref H.length),none,none,none,none] (H ++ [.lst []]) = .ok (z0m 0 (1 + r)) H1:= by
    simp [mas,z00,m2,mC,t1,addE,addD,mNil,zcb hr]
  obtain ⟨ns,H2,y2,w2,e2,l2,p2,f2,s2⟩ := z7k (m := 1 + r) (p := H.length) (z0m 0 (1 + r)).n 0 H1 [] none s1 e1 (by omega) (by simp [z0m]; omega) (by simp)
  have l2' : 1 ≤ ns.length∧ns.length ≤ 6:= by
    rw [l2]; simp [z0m]; omega
  have w3 : mAsg (mC (.int 6)) (z06 3) [some (.ref st),some (.ref H.length),y2,none,none,none] H2 = .nx [some (.ref st),some (.ref H.length),y2,some (.int 6),none,none] H2 := rfl
  have w4 : mAsg (mLst mNil) (z06 4) [some (.ref st),some (.ref H.length),y2,some (.int 6),none,none] H2 = .nx [some (.ref st),some (.ref H.length),y2,some (.int 6),some (.ref H2.length),none] (H2 ++ [.lst []]) := rfl
  have f4 : Fr [] H2 (H2 ++ [.lst []]) := Fr.app
  have e4 : getL (H2 ++ [.lst []]) H.length = some (ns.map Dv.int) := z0n e2
  have q4 : getL (H2 ++ [.lst []]) H2.length = some (([] : List Int).map Dv.int) := by simp [getL]
  have lt2 := z20 e2
  have w5 : m1s lstD (mVar 1) [some (.ref st),some (.ref H.length),y2,some (.int 6),some (.ref H2.length),none] (H2 ++ [.lst []]) = .ok (srcR H.length ns.length) (H2 ++ [.lst []]):= by
    simp [m1s,mVar,lstD,e4]
  obtain ⟨ms,H3,lf,y5,w6,e6,l6,p6,z6,f6⟩ := z7l (st := st) (x2 := y2) p2 l2'.2 (show H.length ≠ H2.length by omega) ns.length 0 (H2 ++ [.lst []]) 6 [] none (by omega) e4 q4 (by simp) (by simp) (by simp)
  have st3 := (s2.fr f4 (by simp)).fr f6 (by have := s2.lt; simp; omega)
  have e7 : getL H3 H.length = some (ns.map Dv.int) := f6.getL e4 (by simp; omega)
  have f8 : Fr [] H3 (H3 ++ [.lst [.ref H2.length,.ref H2.length,.ref H2.length,.ref H.length]]) := Fr.app
  have st8 := st3.fr f8 (by simp)
  obtain ⟨v,H4,v0,v1,t8,f9,s9⟩ := z2k (ρ := [some (.ref st),some (.ref H.length),y2,some (.int lf),some (.ref H2.length),y5]) (i := 0) 4 st8 rfl
  have g9 : getL H4 H3.length = some [.ref H2.length,.ref H2.length,.ref H2.length,.ref H.length] := f9.getL (by simp [getL]) (by have := st3.lt; simp; omega)
  have okn : OkN ns := ⟨l2'.1,l2'.2,p2⟩
  have okm : OkN ms := ⟨by
    cases ms with
    | nil => have := z6 rfl; rw [this] at l2'; simp at l2'
    | cons a t => simp,by omega,p6⟩
  have fr : Fr [st] H H4:= by
    have a1 := f0.mono (T := [st]) (by simp)
    have a2 := a1.trans f1 (fun j hj => .inl hj)
    have a3 := a2.trans f2 (fun j hj => by simp at hj; rcases hj with rfl | rfl <;> simp)
    have a4 := a3.trans f4 (by simp)
    have a5 := a4.trans f6 (fun j hj => by simp at hj; subst hj; right; omega)
    have a6 := a5.trans f8 (by simp)
    exact a6.trans f9 (fun j hj => .inl hj)
  have gn : getL H4 H.length = some (ns.map Dv.int) := f9.getL (z0n e7) (by simp; omega)
  have gm : getL H4 H2.length = some (ms.map Dv.int) := f9.getL (z0n e6) (by have := s2.lt; simp; omega)
  have run : ∀ d,ix0 (.ref H3.length) (.int v) H4 = .ok d H4→F_qo [.ref st] H = .ok d H4:= fun d hd => by
    show z1c (zc5 [some (.ref st),none,none,none,none,none] H) = _
    have z : zc5 [some (.ref st),none,none,none,none,none] H = .rt d H4:= by
      rw [zer,z0f w0,z0f ((z3u w1).trans w2),z0f w3,z0f w4,z0f ((z3u w5).trans w6)]
      simp [mRet,m2,mLst,z00,mVar,mNil,lim,t8,hd]
    rw [z]; rfl
  have : v = 0 ∨ v = 1 ∨ v = 2 ∨ v = 3 := by omega
  rcases this with rfl | rfl | rfl | rfl
  · exact ⟨H2.length,ms,H4,run _ (by simp [ix0,z1g,ixD,g9,atL,atI,ixN]),gm,okm,fr,s9,by omega⟩
  · exact ⟨H2.length,ms,H4,run _ (by simp [ix0,z1g,ixD,g9,atL,atI,ixN]),gm,okm,fr,s9,by omega⟩
  · exact ⟨H2.length,ms,H4,run _ (by simp [ix0,z1g,ixD,g9,atL,atI,ixN]),gm,okm,fr,s9,by omega⟩
  · exact ⟨H.length,ns,H4,run _ (by simp [ix0,z1g,ixD,g9,atL,atI,ixN]),gn,okn,fr,s9,by omega⟩
end
def zcg : MS := mAsg (m2 addE (m2 mulD (mVar 3) (mC (.int 2147483587))) (z05 F_qq (z00 (mVar 0) (z00 (mC (.int 2147483587)) mNil)))) (z06 3)
def gend : MS := z1m (mApp (mVar 1) (m2 addE (mC (.int 1)) (m2 modD (mVar 3) (m2 ix0 (mLst (z00 (mC (.int 10)) (z00 (mC (.int 1000)) (z00 (m2 powD (mC (.int 10)) (mC (.int 15))) (z00 (m2 subD (m2 powD (mC (.int 10)) (mC (.int 30))) (mC (.int 1))) mNil))))) (z05 F_qq (z00 (mVar 0) (z00 (mC (.int 4)) mNil)))))))
section
variable {H : Hs} {st p : Nat} {xs : List Dv}
theorem zet {y2 y4 : Option Dv} {z : Int} (s : St st H) : ∃ z' H',zcg [some (.ref st),some (.ref p),y2,some (.int z),y4] H = .nx [some (.ref st),some (.ref p),y2,some (.int z'),y4] H'∧Fr [st] H H'∧St st H':= by
  obtain ⟨r,H1,r0,r1,t1,f1,s1⟩ := z2k (ρ := [some (.ref st),some (.ref p),y2,some (.int z),y4]) (i := 0) 2147483587 s rfl
  refine ⟨z * 2147483587 + r,H1, ?_,f1,s1⟩
  have w : inW 2147483587 = true := by decide
  simp [zcg,mAsg,m2,mVar,mC,mulD,iOpC,mulB,w,t1,addE,addD,z06]
theorem zch {y2 y4 : Option Dv} (s : St st H) : ∃ z y4' H',mFor (mas z0w (z00 (mC (.int 4)) mNil)) (z06 4) zcg [some (.ref st),some (.ref p),y2,some (.int 0),y4] H = .nx [some (.ref st),some (.ref p),y2,some (.int z),y4'] H'∧Fr [st] H H'∧St st H':= by
  obtain ⟨ρ',H',h1,z,y4',h2,h3,h4⟩ := z21 (mi := mas z0w (z00 (mC (.int 4)) mNil)) (src := z0m 0 4) (H1 := H) (ρ := [some (.ref st),some (.ref p),y2,some (.int 0),y4]) (H := H) (b := zcg) (sg := z06 4) rfl
    (fun k ρ H' => ∃ (z : Int) (y4 : Option Dv),ρ = [some (.ref st),some (.ref p),y2,some (.int z),y4]∧Fr [st] H H'∧St st H')
    (fun k ρ H' hk ⟨z,y4,e1,e2,e3⟩ => by
      subst e1
      obtain ⟨z',H2,b1,b2,b3⟩ := zet (p := p) (y2 := y2) (y4 := some (.int (0 + (k : Int)))) (z := z) e3
      exact ⟨.int (0 + (k : Int)),_,_,_,rfl,rfl,b1,_,_,rfl,e2.trans b2 (fun j hj => .inl hj),b3⟩) (fun _ _ _ => rfl) ⟨0,y4,rfl,Fr.refl,s⟩
  exact ⟨z,y4',H',by rw [h1,h2],h3,h4⟩
theorem zix {y2 y4 : Option Dv} {z : Int} (s : St st H) (e : getL H p = some xs) (hp : p ≠ st) (hl : xs.length < 1000000) :
    ∃ (n : Int) (H' : Hs),1 ≤ n∧gend [some (.ref st),some (.ref p),y2,some (.int z),y4] H = .nx [some (.ref st),some (.ref p),y2,some (.int z),y4] H'∧getL H' p = some (xs ++ [.int n])∧Fr [st,p] H H'∧St st H':= by
  have f3 : Fr [] H (H ++ [.lst [.int 10,.int 1000,.int 1000000000000000,.int 999999999999999999999999999999]]) := Fr.app
  have s3 := s.fr f3 (by simp)
  obtain ⟨r4,H4,c0,c1,t4,f4,s4⟩ := z2k (ρ := [some (.ref st),some (.ref p),y2,some (.int z),y4]) (i := 0) 4 s3 rfl
  have hlt := s.lt
  have hps : p ∉ [st] := by simpa using hp
  have g : getL H4 H.length = some [.int 10,.int 1000,.int 1000000000000000,.int 999999999999999999999999999999] := f4.getL (by simp [getL]) (by simp; omega)
  have gp : getL H4 p = some xs := f4.getL (z0n e) hps
  have ⟨v,v0,hv⟩ : ∃ v,0 < v∧ix0 (.ref H.length) (.int r4) H4 = .ok (.int v) H4:= by
    have : r4 = 0 ∨ r4 = 1 ∨ r4 = 2 ∨ r4 = 3 := by omega
    rcases this with rfl | rfl | rfl | rfl
    · exact ⟨10,by omega,by simp [ix0,z1g,ixD,g,atL,atI,ixN]⟩
    · exact ⟨1000,by omega,by simp [ix0,z1g,ixD,g,atL,atI,ixN]⟩
    · exact ⟨1000000000000000,by omega,by simp [ix0,z1g,ixD,g,atL,atI,ixN]⟩
    · exact ⟨999999999999999999999999999999,by omega,by simp [ix0,z1g,ixD,g,atL,atI,ixN]⟩
  have fr : Fr [st,p] H H4 := (f3.mono (T := [st]) (by simp)).trans f4 (fun j hj => .inl hj) |>.mono (by simp)
  have hm : 0 ≤ z % v := Int.emod_nonneg _ (by omega)
  refine ⟨1 + z % v,H4.set p (.lst (xs ++ [.int (1 + z % v)])),by omega, ?_,z18 gp,fr.trans Fr.set (by simp),s4.fr Fr.set (by simpa using Ne.symm hp)⟩
  simp [gend,z1m,mApp,mVar,isL,e,m2,mC,mLst,z00,mNil,lim,powD,iOpC,powB,subD,iOp,t4,hv,modD,modB,v0,addE,addD,appD,gp,hl]
def zeu : MS := mSeq (mAsg (mC (.int 0)) (z06 3)) (mSeq (mFor (mas z0w (z00 (mC (.int 4)) mNil)) (z06 4) zcg) gend)
theorem zev {y2 y3 y4 : Option Dv} (s : St st H) (e : getL H p = some xs) (hp : p ≠ st) (hl : xs.length < 1000000) :
    ∃ (n : Int) (y3' y4' : Option Dv) (H' : Hs),1 ≤ n∧zeu [some (.ref st),some (.ref p),y2,y3,y4] H = .nx [some (.ref st),some (.ref p),y2,y3',y4'] H'∧getL H' p = some (xs ++ [.int n])∧Fr [st,p] H H'∧St st H':= by
  obtain ⟨z,y4',H1,b1,f1,s1⟩ := zch (p := p) (y2 := y2) (y4 := y4) s
  obtain ⟨n,H2,n1,b2,e2,f2,s2⟩ := zix (y2 := y2) (y4 := y4') (z := z) s1 (f1.getL e (by simpa using hp)) hp hl
  refine ⟨n,some (.int z),y4',H2,n1, ?_,e2,(f1.mono (T := [st,p]) (by simp)).trans f2 (fun j hj => .inl hj),s2⟩
  have w0 : mAsg (mC (.int 0)) (z06 3) [some (.ref st),some (.ref p),y2,y3,y4] H = .nx [some (.ref st),some (.ref p),y2,some (.int 0),y4] H := rfl
  unfold zeu
  rw [z0f w0,z0f b1,b2]
theorem zew : zc7 = mSeq (mAsg (mLst mNil) (z06 1)) (mSeq (mFor (mas z0w (z00 (m2 addE (mC (.int 1)) (z05 F_qq (z00 (mVar 0) (z00 (mC (.int 6)) mNil)))) mNil)) (z06 2) zeu) (mRet (mVar 1))) := rfl
theorem zex (s : St st H) : ∃ (i : Nat) (ns : List Int) (H' : Hs),F_qp [.ref st] H = .ok (.ref i) H'∧getL H' i = some (ns.map Dv.int)∧OkN ns∧Fr [st] H H'∧St st H'∧H.length ≤ i:= by
  have lt0 := s.lt
  have f0 : Fr [] H (H ++ [.lst []]) := Fr.app
  have s0 := s.fr f0 (by simp)
  have e0 : getL (H ++ [.lst []]) H.length = some (([] : List Int).map Dv.int) := by simp [getL]
  have w0 : mAsg (mLst mNil) (z06 1) [some (.ref st),none,none,none,none] H = .nx [some (.ref st),some (.ref H.length),none,none,none] (H ++ [.lst []]) := rfl
  obtain ⟨r,H1,r0,r1,t1,f1,s1⟩ := z2k (ρ := [some (.ref st),some (.ref H.length),none,none,none]) (i := 0) 6 s0 rfl
  have e1 : getL H1 H.length = some (([] : List Int).map Dv.int) := f1.getL e0 (by simp; omega)
  have hr : inR (1 + r) = true := by simp [inR]; omega
  have w1 : mas z0w (z00 (m2 addE (mC (.int 1)) (z05 F_qq (z00 (mVar 0) (z00 (mC (.int 6)) mNil)))) mNil) [some (.ref st),some (.ref H.length),none,none,none] (H ++ [.lst []]) = .ok (z0m 0 (1 + r)) H1:= by
    simp [mas,z00,m2,mC,t1,addE,addD,mNil,zcb hr]
  have hN : (z0m 0 (1 + r)).n = (1 + r).toNat := by simp [z0m]
  obtain ⟨ρ',H',h1,ns,y2,y3,y4,h2,h3,h4,h5,h6,h7⟩ := z21 (b := zeu) (sg := z06 2) w1
    (fun k ρ H' => ∃ (ns : List Int) (y2 y3 y4 : Option Dv),ρ = [some (.ref st),some (.ref H.length),y2,y3,y4]∧getL H' H.length = some (ns.map Dv.int)∧ns.length = k∧(∀ n ∈ ns,1 ≤ n)∧Fr [st,H.length] H1 H'∧St st H')
    (fun k ρ H' hk ⟨ns,y2,y3,y4,e1,e2,e3,e4,e5,e6⟩ => by
      subst e1
      rw [hN] at hk
      obtain ⟨n,z3,z4,H2,n1,b1,b2,b3,b4⟩ := zev (y2 := some (.int (0 + (k : Int)))) (y3 := y3) (y4 := y4) e6 e2 (by omega) (by simp; omega)
      refine ⟨.int (0 + (k : Int)),_,_,_,rfl,rfl,b1,ns ++ [n],_,_,_,rfl,by rw [b2]; simp,by simp [e3],fun a ha => ?_,e5.trans b3 (fun j hj => .inl hj),b4⟩
      simp at ha
      rcases ha with ha | rfl
      · exact e4 a ha
      · exact n1) (fun _ _ _ => rfl) ⟨[],none,none,none,rfl,e1,rfl,by simp,Fr.refl,s1⟩
  rw [hN] at h4
  have z0 : F_qp [.ref st] H = z1c (zc7 [some (.ref st),none,none,none,none] H) := rfl
  refine ⟨H.length,ns,H', ?_,h3,⟨by omega,by omega,h5⟩, ?_,h7,Nat.le_refl _⟩
  · have z : zc7 [some (.ref st),none,none,none,none] H = .rt (.ref H.length) H':= by
      rw [zew,z0f w0,z0f h1,h2]; rfl
    rw [z0,z]; rfl
  · have a1 := f0.mono (T := [st]) (by simp)
    have a2 := a1.trans f1 (fun j hj => .inl hj)
    exact a2.trans h6 (fun j hj => by simp at hj; rcases hj with rfl | rfl <;> simp)
end
def z89 : M Dv := mLst (z00 (mC .non) (z00 (mLst mNil) (z00 (mLst (z00 (mC (.int 0)) mNil)) (z00 (mLst (z00 (mC (.int 1)) (z00 (m1 negD (mC (.int 1))) mNil))) (z00 (mLst (z00 (mC (.bl true)) mNil)) (z00 (mLst (z00 (mC (.str "1")) mNil)) (z00 (mTup (z00 (mC (.int 1)) (z00 (mC (.int 2)) mNil))) (z00 (m2 repD (mLst (z00 (mC (.int 1)) mNil)) (mC (.int 7))) (z00 (mC .edc) (z00 (mC (.int 3)) (z00 (mLst (z00 (mC .non) mNil)) (z00 (mLst (z00 (mLst (z00 (mC (.int 1)) mNil)) mNil)) (z00 (mLst (z00 (mC (.int 1)) (z00 (mTup (z00 (mC (.int 2)) mNil)) mNil))) (z00 (mC (.str "12")) mNil))))))))))))))
theorem zmh : zeb = mSeq (mAsg z89 (z06 1)) (mRet (m2 ix0 (mVar 1) (z05 F_qq (z00 (mVar 0) (z00 (mC (.int 14)) mNil))))) := rfl
theorem ziy : UpE z89 := (z29 (z0c u_c (z0c (z29 z0y) (z0c (z29 (z0c u_c z0y)) (z0c (z29 (z0c u_c (z0c (u_m1 z92 u_c) z0y))) (z0c (z29 (z0c u_c z0y)) (z0c (z29 (z0c u_c z0y)) (z0c (zdv (z0c u_c (z0c u_c z0y))) (z0c (u_m2 zm3 (z29 (z0c u_c z0y)) u_c) (z0c u_c (z0c u_c (z0c (z29 (z0c u_c z0y)) (z0c (z29 (z0c (z29 (z0c u_c z0y)) z0y)) (z0c (z29 (z0c u_c (z0c (zdv (z0c u_c z0y)) z0y))) (z0c u_c z0y)))))))))))))))
def z2d : Hs := match z89 [none,none] [] with
  | .ok _ l => l
  | _ => []
def z8a : Nat := match z89 [none,none] [] with
  | .ok (.ref i) _ => i
  | _ => 0
def z6k : List Dv := (getL z2d z8a).getD []
theorem zey : z89 [none,none] [] = .ok (.ref z8a) z2d := rfl
theorem ziz : ∀ k : Nat,k < 14→∃ d,z6k[k]? = some d∧ix0 (.ref z8a) (.int (k : Int)) z2d = .ok d z2d:= by
  intro k hk
  match k,hk with
  | 0,_ => exact ⟨_,rfl,rfl⟩
  | 1,_ => exact ⟨_,rfl,rfl⟩
  | 2,_ => exact ⟨_,rfl,rfl⟩
  | 3,_ => exact ⟨_,rfl,rfl⟩
  | 4,_ => exact ⟨_,rfl,rfl⟩
  | 5,_ => exact ⟨_,rfl,rfl⟩
  | 6,_ => exact ⟨_,rfl,rfl⟩
  | 7,_ => exact ⟨_,rfl,rfl⟩
  | 8,_ => exact ⟨_,rfl,rfl⟩
  | 9,_ => exact ⟨_,rfl,rfl⟩
  | 10,_ => exact ⟨_,rfl,rfl⟩
  | 11,_ => exact ⟨_,rfl,rfl⟩
  | 12,_ => exact ⟨_,rfl,rfl⟩
  | 13,_ => exact ⟨_,rfl,rfl⟩
  | k + 14,h => omega
def t2M : M Bool := mB (m2 neD (mRef [5] 4 14 z87 z6h) (mLst (z00 (mC (.int 13)) mNil)))
def t3M : M Bool := mB (m2 neD (mRef [5] 4 14 z87 z6i) (mLst (z00 (mC (.int 13)) mNil)))
theorem zoq : UpT t2M := u_B (u_m2 zlv (zm0 z1y z9w) (z29 (z0c u_c z0y)))
theorem zor : UpT t3M := u_B (u_m2 zlv (zm0 z1y z9x) (z29 (z0c u_c z0y)))
def exB (k : Nat) : Bool := match t2M [none,none,none,none,none,z6k[k]?] z2d with
  | .ok false l => match t3M [none,none,none,none,none,z6k[k]?] l with
    | .ok false _ => true
    | _ => false
  | _ => false
theorem zci : ((List.range 14).all fun k => exB k) = true := by decide +kernel
section
variable {H : Hs} {st : Nat}
theorem zmi (s : St st H) : ∃ (k : Nat) (d : Dv) (B : Hs),k < 14∧z6k[k]? = some d∧F_qd [.ref st] H = .ok (sh B.length d) (B ++ shH B.length z2d):= by
  have lt := s.lt
  have v : UpV H.length [none,none] [some (.ref st),none] := ⟨rfl,fun i d q => by
    match i,q with
    | 0,q => cases q
    | 1,q => cases q
    | i + 2,q => cases q⟩
  have u := ziy H [none,none] [some (.ref st),none] [] v
  rw [zey] at u
  have u' : z89 [some (.ref st),none] H = .ok (.ref (H.length + z8a)) (H ++ shH H.length z2d):= by
    have e : H ++ shH H.length [] = H := by simp [shH]
    rw [e] at u
    exact u
  obtain ⟨a,b,es⟩ := s.fr (Fr.app (S := []) (l := shH H.length z2d)) (by simp)
  obtain ⟨r,a',r0,r1,ht⟩ := z96 _ _ _ _ 14 (by decide) (by decide) es
  have hset : (H ++ shH H.length z2d).set st (.lst [.int a',.bl b]) = H.set st (.lst [.int a',.bl b]) ++ shH (H.set st (.lst [.int a',.bl b])).length z2d:= by
    rw [List.length_set,List.set_append_left _ _ lt]
  rw [hset] at ht
  generalize hB : H.set st (.lst [.int a',.bl b]) = B at ht
  have hl : B.length = H.length := by rw [← hB,List.length_set]
  obtain ⟨k,rfl⟩ : ∃ k : Nat,r = k := ⟨r.toNat,by omega⟩
  have hk : k < 14 := by omega
  obtain ⟨d,hd,hx⟩ := ziz k hk
  have hx' := z5o B (.ref z8a) (.int (k : Int)) z2d
  rw [hx] at hx'
  have hx2 : ix0 (.ref (H.length + z8a)) (.int (k : Int)) (B ++ shH B.length z2d) = .ok (sh B.length d) (B ++ shH B.length z2d):= by
    rw [← hl]; exact hx'
  refine ⟨k,d,B,hk,hd, ?_⟩
  show z1c (zeb [some (.ref st),none] H) = _
  have w1 : mAsg z89 (z06 1) [some (.ref st),none] H = .nx [some (.ref st),some (.ref (H.length + z8a))] (H ++ shH H.length z2d):= by
    simp [mAsg,u',z06]
  rw [zmh,z0f w1]
  simp [mRet,m2,mVar,z05,z00,mC,mNil,ht,hx2,z1c]
theorem zos {a b c x3 x4 : Option Dv} {d : Dv} {k : Nat} {B : Hs} (hk : k < 14) (hd : z6k[k]? = some d) :
    ∃ H',mSeq (mIf t2M (mRet (mC (.bl false))) z0p) (mIf t3M (mRet (mC (.bl false))) z0p) [a,b,c,x3,x4,some (sh B.length d)] (B ++ shH B.length z2d) = .nx [a,b,c,x3,x4,some (sh B.length d)] H':= by
  have h := List.all_eq_true.mp zci k (by simpa using hk)
  have v : UpV B.length [none,none,none,none,none,z6k[k]?] [a,b,c,x3,x4,some (sh B.length d)] := ⟨rfl,fun i d' q => by
    match i,q with
    | 0,q => cases q
    | 1,q => cases q
    | 2,q => cases q
    | 3,q => cases q
    | 4,q => cases q
    | 5,q =>
      have q' : z6k[k]? = some d' := by simpa using q
      rw [hd] at q'; cases q'; rfl
    | i + 6,q => cases q⟩
  have u2 := zoq B _ _ z2d v
  unfold exB at h
  cases q2 : t2M [none,none,none,none,none,z6k[k]?] z2d with
  | bad => rw [q2] at h; cases h
  | ex c l => rw [q2] at h; cases h
  | ok b2 l =>
    rw [q2] at h u2
    cases b2 with
    | true => cases h
    | false =>
      dsimp only at h
      have u3 := zor B _ _ l v
      cases q3 : t3M [none,none,none,none,none,z6k[k]?] l with
      | bad => rw [q3] at h; cases h
      | ex c l => rw [q3] at h; cases h
      | ok b3 l3 =>
        rw [q3] at h u3
        cases b3 with
        | true => cases h
        | false =>
          refine ⟨B ++ shH B.length l3, ?_⟩
          rw [z0f (ρ1 := [a,b,c,x3,x4,some (sh B.length d)]) (h1 := B ++ shH B.length l) (by rw [if_F u2]; rfl),if_F u3]
          rfl
end
theorem z9a {H : Hs} (x : Int) : F_qr 6 [.int x,.int x] H = .ok (.bl true) H:= by
  simp [F_qr,zii,z0x,z0o,mSeq,mIf,mTru,m1,isiD,mVar,tyD,zdr,truD,z0p,mRet,z62,m2,eqD,z16,pur,deq,z2z,z1c]
def prOf : Dv→Option (Int × Int)
  | .tup [.int a,.int b] => some (a,b)
  | _ => none
theorem zj0 {d : Dv} {p : Int × Int} (h : prOf d = some p) : d = prD p:= by
  unfold prOf at h
  split at h
  · cases h; rfl
  · cases h
theorem z9b : ∀ {ds : List Dv} {ps : List (Int × Int)},optL prOf ds = some ps→ds = ps.map prD
  | [],ps,h => by cases h; rfl
  | d :: ds,ps,h => by
    unfold optL at h
    cases q : prOf d with
    | none => rw [q] at h; cases h
    | some p =>
      rw [q] at h
      dsimp only at h
      cases q2 : optL prOf ds with
      | none => rw [q2] at h; cases h
      | some qs => rw [q2] at h; cases h; rw [zj0 q,z9b q2]; rfl
def zj1 : Dv→Option (Nat × List (Int × Int))
  | .tup [.int n,.tup ds] => if 0 ≤ n then (optL prOf ds).map fun ps => (n.toNat,ps) else none
  | _ => none
theorem zez {d : Dv} {n : Nat} {ps : List (Int × Int)} (h : zj1 d = some (n,ps)) : d = ordD n ps:= by
  unfold zj1 at h
  split at h
  · rename_i m ds
    split at h
    · rename_i h0
      cases q : optL prOf ds with
      | none => rw [q] at h; cases h
      | some qs =>
        rw [q] at h
        cases h
        rw [z9b q]
        unfold ordD
        rw [Int.toNat_of_nonneg h0]
    · cases h
  · cases h
end L2.Mr.K71
namespace L2.Mr
open PySem PySem.Spec PyProof.Rows L2
def bump (up : List Int) (b v : Int) : Option (List Int) := match ixN up.length b with
  | none => none
  | some k => match up[k]? with
    | none => none
    | some u => some (up.set k (if v > u then v else u))
def upP (fs : List Int) : List Int→List (Int × Int)→Option (List Int)
  | up,[] => some up
  | up,p :: ps => match atI fs p.1 with
    | none => none
    | some f => match bump up p.2 (f + 1) with
      | none => none
      | some up1 => upP fs up1 ps
def upQ (r : Int) (fs : List Int) : List Int→List (Int × Int)→Option (List Int)
  | up,[] => some up
  | up,p :: ps => match atI fs p.2 with
    | none => none
    | some f2 => match bump up p.1 (f2 - r) with
      | none => none
      | some up1 => match atI fs p.1 with
        | none => none
        | some f1 => match bump up1 p.2 (f1 - r) with
          | none => none
          | some up2 => upQ r fs up2 ps
theorem zcj {α β : Type} (f : α→β) (xs : List α) (i : Int) : atI (xs.map f) i = (atI xs i).map f:= by
  unfold atI
  rw [List.length_map]
  cases ixN xs.length i with
  | none => rfl
  | some k => simp
section
variable {H : Hs} {j : Nat} {up up1 : List Int} {b v : Int} {ρ : Ev} {x : Nat}
theorem z8b {mv : M Dv} (hj : getL H j = some (up.map Dv.int)) (h4 : ρ[4]? = some (some (.ref j))) (hx : ρ[x]? = some (some (.int b))) (hv : mv ρ H = .ok (.int v) H) (h : bump up b v = some up1) :
    z24 (mVar 4) (mVar x) (z05 z35 (z00 (m2 ix0 (mVar 4) (mVar x)) (z00 mv mNil))) ρ H = .nx ρ (H.set j (.lst (up1.map Dv.int))):= by
  unfold bump at h
  split at h
  · cases h
  · rename_i k hk
    split at h
    · cases h
    · rename_i u hu
      cases h
      have ha : atI (up.map Dv.int) b = some (.int u) := by rw [zcj]; unfold atI; rw [hk]; simp [hu]
      have hk' : ixN (up.map Dv.int).length b = some k := by rw [List.length_map]; exact hk
      simp only [z24,z05,z00,m2,mVar,h4,hx,Rs.bind_ok,ix0,z1g,ixD,hj,atL,ha,hv,mNil,z35,if_true]
      simp only [Rs.thenS,setD,hj,hk',List.map_set]
end
theorem z9c {H : Hs} {j : Nat} {xs : List Dv} (e : getL H j = some xs) : H.set j (.lst xs) = H:= by
  apply List.ext_getElem?
  intro k
  by_cases hk : j = k
  · subst hk; rw [List.getElem?_set_self (z20 e),z0h e]
  · rw [List.getElem?_set_ne hk]
def b1 : MS := z24 (mVar 4) (mVar 6) (z05 z35 (z00 (m2 ix0 (mVar 4) (mVar 6)) (z00 (m2 addE (m2 ix0 (mVar 2) (mVar 5)) (mC (.int 1))) mNil)))
def b2 : MS := mSeq (z24 (mVar 4) (mVar 5) (z05 z35 (z00 (m2 ix0 (mVar 4) (mVar 5)) (z00 (m2 subD (m2 ix0 (mVar 2) (mVar 6)) (mVar 1)) mNil)))) (z24 (mVar 4) (mVar 6) (z05 z35 (z00 (m2 ix0 (mVar 4) (mVar 6)) (z00 (m2 subD (m2 ix0 (mVar 2) (mVar 5)) (mVar 1)) mNil))))
def tg2 : Tgt := sTup 2 (z1e (z06 5) (z1e (z06 6) sNil))
section
variable {d : Dv} {r : Int} {i j : Nat} {fs : List Int}
theorem zck {H : Hs} {a f : Int} (e : getL H i = some (fs.map Dv.int)) (h : atI fs a = some f) : ix0 (.ref i) (.int a) H = .ok (.int f) H:= by
  have : atI (fs.map Dv.int) a = some (.int f) := by rw [zcj,h]; rfl
  simp only [ix0,z1g,ixD,e,atL,this,if_true]
theorem zot {H : Hs} {x3 : Option Dv} {up up1 : List Int} {a b f : Int} (ei : getL H i = some (fs.map Dv.int)) (ej : getL H j = some (up.map Dv.int)) (hf : atI fs a = some f) (h : bump up b (f + 1) = some up1) :
    b1 [some d,some (.int r),some (.ref i),x3,some (.ref j),some (.int a),some (.int b)] H = .nx [some d,some (.int r),some (.ref i),x3,some (.ref j),some (.int a),some (.int b)] (H.set j (.lst (up1.map Dv.int))) :=
  z8b (x := 6) ej rfl rfl (by simp [m2,mVar,zck ei hf,mC,addE,addD]) h
theorem zou {H : Hs} {x3 : Option Dv} {up up1 up2 : List Int} {a b f f2 : Int} (hij : j ≠ i) (ei : getL H i = some (fs.map Dv.int)) (ej : getL H j = some (up.map Dv.int)) (hf : atI fs a = some f) (hf2 : atI fs b = some f2) (h : bump up a (f2 - r) = some up1) (h2 : bump up1 b (f - r) = some up2) :
    b2 [some d,some (.int r),some (.ref i),x3,some (.ref j),some (.int a),some (.int b)] H = .nx [some d,some (.int r),some (.ref i),x3,some (.ref j),some (.int a),some (.int b)] (H.set j (.lst (up2.map Dv.int))):= by
  unfold b2
  rw [z0f (z8b (x := 5) ej rfl rfl (by simp [m2,mVar,zck ei hf2,subD,iOp]) h)]
  have ei' : getL (H.set j (.lst (up1.map Dv.int))) i = some (fs.map Dv.int) := by rw [z30 hij]; exact ei
  rw [z8b (x := 6) (z18 ej) rfl rfl (by simp [m2,mVar,zck ei' hf,subD,iOp]) h2,List.set_set]
theorem zov {H H1 : Hs} {x3 x5 x6 : Option Dv} {up v : List Int} {ps : List (Int × Int)} {mi : M Src} (hij : j ≠ i) (ei : getL H i = some (fs.map Dv.int)) (ej : getL H j = some (up.map Dv.int)) (h : upP fs up ps = some v)
    (hi : mi [some d,some (.int r),some (.ref i),x3,some (.ref j),x5,x6] H = .ok (srcL (ps.map prD)) H) :
    ∃ y5 y6,mFor mi tg2 b1 [some d,some (.int r),some (.ref i),x3,some (.ref j),x5,x6] H = .nx [some d,some (.int r),some (.ref i),x3,some (.ref j),y5,y6] (H.set j (.lst (v.map Dv.int))):= by
  have hn : (srcL (ps.map prD)).n = ps.length := by simp [srcL]
  obtain ⟨ρ',H',h1,y5,y6,up',h2,h3,h4⟩ := z21 (b := b1) (sg := tg2) hi (fun k ρ H' => ∃ (y5 y6 : Option Dv) (up' : List Int),ρ = [some d,some (.int r),some (.ref i),x3,some (.ref j),y5,y6]∧H' = H.set j (.lst (up'.map Dv.int))∧upP fs up' (ps.drop k) = some v)
    (fun k ρ H' hk ⟨y5,y6,up',e1,e2,e3⟩ => by
      subst e1; subst e2
      rw [hn] at hk
      rw [List.drop_eq_getElem_cons hk] at e3
      unfold upP at e3
      cases hf : atI fs ps[k].1 with
      | none => rw [hf] at e3; cases e3
      | some f =>
        rw [hf] at e3
        dsimp only at e3
        cases hb : bump up' ps[k].2 (f + 1) with
        | none => rw [hb] at e3; cases e3
        | some up1 =>
          rw [hb] at e3
          dsimp only at e3
          have ei' : getL (H.set j (.lst (up'.map Dv.int))) i = some (fs.map Dv.int) := by rw [z30 hij]; exact ei
          refine ⟨prD ps[k],[some d,some (.int r),some (.ref i),x3,some (.ref j),some (.int ps[k].1),some (.int ps[k].2)],_,_,by simp [srcL,hk],rfl,zot ei' (z18 ej) hf hb,_,_,up1,rfl,by rw [List.set_set],e3⟩) (fun _ _ _ => rfl) ⟨x5,x6,up,rfl,(z9c ej).symm,h⟩
  rw [hn,List.drop_length] at h4
  have : up' = v := by simpa [upP] using h4
  subst this
  exact ⟨y5,y6,by rw [h1,h2,h3]⟩
theorem zow {H : Hs} {x3 x5 x6 : Option Dv} {q : Nat} {up v : List Int} {qs : List (Int × Int)} {mi : M Src} {H0 : Hs} (hij : j ≠ i) (hqj : j ≠ q) (ei : getL H i = some (fs.map Dv.int)) (ej : getL H j = some (up.map Dv.int)) (eq : getL H q = some (qs.map prD)) (h : upQ r fs up qs = some v)
    (hi : mi [some d,some (.int r),some (.ref i),x3,some (.ref j),x5,x6] H0 = .ok (srcR q qs.length) H) :
    ∃ y5 y6,mFor mi tg2 b2 [some d,some (.int r),some (.ref i),x3,some (.ref j),x5,x6] H0 = .nx [some d,some (.int r),some (.ref i),x3,some (.ref j),y5,y6] (H.set j (.lst (v.map Dv.int))):= by
  have hn : (srcR q qs.length).n = qs.length := rfl
  obtain ⟨ρ',H',h1,y5,y6,up',h2,h3,h4⟩ := z21 (b := b2) (sg := tg2) hi (fun k ρ H' => ∃ (y5 y6 : Option Dv) (up' : List Int),ρ = [some d,some (.int r),some (.ref i),x3,some (.ref j),y5,y6]∧H' = H.set j (.lst (up'.map Dv.int))∧upQ r fs up' (qs.drop k) = some v)
    (fun k ρ H' hk ⟨y5,y6,up',e1,e2,e3⟩ => by
      subst e1; subst e2
      rw [hn] at hk
      rw [List.drop_eq_getElem_cons hk] at e3
      unfold upQ at e3
      have ei' : getL (H.set j (.lst (up'.map Dv.int))) i = some (fs.map Dv.int) := by rw [z30 hij]; exact ei
      have eq' : getL (H.set j (.lst (up'.map Dv.int))) q = some (qs.map prD) := by rw [z30 hqj]; exact eq
      cases hf : atI fs qs[k].2 with
      | none => rw [hf] at e3; cases e3
      | some f =>
        rw [hf] at e3
        dsimp only at e3
        cases hb : bump up' qs[k].1 (f - r) with
        | none => rw [hb] at e3; cases e3
        | some up1 =>
          rw [hb] at e3
          dsimp only at e3
          cases hf2 : atI fs qs[k].1 with
          | none => rw [hf2] at e3; cases e3
          | some f2 =>
            rw [hf2] at e3
            dsimp only at e3
            cases hb2 : bump up1 qs[k].2 (f2 - r) with
            | none => rw [hb2] at e3; cases e3
            | some up2 =>
              rw [hb2] at e3
              dsimp only at e3
              have eg : (srcR q qs.length).get k (H.set j (.lst (up'.map Dv.int))) = some (prD qs[k]) := by simp [srcR,eq',hk]
              refine ⟨prD qs[k],[some d,some (.int r),some (.ref i),x3,some (.ref j),some (.int qs[k].1),some (.int qs[k].2)],_,_,eg,rfl,zou hij ei' (z18 ej) hf2 hf hb hb2,_,_,up2,rfl,by rw [List.set_set],e3⟩)
    (fun ρ H' ⟨_,_,up',_,e2,_⟩ => by
      subst e2
      have eq' : getL (H.set j (.lst (up'.map Dv.int))) q = some (qs.map prD) := by rw [z30 hqj]; exact eq
      simp [srcR,eq']) ⟨x5,x6,up,rfl,(z9c ej).symm,h⟩
  rw [hn,List.drop_length] at h4
  have : up' = v := by simpa [upQ] using h4
  subst this
  exact ⟨y5,y6,by rw [h1,h2,h3]⟩
end
theorem z53 : ∀ xs ys : List Int,deqL (xs.map Dt.int) (ys.map Dt.int) = decide (xs = ys)
  | [],[] => by simp [deqL]
  | [],y :: ys => by simp [deqL]
  | x :: xs,[] => by simp [deqL]
  | x :: xs,y :: ys => by
    simp only [List.map_cons,deqL,z53 xs ys,deq]
    rw [Bool.eq_iff_iff]; simp
theorem zj2 {H : Hs} {i j : Nat} {xs ys : List Int} (ei : getL H i = some (xs.map Dv.int)) (ej : getL H j = some (ys.map Dv.int)) : eqD (.ref i) (.ref j) H = .ok (.bl (decide (xs = ys))) H:= by
  have p : ∀ (i : Nat) (xs : List Int),getL H i = some (xs.map Dv.int)→pur z16 H (.ref i) = some (.lst (xs.map Dt.int)):= fun i xs e => by
    show pur (28 + 1 + 1) H (.ref i) = _
    rw [pur]
    simp only [e,z3a]
  unfold eqD
  rw [p i xs ei,p j ys ej]
  simp only [deq,z53]
def z9d (ps qs : List (Int × Int)) (r : Int) (fs : List Int) : Option (List Int) := match upP fs fs ps with
  | none => none
  | some up => upQ r fs up qs
def lwP (n : Int) (ps qs : List (Int × Int)) (r : Int) : Nat→List Int→Option (Option (List Int))
  | 0,fs => some none
  | f + 1,fs => match z9d ps qs r fs with
    | none => none
    | some up => if up = fs then some (some fs) else if up.length = 0 then none else if maxI up ≥ n then some none else lwP n ps qs r f up
def encR : Option (List Int)→Dv
  | none => .non
  | some fs => .tup (fs.map Dv.int)
def lwB (Fl : List Dv→Hs→Rs Dv) : MS := mSeq (mAsg (z05 (f1 z4o) (z00 (mVar 2) mNil)) (z06 4)) (mSeq (mFor (m1s tupS (m2 ix0 (mVar 0) (mC (.int 1)))) tg2 b1) (mSeq (mFor (m1s lstD (z05 Fl (z00 (mVar 0) mNil))) tg2 b2) (mSeq (mIf (mB (m2 eqD (mVar 4) (mVar 2))) (mRet (z05 (f1 z2g) (z00 (mVar 2) mNil))) z0p) (mSeq (mAsg (mVar 4) (z06 2)) (mIf (mB (m2 geD (z05 (f1 (l1D maxI)) (z00 (mVar 2) mNil)) (m2 ix0 (mVar 0) (mC (.int 0))))) (mRet (mC .non)) z0p)))))
def lwM (Fl : List Dv→Hs→Rs Dv) : MS := mSeq (mAsg (m2 repD (mLst (z00 (mC (.int 0)) mNil)) (m2 ix0 (mVar 0) (mC (.int 0)))) (z06 2)) (mSeq (mFor (mas z0w (z00 (m2 addE (m2 mulD (m2 ix0 (mVar 0) (mC (.int 0))) (m2 ix0 (mVar 0) (mC (.int 0)))) (mC (.int 2))) mNil)) (z06 3) (lwB Fl)) (mRet (mC .non)))
theorem z7m : ∀ ns : List Int,optL intD (ns.map Dv.int) = some ns
  | [] => rfl
  | n :: ns => by simp [optL,intD,z7m ns]
section
variable {d : Dv} {n r : Int} {ps qs : List (Int × Int)} {Fl : List Dv→Hs→Rs Dv}
theorem zj3 (hx0 : ∀ H,ix0 d (.int 0) H = .ok (.int n) H) (hx1 : ∀ H,ix0 d (.int 1) H = .ok (.tup (ps.map prD)) H) (hL : ∀ H,Fl [d] H = .ok (.ref H.length) (H ++ [Ob.lst (qs.map prD)]))
    {H : Hs} {i : Nat} {x3 x4 x5 x6 : Option Dv} {fs up : List Int} (ei : getL H i = some (fs.map Dv.int)) (ht : z9d ps qs r fs = some up) :
    ∃ (H' : Hs),Fr [] H H'∧(up = fs→lwB Fl [some d,some (.int r),some (.ref i),x3,x4,x5,x6] H = .rt (.tup (fs.map Dv.int)) H') ∧
      (up ≠ fs→up.length ≠ 0→if maxI up ≥ n then lwB Fl [some d,some (.int r),some (.ref i),x3,x4,x5,x6] H = .rt .non H' else ∃ (j : Nat) (y4 y5 y6 : Option Dv),lwB Fl [some d,some (.int r),some (.ref i),x3,x4,x5,x6] H = .nx [some d,some (.int r),some (.ref j),x3,y4,y5,y6] H'∧getL H' j = some (up.map Dv.int)):= by
  unfold z9d at ht
  cases hp : upP fs fs ps with
  | none => rw [hp] at ht; cases ht
  | some u1 =>
    rw [hp] at ht
    dsimp only at ht
    have li := z20 ei
    have w0 : mAsg (z05 (f1 z4o) (z00 (mVar 2) mNil)) (z06 4) [some d,some (.int r),some (.ref i),x3,x4,x5,x6] H = .nx [some d,some (.int r),some (.ref i),x3,some (.ref H.length),x5,x6] (H ++ [Ob.lst (fs.map Dv.int)]):= by
      simp [mAsg,z05,z00,mVar,mNil,f1,z4o,z1g,z9n,seqD,ei,z06]
    have f0 : Fr [] H (H ++ [Ob.lst (fs.map Dv.int)]) := Fr.app
    have ei0 := z0n (l := [Ob.lst (fs.map Dv.int)]) ei
    have ej0 : getL (H ++ [Ob.lst (fs.map Dv.int)]) H.length = some (fs.map Dv.int) := by simp [getL]
    have hl0 : (H ++ [Ob.lst (fs.map Dv.int)]).length = H.length + 1 := by simp
    generalize hH0 : H ++ [Ob.lst (fs.map Dv.int)] = H0 at w0 f0 ei0 ej0 hl0
    obtain ⟨y5,y6,w1⟩ := zov (d := d) (r := r) (i := i) (j := H.length) (H := H0) (H1 := H0) (x3 := x3) (x5 := x5) (x6 := x6) (mi := m1s tupS (m2 ix0 (mVar 0) (mC (.int 1)))) (by omega) ei0 ej0 hp (by simp [m1s,m2,mVar,mC,hx1,tupS])
    have ei1 : getL (H0.set H.length (Ob.lst (u1.map Dv.int))) i = some (fs.map Dv.int) := by rw [z30 (by omega)]; exact ei0
    have ej1 : getL (H0.set H.length (Ob.lst (u1.map Dv.int))) H.length = some (u1.map Dv.int) := z18 ej0
    have f1' : Fr [] H (H0.set H.length (Ob.lst (u1.map Dv.int))) := f0.trans (T := [H.length]) Fr.set (by simp)
    have hl1 : (H0.set H.length (Ob.lst (u1.map Dv.int))).length = H.length + 1 := by simp [hl0]
    generalize H0.set H.length (Ob.lst (u1.map Dv.int)) = H1 at w1 ei1 ej1 f1' hl1
    have eq2 : getL (H1 ++ [Ob.lst (qs.map prD)]) H1.length = some (qs.map prD) := by simp [getL]
    obtain ⟨z5,z6,w2⟩ := zow (d := d) (r := r) (i := i) (j := H.length) (H := H1 ++ [Ob.lst (qs.map prD)]) (H0 := H1) (x3 := x3) (x5 := y5) (x6 := y6) (q := H1.length) (mi := m1s lstD (z05 Fl (z00 (mVar 0) mNil))) (by omega) (by omega) (z0n ei1) (z0n ej1) eq2 ht (by simp [m1s,z05,z00,mVar,mNil,hL,lstD,eq2])
    have ei2 : getL ((H1 ++ [Ob.lst (qs.map prD)]).set H.length (Ob.lst (up.map Dv.int))) i = some (fs.map Dv.int) := by rw [z30 (by omega)]; exact z0n ei1
    have ej2 : getL ((H1 ++ [Ob.lst (qs.map prD)]).set H.length (Ob.lst (up.map Dv.int))) H.length = some (up.map Dv.int) := z18 (z0n ej1)
    have f2' : Fr [] H ((H1 ++ [Ob.lst (qs.map prD)]).set H.length (Ob.lst (up.map Dv.int))) := (f1'.trans (T := []) Fr.app (by simp)).trans (T := [H.length]) Fr.set (by simp)
    generalize (H1 ++ [Ob.lst (qs.map prD)]).set H.length (Ob.lst (up.map Dv.int)) = H2 at w2 ei2 ej2 f2'
    have t : mB (m2 eqD (mVar 4) (mVar 2)) [some d,some (.int r),some (.ref i),x3,some (.ref H.length),z5,z6] H2 = .ok (decide (up = fs)) H2:= by
      simp [mB,m2,mVar,zj2 ej2 ei2,asB]
    refine ⟨H2,f2',fun h => ?_,fun h hz => ?_⟩
    · unfold lwB
      rw [z0f w0,z0f w1,z0f w2]
      unfold mSeq
      rw [if_T (t.trans (by rw [decide_eq_true h]))]
      simp [mRet,z05,z00,mVar,mNil,f1,z2g,ei2,Rs.thenS]
    · have hz' : 0 < up.length := by omega
      have w3 : mIf (mB (m2 eqD (mVar 4) (mVar 2))) (mRet (z05 (f1 z2g) (z00 (mVar 2) mNil))) z0p [some d,some (.int r),some (.ref i),x3,some (.ref H.length),z5,z6] H2 = .nx [some d,some (.int r),some (.ref i),x3,some (.ref H.length),z5,z6] H2:= by
        rw [if_F (t.trans (by rw [decide_eq_false h]))]; rfl
      have w4 : mAsg (mVar 4) (z06 2) [some d,some (.int r),some (.ref i),x3,some (.ref H.length),z5,z6] H2 = .nx [some d,some (.int r),some (.ref H.length),x3,some (.ref H.length),z5,z6] H2 := rfl
      have t2 : mB (m2 geD (z05 (f1 (l1D maxI)) (z00 (mVar 2) mNil)) (m2 ix0 (mVar 0) (mC (.int 0)))) [some d,some (.int r),some (.ref H.length),x3,some (.ref H.length),z5,z6] H2 = .ok (decide (maxI up ≥ n)) H2:= by
        simp [mB,m2,z05,z00,mVar,mNil,f1,l1D,ej2,z7m,hz',mC,hx0,geD,iOp,asB]
      split
      · rename_i hm
        unfold lwB
        rw [z0f w0,z0f w1,z0f w2,z0f w3,z0f w4,if_T (t2.trans (by rw [decide_eq_true hm]))]
        rfl
      · rename_i hm
        refine ⟨H.length,some (.ref H.length),z5,z6, ?_,ej2⟩
        unfold lwB
        rw [z0f w0,z0f w1,z0f w2,z0f w3,z0f w4,if_F (t2.trans (by rw [decide_eq_false hm]))]
        rfl
theorem zcl {m : Int} (hx0 : ∀ H,ix0 d (.int 0) H = .ok (.int n) H) (hx1 : ∀ H,ix0 d (.int 1) H = .ok (.tup (ps.map prD)) H) (hL : ∀ H,Fl [d] H = .ok (.ref H.length) (H ++ [Ob.lst (qs.map prD)])) (res : Option (List Int)) :
    ∀ (f k : Nat) (fs : List Int) (H : Hs) (i : Nat) (x3 x4 x5 x6 : Option Dv),getL H i = some (fs.map Dv.int)→lwP n ps qs r f fs = some res →
      ∃ H',Fr [] H H'∧(forM (z0m 0 m) (z06 3) (lwB Fl) f k [some d,some (.int r),some (.ref i),x3,x4,x5,x6] H = .rt (encR res) H' ∨ res = none∧∃ ρ',forM (z0m 0 m) (z06 3) (lwB Fl) f k [some d,some (.int r),some (.ref i),x3,x4,x5,x6] H = .nx ρ' H')
  | 0,k,fs,H,i,x3,x4,x5,x6,ei,h => by
    cases h
    exact ⟨H,Fr.refl,.inr ⟨rfl,_,rfl⟩⟩
  | f + 1,k,fs,H,i,x3,x4,x5,x6,ei,h => by
    unfold lwP at h
    cases ht : z9d ps qs r fs with
    | none => rw [ht] at h; cases h
    | some up =>
      rw [ht] at h
      dsimp only at h
      obtain ⟨H1,f1,c1,c2⟩ := zj3 (x3 := some (.int (0 + (k : Int)))) (x4 := x4) (x5 := x5) (x6 := x6) hx0 hx1 hL ei ht
      have ex : ∀ (rr : Sr),(∀ ρ h,rr ≠ .nx ρ h)→(∀ ρ h,rr ≠ .ct ρ h)→(∀ ρ h,rr ≠ .bk ρ h)→lwB Fl [some d,some (.int r),some (.ref i),some (.int (0 + (k : Int))),x4,x5,x6] H = rr→forM (z0m 0 m) (z06 3) (lwB Fl) (f + 1) k [some d,some (.int r),some (.ref i),x3,x4,x5,x6] H = rr:= fun rr h1 h2 h3 e => by
        rw [forM]
        have e' : lwB Fl (List.set [some d,some (.int r),some (.ref i),x3,x4,x5,x6] 3 (some (.int (0 + (k : Int))))) H = rr := e
        simp only [z0m,z06]
        rw [e']
        cases rr with
        | nx ρ h => exact absurd rfl (h1 ρ h)
        | ct ρ h => exact absurd rfl (h2 ρ h)
        | bk ρ h => exact absurd rfl (h3 ρ h)
        | _ => rfl
      split at h
      · rename_i he
        cases h
        exact ⟨H1,f1,.inl (ex _ (by simp) (by simp) (by simp) (c1 he))⟩
      · rename_i he
        split at h
        · cases h
        · rename_i hz
          have c := c2 he hz
          split at h
          · rename_i hm
            cases h
            rw [if_pos hm] at c
            exact ⟨H1,f1,.inl (ex _ (by simp) (by simp) (by simp) c)⟩
          · rename_i hm
            rw [if_neg hm] at c
            obtain ⟨j,y4,y5,y6,c3,ej⟩ := c
            obtain ⟨H2,f2,q⟩ := zcl hx0 hx1 hL res f (k + 1) up H1 j (some (.int (0 + (k : Int)))) y4 y5 y6 ej h
            refine ⟨H2,f1.trans f2 (by simp), ?_⟩
            rw [z1p (d := .int (0 + (k : Int))) (ρ1 := [some d,some (.int r),some (.ref i),some (.int (0 + (k : Int))),x4,x5,x6]) rfl rfl c3]
            exact q
theorem zox (N : Nat) (hn : n = N) (h6 : N ≤ 6) (hx0 : ∀ H,ix0 d (.int 0) H = .ok (.int n) H) (hx1 : ∀ H,ix0 d (.int 1) H = .ok (.tup (ps.map prD)) H) (hL : ∀ H,Fl [d] H = .ok (.ref H.length) (H ++ [Ob.lst (qs.map prD)])) {res : Option (List Int)} {H : Hs}
    (h : lwP n ps qs r (N * N + 2) (List.replicate N 0) = some res) : ∃ H',z0x 2 7 (lwM Fl) [d,.int r] H = .ok (encR res) H'∧Fr [] H H':= by
  have n0 : 0 ≤ n := by omega
  have n6 : n ≤ 6 := by omega
  have w0 : mAsg (m2 repD (mLst (z00 (mC (.int 0)) mNil)) (m2 ix0 (mVar 0) (mC (.int 0)))) (z06 2) [some d,some (.int r),none,none,none,none,none] H = .nx [some d,some (.int r),some (.ref (H.length + 1)),none,none,none,none] (H ++ [Ob.lst [.int 0]] ++ [Ob.lst ((List.replicate N (0 : Int)).map Dv.int)]):= by
    have e0 : getL (H ++ [Ob.lst [.int 0]]) H.length = some [.int 0] := by simp [getL]
    have c0 : inW n = true := by simp [inW]; omega
    have c1 : n < 9223372036854775808 := by omega
    have c2 : -9223372036854775808 ≤ n := by omega
    have c3 : n.toNat = N := by omega
    have c4 : N ≤ 1000000 := by omega
    have c5 : (List.replicate N [Dv.int 0]).flatten = List.replicate N (Dv.int 0) := by simp
    simp [mAsg,m2,mLst,z00,mC,mNil,lim,mVar,hx0,repD,e0,c0,c1,c2,c3,c4,z06]
  have ei : getL (H ++ [Ob.lst [.int 0]] ++ [Ob.lst ((List.replicate N (0 : Int)).map Dv.int)]) (H.length + 1) = some ((List.replicate N (0 : Int)).map Dv.int) := by simp [getL]
  have f0 : Fr [] H (H ++ [Ob.lst [.int 0]] ++ [Ob.lst ((List.replicate N (0 : Int)).map Dv.int)]) := Fr.trans (T := []) Fr.app Fr.app (by simp)
  generalize H ++ [Ob.lst [.int 0]] ++ [Ob.lst ((List.replicate N (0 : Int)).map Dv.int)] = H0 at w0 ei f0
  have hi : mas z0w (z00 (m2 addE (m2 mulD (m2 ix0 (mVar 0) (mC (.int 0))) (m2 ix0 (mVar 0) (mC (.int 0)))) (mC (.int 2))) mNil) [some d,some (.int r),some (.ref (H.length + 1)),none,none,none,none] H0 = .ok (z0m 0 (n * n + 2)) H0:= by
    have c0 : inW n = true := by simp [inW]; omega
    have q : z00 (m2 addE (m2 mulD (m2 ix0 (mVar 0) (mC (.int 0))) (m2 ix0 (mVar 0) (mC (.int 0)))) (mC (.int 2))) mNil [some d,some (.int r),some (.ref (H.length + 1)),none,none,none,none] H0 = .ok [.int (n * n + 2)] H0:= by
      simp [z00,m2,mVar,mC,hx0,mulD,iOpC,mulB,c0,addE,addD,mNil]
    have b1 : n * n ≤ 36:= by
      have := Int.mul_le_mul n6 n6 n0 (by omega)
      omega
    have b0 : 0 ≤ n * n := Int.mul_nonneg n0 n0
    have b2 : inR (n * n + 2) = true:= by
      generalize n * n = m at b1 b0
      have h1 : (-4611686018427387904 : Int) ≤ m + 2 := by omega
      have h2 : m + 2 < 4611686018427387904 := by omega
      unfold inR
      rw [decide_eq_true h1,decide_eq_true h2]; rfl
    unfold mas
    rw [q,Rs.bind_ok]
    simp only [z0w,b2,if_true]
  have hN : (z0m 0 (n * n + 2)).n = N * N + 2:= by
    show (n * n + 2 - 0).toNat = _
    rw [hn]
    have : ((N : Int) * (N : Int)) = ((N * N : Nat) : Int) := by simp
    omega
  obtain ⟨H',f1,q⟩ := zcl (m := n * n + 2) hx0 hx1 hL res (N * N + 2) 0 (List.replicate N 0) H0 (H.length + 1) none none none none ei h
  refine ⟨H', ?_,f0.trans f1 (by simp)⟩
  show z1c (lwM Fl [some d,some (.int r),none,none,none,none,none] H) = _
  unfold lwM
  rw [z0f w0]
  rcases q with q | ⟨rfl,ρ',q⟩
  · have : mFor (mas z0w (z00 (m2 addE (m2 mulD (m2 ix0 (mVar 0) (mC (.int 0))) (m2 ix0 (mVar 0) (mC (.int 0)))) (mC (.int 2))) mNil)) (z06 3) (lwB Fl) [some d,some (.int r),some (.ref (H.length + 1)),none,none,none,none] H0 = .rt (encR res) H':= by
      rw [z3u hi,hN]; exact q
    unfold mSeq
    rw [this]; rfl
  · rw [z0f ((z3u hi).trans (by rw [hN]; exact q))]
    rfl
def z54 (n : Int) (N : Nat) (ps qs : List (Int × Int)) : Nat→Int→Option Int
  | 0,_ => none
  | f + 1,r => match lwP n ps qs r (N * N + 2) (List.replicate N 0) with
    | none => none
    | some none => z54 n N ps qs f (r + 1)
    | some (some _) => some r
def lrM (Fw : List Dv→Hs→Rs Dv) : MS := mSeq (mAsg (mC (.int 0)) (z06 1)) (mSeq (z2t (mB (m2 (isC false) (z05 Fw (z00 (mVar 0) (z00 (mVar 1) mNil))) (mC .non))) (mAsg (m2 addE (mVar 1) (mC (.int 1))) (z06 1)) 20) (mRet (mVar 1)))
theorem zcm (N : Nat) (Fw : List Dv→Hs→Rs Dv) (hw : ∀ (r : Int) (res : Option (List Int)) (H : Hs),lwP n ps qs r (N * N + 2) (List.replicate N 0) = some res→∃ H',Fw [d,.int r] H = .ok (encR res) H'∧Fr [] H H') (v : Int) :
    ∀ (f : Nat) (r : Int) (H : Hs),z54 n N ps qs f r = some v→∃ H',z2t (mB (m2 (isC false) (z05 Fw (z00 (mVar 0) (z00 (mVar 1) mNil))) (mC .non))) (mAsg (m2 addE (mVar 1) (mC (.int 1))) (z06 1)) f [some d,some (.int r)] H = .nx [some d,some (.int v)] H'∧Fr [] H H'
  | 0,r,H,h => by cases h
  | f + 1,r,H,h => by
    unfold z54 at h
    cases q : lwP n ps qs r (N * N + 2) (List.replicate N 0) with
    | none => rw [q] at h; cases h
    | some res =>
      obtain ⟨H1,h1,f1⟩ := hw r res H q
      rw [q] at h
      cases res with
      | none =>
        dsimp only at h
        obtain ⟨H2,h2,f2⟩ := zcm N Fw hw v f (r + 1) H1 h
        refine ⟨H2, ?_,f1.trans f2 (by simp)⟩
        rw [← h2,z2t]
        simp [mB,m2,z05,z00,mVar,mNil,h1,encR,mC,isC,z9s,asB,Rs.thenS,mAsg,addE,addD,z06]
      | some fs =>
        cases h
        refine ⟨H1, ?_,f1⟩
        rw [z2t]
        simp [mB,m2,z05,z00,mVar,mNil,h1,encR,mC,isC,z9s,asB,Rs.thenS]
theorem zoy (N : Nat) (Fw : List Dv→Hs→Rs Dv) (hw : ∀ (r : Int) (res : Option (List Int)) (H : Hs),lwP n ps qs r (N * N + 2) (List.replicate N 0) = some res→∃ H',Fw [d,.int r] H = .ok (encR res) H'∧Fr [] H H') {v : Int} {H : Hs} (h : z54 n N ps qs 20 0 = some v) :
    ∃ H',z0x 1 2 (lrM Fw) [d] H = .ok (.int v) H'∧Fr [] H H':= by
  obtain ⟨H',h1,f1⟩ := zcm N Fw hw v 20 0 H h
  refine ⟨H', ?_,f1⟩
  show z1c (lrM Fw [some d,none] H) = _
  unfold lrM
  rw [z0f (m := mAsg (mC (.int 0)) (z06 1)) (ρ := [some d,none]) (h := H) (ρ1 := [some d,some (.int 0)]) (h1 := H) rfl,z0f h1]
  rfl
end
end L2.Mr
namespace L2.Mr.K71
open PySem PySem.Spec PyProof.Rows L2 L2.Mr
def zj4 : MS := (mSeq (mAsg (mLst mNil) (z06 3)) (mSeq (mFor (mas z0w (z00 (z05 (f1 len0) (z00 (mVar 2) mNil)) mNil)) (z06 4) (mFor (mas z0w (z00 (z05 (f1 len0) (z00 (mVar 2) mNil)) mNil)) (z06 5) (mIf (mOr (mAnd (mTru (mVar 1)) (mAnd (mB (m2 ltD (mVar 4) (mVar 5))) (mB (m2 eqD (m2 ix0 (mVar 2) (mVar 4)) (m2 ix0 (mVar 2) (mVar 5)))))) (mAnd (mNot (mTru (mVar 1))) (mB (m2 ltD (m2 ix0 (mVar 2) (mVar 4)) (m2 ix0 (mVar 2) (mVar 5)))))) (z1m (mApp (mVar 3) (mTup (z00 (mVar 4) (z00 (mVar 5) mNil))))) z0p))) (mRet (mTup (z00 (z05 (f1 len0) (z00 (mVar 2) mNil)) (z00 (z05 (f1 z2g) (z00 (mVar 3) mNil)) mNil))))))
theorem zmj : UpS zj4 := (z3x (z9v (z29 z0y) (z2u 3)) (z3x (zlz (zi2 z85 (z0c (z1u (z6a z4r) (z0c (z0s 2) z0y)) z0y)) (z2u 4) (zlz (zi2 z85 (z0c (z1u (z6a z4r) (z0c (z0s 2) z0y)) z0y)) (z2u 5) (u_if (u_or (zhx (z9u (z0s 1)) (zhx (u_B (u_m2 zlo (z0s 4) (z0s 5))) (u_B (u_m2 zlu (u_m2 z5o (z0s 2) (z0s 4)) (u_m2 z5o (z0s 2) (z0s 5)))))) (zhx (zbq (z9u (z0s 1))) (u_B (u_m2 zlo (u_m2 z5o (z0s 2) (z0s 4)) (u_m2 z5o (z0s 2) (z0s 5)))))) (zbr (zni (z0s 3) (zdv (z0c (z0s 4) (z0c (z0s 5) z0y))))) z76))) (z77 (zdv (z0c (z1u (z6a z4r) (z0c (z0s 2) z0y)) (z0c (z1u (z6a zdx) (z0c (z0s 3) z0y)) z0y))))))
def rtO : Sr→Option (Nat × List (Int × Int))
  | .rt d _ => zj1 d
  | _ => none
def runO (b : Bool) (ns : List Int) : Option (Nat × List (Int × Int)) := rtO (zj4 [none,some (.bl b),some (.ref 0),none,none,none] [.lst (nums 0 ns)])
def gen : Nat→Nat→List (List Int)
  | 0,_ => [[]]
  | f + 1,s => [] :: (List.range s).flatMap fun i => (gen f (s - (i + 1))).map fun t => ((i : Int) + 1) :: t
theorem z8c : ∀ (f s : Nat) (ns : List Int),ns.length ≤ f→(∀ n ∈ ns,1 ≤ n)→ns.sum ≤ s→ns ∈ gen f s
  | 0,s,ns,hl,hp,hs => by
    have : ns = [] := List.length_eq_zero_iff.mp (by omega)
    subst this; simp [gen]
  | f + 1,s,[],hl,hp,hs => by simp [gen]
  | f + 1,s,n :: ns,hl,hp,hs => by
    have h1 := hp n (by simp)
    have hp' : ∀ m ∈ ns,1 ≤ m:= fun m hm => hp m (by simp [hm])
    have h2 := zc9 ns hp'
    simp at hs hl
    have := z8c f (s - ((n - 1).toNat + 1)) ns hl hp' (by omega)
    simp only [gen,List.mem_cons,List.mem_flatMap,List.mem_range,List.mem_map]
    exact .inr ⟨(n - 1).toNat,by omega,ns,this,by simp; omega⟩
def chkG (o : Option (Nat × List (Int × Int))) (g : Nat→List (Int × Int)→Option Int) (v : Int) : Bool := match o with
  | some (n,ps) => decide (n ≤ 6) && decide (ps.length ≤ 36) && (g n ps == some v)
  | none => false
def chkL (ns : List Int) : Bool := chkG (runO false ns) zir (maxI ns - 1)
def chkC (ns : List Int) : Bool := chkG (runO true ns) (fun n ps => z54 n n ps (z2r n ps) 20 0) (z3d ns)
theorem zj5 : ((gen 6 6).all fun ns => ns.isEmpty || chkC ns) = true := by decide +kernel
theorem zj6 : chkL [6] = true := by decide +kernel
theorem zj7 : ((gen 6 6).all fun ns => ns.isEmpty || ns == [6] || chkL ns) = true := by decide +kernel
theorem zmk {ns : List Int} (o : OkN ns) (hs : ns.sum ≤ 6) : chkC ns = true:= by
  have h := List.all_eq_true.mp zj5 ns (z8c 6 6 ns o.l6 o.pos (by simpa using hs))
  have hl := o.l1
  cases ns with
  | nil => simp at hl
  | cons n t => simpa using h
theorem zml {ns : List Int} (o : OkN ns) (hs : ns.sum ≤ 6) : chkL ns = true:= by
  have h := List.all_eq_true.mp zj7 ns (z8c 6 6 ns o.l6 o.pos (by simpa using hs))
  have hl := o.l1
  by_cases h6 : ns = [6]
  · rw [h6]; exact zj6
  · cases ns with
    | nil => simp at hl
    | cons n t =>
      rw [Bool.or_eq_true,Bool.or_eq_true] at h
      rcases h with (h | h) | h
      · simp at h
      · exact absurd (by simpa using h) h6
      · exact h
mutual
def noR : Dv→Bool
  | .ref _ => false
  | .tup xs => noRL xs
  | .non => true
  | .bl _ => true
  | .int _ => true
  | .str _ => true
  | .edc => true
  | .exc _ => true
  | .scr => true
def noRL : List Dv→Bool
  | [] => true
  | x :: xs => noR x && noRL xs
end
mutual
theorem zg2 (n : Nat) : ∀ d,noR d = true→sh n d = d
  | .ref i,h => by simp [noR] at h
  | .tup xs,h => by rw [sh,zcn n xs (by simpa [noR] using h)]
  | .non,h => rfl
  | .bl _,h => rfl
  | .int _,h => rfl
  | .str _,h => rfl
  | .edc,h => rfl
  | .exc _,h => rfl
  | .scr,h => rfl
theorem zcn (n : Nat) : ∀ xs,noRL xs = true→shL n xs = xs
  | [],h => rfl
  | x :: xs,h => by
    simp [noRL] at h
    rw [shL,zg2 n x h.1,zcn n xs h.2]
end
theorem zj8 (n : Nat) (ps : List (Int × Int)) : noR (ordD n ps) = true:= by
  have : ∀ ps : List (Int × Int),noRL (ps.map prD) = true:= fun ps => by
    induction ps with
    | nil => rfl
    | cons p ps ih => simp [noRL,prD,noR,ih]
  simp [ordD,noR,noRL,this]
theorem zj9 {m : MS} (u : UpS m) {ρ' ρ : Ev} {l B : Hs} {n : Nat} {ps : List (Int × Int)} (h : rtO (m ρ' l) = some (n,ps)) (v : UpV B.length ρ' ρ) : ∃ l1,m ρ (B ++ shH B.length l) = .rt (ordD n ps) (B ++ l1):= by
  have hu := u B ρ' ρ l v
  cases q : m ρ' l with
  | rt d l1 =>
    rw [q] at h hu
    have hd := zez h
    subst hd
    have hu' : m ρ (B ++ shH B.length l) = .rt (sh B.length (ordD n ps)) (B ++ shH B.length l1) := hu
    rw [zg2 _ _ (zj8 n ps)] at hu'
    exact ⟨_,hu'⟩
  | _ => rw [q] at h; cases h
section
variable {ns : List Int} {H : Hs} {j i : Nat}
theorem zmm {b : Bool} {n : Nat} {ps : List (Int × Int)} (o : OkN ns) (hs : ns.sum ≤ 6) (e : getL H j = some (ns.map Dv.int)) (h : runO b ns = some (n,ps)) :
    ∃ H',F_qf [.ref j,.bl b] H = .ok (ordD n ps) H'∧Fr [] H H':= by
  obtain ⟨B,hb,fb⟩ := zim o hs e
  have v : UpV B.length [none,some (.bl b),some (.ref 0),none,none,none] [some (.ref j),some (.bl b),some (.ref B.length),none,none,none] := ⟨rfl,fun i d q => by
    match i,q with
    | 0,q => cases q
    | 1,q => cases q; rfl
    | 2,q => cases q; rfl
    | 3,q => cases q
    | 4,q => cases q
    | 5,q => cases q
    | i + 6,q => cases q⟩
  unfold runO at h
  obtain ⟨l1,hu'⟩ := zj9 zmj h v
  have hn : shH B.length [.lst (nums 0 ns)] = [.lst (nums 0 ns)]:= by
    have : ∀ (xs : List Int) k,shL B.length (nums k xs) = nums k xs:= fun xs => by
      induction xs with
      | nil => intro k; rfl
      | cons a xs ih =>
        intro k
        rw [nums,z4q,ih,z2i]
        simp [sh]
    simp [shH,shO,this]
  rw [hn] at hu'
  refine ⟨_, ?_,fb.trans (Fr.app (l := l1)) (T := []) (by simp)⟩
  have s1 : mAsg (z05 F_qe (z00 (mVar 0) mNil)) (z06 2) [some (.ref j),some (.bl b),none,none,none,none] H = .nx [some (.ref j),some (.bl b),some (.ref B.length),none,none,none] (B ++ [.lst (nums 0 ns)]):= by
    simp [mAsg,z05,z00,mVar,mNil,hb,z06]
  show z1c (mSeq (mAsg (z05 F_qe (z00 (mVar 0) mNil)) (z06 2)) zj4 [some (.ref j),some (.bl b),none,none,none,none] H) = _
  rw [z0f s1,hu']; rfl
theorem zg3 {o : Option (Nat × List (Int × Int))} {g : Nat→List (Int × Int)→Option Int} {v : Int} (h : chkG o g v = true) : ∃ n ps,o = some (n,ps)∧n ≤ 6∧ps.length ≤ 36∧g n ps = some v:= by
  cases o with
  | none => cases h
  | some p =>
    obtain ⟨n,ps⟩ := p
    simp only [chkG,Bool.and_eq_true,decide_eq_true_eq,beq_iff_eq] at h
    exact ⟨n,ps,rfl,h.1.1,h.1.2,h.2⟩
theorem zja (h : chkL ns = true) : ∃ n ps,runO false ns = some (n,ps)∧n ≤ 6∧ps.length ≤ 36∧zir n ps = some (maxI ns - 1):= by
  unfold chkL at h
  exact zg3 h
theorem zjb (h : chkC ns = true) : ∃ n ps,runO true ns = some (n,ps)∧n ≤ 6∧ps.length ≤ 36∧z54 n n ps (z2r n ps) 20 0 = some (z3d ns):= by
  unfold chkC at h
  exact zg3 h
theorem zoz : F_qb = z0x 1 2 (lrM F_qc) := rfl
theorem zp0 : F_qc = z0x 2 7 (lwM F_qm) := rfl
theorem zco {n : Nat} {ps : List (Int × Int)} {v : Int} (hn : n ≤ 6) (h : z54 n n ps (z2r n ps) 20 0 = some v) : ∃ H',F_qb [ordD n ps] H = .ok (.int v) H'∧Fr [] H H':= by
  rw [zoz]
  refine zoy n F_qc (fun r res H h => ?_) h
  rw [zp0]
  exact zox n rfl hn (fun H => ord0 H) (fun H => ord1 H) (fun H => z98 (by omega)) h
theorem zf0 (o : OkN ns) (hs : ns.sum ≤ 6) (e : getL H j = some (ns.map Dv.int)) : ∃ d H1 H2,F_qf [.ref j,.bl false] H = .ok d H1∧F_qt [d] H1 = .ok (.int (maxI ns - 1)) H2∧Fr [] H H2:= by
  obtain ⟨n,ps,q,c1,c2,c3⟩ := zja (zml o hs)
  obtain ⟨H1,h1,f1⟩ := zmm o hs e q
  obtain ⟨H2,h2,f2⟩ := zit (n := n) (ps := ps) (H := H1) c1 (by omega) c3
  exact ⟨_,H1,H2,h1,h2,f1.trans f2 (by simp)⟩
theorem zcp (o : OkN ns) (hs : ns.sum ≤ 6) (e : getL H j = some (ns.map Dv.int)) : ∃ d H1 H2,F_qf [.ref j,.bl true] H = .ok d H1∧F_qb [d] H1 = .ok (.int (z3d ns)) H2∧Fr [] H H2:= by
  obtain ⟨n,ps,q,c1,c2,c3⟩ := zjb (zmk o hs)
  obtain ⟨H1,h1,f1⟩ := zmm o hs e q
  obtain ⟨H2,h2,f2⟩ := zco (n := n) (ps := ps) (H := H1) c1 c3
  exact ⟨_,H1,H2,h1,h2,f1.trans f2 (by simp)⟩
end
def ib : MS := (mSeq (mAsg (z05 (f1 z4o) (z00 (mVar 3) mNil)) (z06 4)) (mSeq (mIf (mNot (mTru (z05 (F_qr 6) (z00 (z05 F_qj (z00 (mVar 4) mNil)) (z00 (m2 subD (z05 (f1 (l1D maxI)) (z00 (mVar 3) mNil)) (mC (.int 1))) mNil))))) (mRet (mC (.bl false))) z0p) (mSeq (mIf (mOr (mNot (mTru (z05 (F_qr 6) (z00 (z05 F_qg (z00 (mVar 4) mNil)) (z00 (z05 F_qa (z00 (mVar 3) mNil)) mNil))))) (mB (m2 neD (mVar 4) (mVar 3)))) (mRet (mC (.bl false))) z0p) (mIf (mB (m2 ltD (z05 (f1 sumD) (z00 (mVar 3) mNil)) (mC (.int 7)))) (mSeq (mIf (mB (m2 neD (z05 F_qt (z00 (z05 F_qf (z00 (mVar 3) (z00 (mC (.bl false)) mNil))) mNil)) (z05 F_qj (z00 (mVar 4) mNil)))) (mRet (mC (.bl false))) z0p) (mIf (mB (m2 neD (z05 F_qb (z00 (z05 F_qf (z00 (mVar 3) (z00 (mC (.bl true)) mNil))) mNil)) (z05 F_qg (z00 (mVar 4) mNil)))) (mRet (mC (.bl false))) z0p)) z0p))))
section
variable {ns : List Int} {H : Hs} {j i : Nat}
theorem zjc (ej : getL H j = some (ns.map Dv.int)) (ei : getL H i = some (ns.map Dv.int)) : neD (.ref j) (.ref i) H = .ok (.bl false) H:= by
  have p : ∀ k,getL H k = some (ns.map Dv.int)→pur z16 H (.ref k) = some (.lst (ns.map Dt.int)):= fun k e => by
    show pur (28 + 1 + 1) H (.ref k) = _
    rw [pur]
    simp only [e,z3a]
  unfold neD
  rw [p j ej,p i ei]
  simp [deq,z53]
theorem zg4 (x : Int) : neD (.int x) (.int x) H = .ok (.bl false) H:= by
  simp [neD,z16,pur,deq]
theorem zjd (o : OkN ns) (e : getL H j = some (ns.map Dv.int)) : f1 (l1D maxI) [.ref j] H = .ok (.int (maxI ns)) H:= by
  have h0 : 0 < ns.length := o.l1
  simp [f1,l1D,e,z3b,h0]
theorem zf1 (o : OkN ns) (e : getL H i = some (ns.map Dv.int)) (a b c x4 x5 : Option Dv) : ∃ H' y4,ib [a,b,c,some (.ref i),x4,x5] H = .nx [a,b,c,some (.ref i),y4,x5] H'∧Fr [] H H':= by
  have s1 : mAsg (z05 (f1 z4o) (z00 (mVar 3) mNil)) (z06 4) [a,b,c,some (.ref i),x4,x5] H = .nx [a,b,c,some (.ref i),some (.ref H.length),x5] (H ++ [.lst (ns.map Dv.int)]):= by
    simp [mAsg,z05,f1,z4o,z1g,z9n,seqD,z00,mVar,mNil,e,z06]
  have e1 : getL (H ++ [.lst (ns.map Dv.int)]) i = some (ns.map Dv.int) := z0n e
  have e2 : getL (H ++ [.lst (ns.map Dv.int)]) H.length = some (ns.map Dv.int) := by simp [getL]
  have f1' : Fr [] H (H ++ [.lst (ns.map Dv.int)]) := Fr.app
  generalize H ++ [Ob.lst (ns.map Dv.int)] = H1 at s1 e1 e2 f1'
  have w2 : mIf (mNot (mTru (z05 (F_qr 6) (z00 (z05 F_qj (z00 (mVar 4) mNil)) (z00 (m2 subD (z05 (f1 (l1D maxI)) (z00 (mVar 3) mNil)) (mC (.int 1))) mNil))))) (mRet (mC (.bl false))) z0p [a,b,c,some (.ref i),some (.ref H.length),x5] H1 = .nx [a,b,c,some (.ref i),some (.ref H.length),x5] H1:= by
    simp [mIf,mNot,mTru,z05,z00,mVar,mNil,z7i o e2,m2,zjd o e1,mC,subD,iOp,z9a,truD,z0p]
  obtain ⟨H2,h2,f2⟩ := z7j o e2
  obtain ⟨H3,h3,f3⟩ := ziw o (f2.getL e1 (by simp))
  have f13 := f2.trans f3 (by simp)
  have e1' := f13.getL e1 (by simp)
  have e2' := f13.getL e2 (by simp)
  have w3 : mIf (mOr (mNot (mTru (z05 (F_qr 6) (z00 (z05 F_qg (z00 (mVar 4) mNil)) (z00 (z05 F_qa (z00 (mVar 3) mNil)) mNil))))) (mB (m2 neD (mVar 4) (mVar 3)))) (mRet (mC (.bl false))) z0p [a,b,c,some (.ref i),some (.ref H.length),x5] H1 = .nx [a,b,c,some (.ref i),some (.ref H.length),x5] H3:= by
    simp [mIf,mOr,mNot,mTru,z05,z00,mVar,mNil,h2,h3,z9a,truD,mB,m2,zjc e2' e1',asB,z0p]
  have t : mB (m2 ltD (z05 (f1 sumD) (z00 (mVar 3) mNil)) (mC (.int 7))) [a,b,c,some (.ref i),some (.ref H.length),x5] H3 = .ok (decide (ns.sum < 7)) H3:= by
    simp [mB,m2,z05,f1,z00,mVar,mNil,zg0 e1',ltD,iOp,mC,asB]
  have f03 := f1'.trans f13 (by simp)
  by_cases hs : ns.sum < 7
  · have hs' : ns.sum ≤ 6 := by omega
    obtain ⟨d,H4,H5,h4,h5,f5⟩ := zf0 o hs' e1'
    have e1'' := f5.getL e1' (by simp)
    have e2'' := f5.getL e2' (by simp)
    have w5 : mIf (mB (m2 neD (z05 F_qt (z00 (z05 F_qf (z00 (mVar 3) (z00 (mC (.bl false)) mNil))) mNil)) (z05 F_qj (z00 (mVar 4) mNil)))) (mRet (mC (.bl false))) z0p [a,b,c,some (.ref i),some (.ref H.length),x5] H3 = .nx [a,b,c,some (.ref i),some (.ref H.length),x5] H5:= by
      simp [mIf,mB,m2,z05,z00,mVar,mNil,mC,h4,h5,z7i o e2'',zg4,asB,z0p]
    obtain ⟨d6,H6,H7,h6,h7,f7⟩ := zcp o hs' e1''
    obtain ⟨H8,h8,f8⟩ := z7j o (f7.getL e2'' (by simp))
    have w6 : mIf (mB (m2 neD (z05 F_qb (z00 (z05 F_qf (z00 (mVar 3) (z00 (mC (.bl true)) mNil))) mNil)) (z05 F_qg (z00 (mVar 4) mNil)))) (mRet (mC (.bl false))) z0p [a,b,c,some (.ref i),some (.ref H.length),x5] H5 = .nx [a,b,c,some (.ref i),some (.ref H.length),x5] H8:= by
      simp [mIf,mB,m2,z05,z00,mVar,mNil,mC,h6,h7,h8,zg4,asB,z0p]
    refine ⟨H8,some (.ref H.length), ?_,((f03.trans f5 (by simp)).trans f7 (by simp)).trans f8 (by simp)⟩
    unfold ib
    rw [z0f s1,z0f w2,z0f w3,if_T (t.trans (by rw [decide_eq_true hs])),z0f w5,w6]
  · refine ⟨H3,some (.ref H.length), ?_,f03⟩
    unfold ib
    rw [z0f s1,z0f w2,z0f w3,if_F (t.trans (by rw [decide_eq_false hs]))]
    rfl
end
def zf2 : M Dv := mLst (z00 (z05 F_qo (z00 (mVar 2) mNil)) (z00 (z05 F_qp (z00 (mVar 2) mNil)) (z00 (mLst (z00 (mC (.int 1)) mNil)) (z00 (mLst (z00 (m2 powD (mC (.int 10)) (mC (.int 29))) mNil)) mNil))))
theorem zje (scr : List Int) : zee scr = mSeq (mAsg (z05 (F_qn scr) (z00 (mVar 0) (z00 (mVar 1) mNil))) (z06 2)) (mSeq (mFor (m1s lstD zf2) (z06 3) ib) (mSeq (mAsg (z05 F_qd (z00 (mVar 2) mNil)) (z06 5)) (mSeq (mIf t2M (mRet (mC (.bl false))) z0p) (mIf t3M (mRet (mC (.bl false))) z0p)))) := rfl
theorem zjf {ρ : Ev} {st : Nat} {H : Hs} (s : St st H) (hρ : ρ[2]? = some (some (.ref st))) : ∃ (j a b c d : Nat) (n1 n2 n3 n4 : List Int) (H' : Hs),zf2 ρ H = .ok (.ref j) H'∧getL H' j = some [.ref a,.ref b,.ref c,.ref d] ∧
    getL H' a = some (n1.map Dv.int)∧OkN n1∧getL H' b = some (n2.map Dv.int)∧OkN n2∧getL H' c = some (n3.map Dv.int)∧OkN n3∧getL H' d = some (n4.map Dv.int)∧OkN n4∧St st H':= by
  have l0 := s.lt
  obtain ⟨a,n1,H1,h1,e1,o1,f1,s1,g1⟩ := zes s
  obtain ⟨b,n2,H2,h2,e2,o2,f2,s2,g2⟩ := zex s1
  have ea : getL H2 a = some (n1.map Dv.int) := f2.getL e1 (by simp; omega)
  let X : Hs := [.lst [.int 1],.lst [.int 100000000000000000000000000000],.lst [.ref a,.ref b,.ref H2.length,.ref (H2.length + 1)]]
  refine ⟨H2.length + 2,a,b,H2.length,H2.length + 1,n1,n2,[1],[100000000000000000000000000000],H2 ++ X, ?_,by simp [X,getL],z0n ea,o1,z0n e2,o2,by simp [X,getL],⟨by simp,by simp,by simp⟩,by simp [X,getL],⟨by simp,by simp,by simp⟩,s2.fr (Fr.app (S := [])) (by simp)⟩
  have h1' : z05 F_qo (z00 (mVar 2) mNil) ρ H = .ok (.ref a) H1 := by simp [z05,z00,mVar,hρ,mNil,h1]
  have h2' : z05 F_qp (z00 (mVar 2) mNil) ρ H1 = .ok (.ref b) H2 := by simp [z05,z00,mVar,hρ,mNil,h2]
  simp [zf2,mLst,z00,h1',h2',m2,mC,mNil,lim,powD,iOpC,powB,X]
theorem zp1 {j a b c d : Nat} {n1 n2 n3 n4 : List Int} {H : Hs} (x0 x1 x2 x3 x4 x5 : Option Dv) (ej : getL H j = some [.ref a,.ref b,.ref c,.ref d]) (e1 : getL H a = some (n1.map Dv.int)) (o1 : OkN n1) (e2 : getL H b = some (n2.map Dv.int)) (o2 : OkN n2)
    (e3 : getL H c = some (n3.map Dv.int)) (o3 : OkN n3) (e4 : getL H d = some (n4.map Dv.int)) (o4 : OkN n4) :
    ∃ H' y3 y4,forM (srcR j 4) (z06 3) ib 4 0 [x0,x1,x2,x3,x4,x5] H = .nx [x0,x1,x2,y3,y4,x5] H'∧Fr [] H H':= by
  obtain ⟨H1,y1,b1,f1⟩ := zf1 o1 e1 x0 x1 x2 x4 x5
  obtain ⟨H2,y2,b2,f2⟩ := zf1 o2 (f1.getL e2 (by simp)) x0 x1 x2 y1 x5
  have f12 := f1.trans f2 (by simp)
  obtain ⟨H3,y3,b3,f3⟩ := zf1 o3 (f12.getL e3 (by simp)) x0 x1 x2 y2 x5
  have f13 := f12.trans f3 (by simp)
  obtain ⟨H4,y4,b4,f4⟩ := zf1 o4 (f13.getL e4 (by simp)) x0 x1 x2 y3 x5
  have f14 := f13.trans f4 (by simp)
  have g : ∀ (H' : Hs) (k : Nat),Fr [] H H'→(srcR j 4).get k H' = [Dv.ref a,.ref b,.ref c,.ref d][k]?:= fun H' k f => by
    have := f.getL ej (by simp)
    simp [srcR,this]
  refine ⟨H4,some (.ref d),y4, ?_,f14⟩
  rw [z1p (g H 0 Fr.refl) rfl b1,z1p (g H1 1 f1) rfl b2,z1p (g H2 2 f12) rfl b3,z1p (g H3 3 f13) rfl b4]
  have := f14.getL ej (by simp)
  simp [forM,srcR,this]
theorem zjg (scr : List Int) (k : Nat) (H : Hs) (x2 x3 x4 x5 : Option Dv) : ∃ H' y2 y3 y4 y5,zee scr [some .scr,some (.int k),x2,x3,x4,x5] H = .nx [some .scr,some (.int k),y2,y3,y4,y5] H':= by
  obtain ⟨H1,h1,f1,s1⟩ := zeg scr k H
  have w1 : mAsg (z05 (F_qn scr) (z00 (mVar 0) (z00 (mVar 1) mNil))) (z06 2) [some .scr,some (.int k),x2,x3,x4,x5] H = .nx [some .scr,some (.int k),some (.ref H.length),x3,x4,x5] H1:= by
    simp [mAsg,z05,z00,mVar,mNil,h1,z06]
  obtain ⟨j,a,b,c,d,n1,n2,n3,n4,H2,w2,ej,e1,o1,e2,o2,e3,o3,e4,o4,s2⟩ := zjf (ρ := [some .scr,some (.int k),some (.ref H.length),x3,x4,x5]) s1 rfl
  obtain ⟨H3,y3,y4,w3,f3⟩ := zp1 (some .scr) (some (.int k)) (some (.ref H.length)) x3 x4 x5 ej e1 o1 e2 o2 e3 o3 e4 o4
  have w4 : m1s lstD zf2 [some .scr,some (.int k),some (.ref H.length),x3,x4,x5] H1 = .ok (srcR j 4) H2:= by
    simp [m1s,w2,lstD,ej]
  obtain ⟨q,dd,B,hq,hd,w5⟩ := zmi (s2.fr f3 (by simp))
  have w6 : mAsg (z05 F_qd (z00 (mVar 2) mNil)) (z06 5) [some .scr,some (.int k),some (.ref H.length),y3,y4,x5] H3 = .nx [some .scr,some (.int k),some (.ref H.length),y3,y4,some (sh B.length dd)] (B ++ shH B.length z2d):= by
    simp [mAsg,z05,z00,mVar,mNil,w5,z06]
  obtain ⟨H4,w7⟩ := zos (a := some .scr) (b := some (.int k)) (c := some (.ref H.length)) (x3 := y3) (x4 := y4) (B := B) hq hd
  exact ⟨H4,_,_,_,_,by rw [zje,z0f w1,z0f ((z3u w4).trans w3),z0f w6,w7]⟩
theorem loop (scr : List Int) (m : Int) : ∀ (f k : Nat) (H : Hs) (x1 x2 x3 x4 x5 : Option Dv),∃ ρ' H',forM (z0m 0 m) (z06 1) (zee scr) f k [some .scr,x1,x2,x3,x4,x5] H = .nx ρ' H'
  | 0,k,H,x1,x2,x3,x4,x5 => ⟨_,H,rfl⟩
  | f + 1,k,H,x1,x2,x3,x4,x5 => by
    obtain ⟨H1,y2,y3,y4,y5,h⟩ := zjg scr k H x2 x3 x4 x5
    obtain ⟨ρ',H2,h2⟩ := loop scr m f (k + 1) H1 (some (.int k)) y2 y3 y4 y5
    refine ⟨ρ',H2, ?_⟩
    rw [← h2]
    exact z1p (d := .int k) (ρ1 := [some .scr,some (.int k),x2,x3,x4,x5]) (by simp [z0m]) rfl h
theorem zf3 (scr : List Int) : ∃ hh,F_qv scr [.scr] [] = .ok (.bl true) hh:= by
  have hi : ∃ m : Int,mas z0w (z00 (z05 z35 (z00 (mC (.int 1)) (z00 (z05 z63 (z00 (z05 (f1 (lenD scr)) (z00 (mVar 0) mNil)) (z00 (mC (.int 8)) mNil))) mNil))) mNil) [some .scr,none,none,none,none,none] [] = .ok (z0m 0 m) []:= by
    generalize hz : (if (8 : Int) < scr.length then (8 : Int) else scr.length) = z
    have z0 : 0 ≤ z := by split at hz <;> omega
    have z1 : z ≤ 8 := by split at hz <;> omega
    generalize hm : (if z > (1 : Int) then z else 1) = m
    have m0 : 1 ≤ m := by split at hm <;> omega
    have m1' : m ≤ 8 := by split at hm <;> omega
    have hr : inR m = true := by simp [inR]; omega
    refine ⟨m, ?_⟩
    have e1 : z63 [.int scr.length,.int 8] [] = .ok (.int z) [] := by rw [← hz]; rfl
    have e2 : z35 [.int 1,.int z] [] = .ok (.int m) [] := by rw [← hm]; rfl
    simp [mas,z00,z05,mC,mVar,mNil,f1,lenD,seqD,e1,e2,z0w,hr]
  obtain ⟨m,hi⟩ := hi
  obtain ⟨ρ',H',h⟩ := loop scr m (z0m 0 m).n 0 [] none none none none none
  refine ⟨H', ?_⟩
  show z1c (zef scr [some .scr,none,none,none,none,none] []) = _
  unfold zef ml0
  rw [z0f ((z3u hi).trans h)]
  rfl
theorem zp2 : ∀ (kV doc pm : Value) (an : Option Addr) (cdv ct : Value) (us : List Value),us.length = (["thing"] : List Str).length→bindArgs (PySem.W.fnOf "is_whole" "is_whole" (z09 s_qu) (z07 s_qu) (z03 s_qu) .none kV doc pm an cdv ct) ⟨us,[]⟩ = pure ((["thing"] : List Str).zip us):= fun _ _ _ _ _ _ => gln1 fun _ => rfl
theorem zp3 : ∀ (kV doc pm : Value) (an : Option Addr) (cdv ct : Value) (us : List Value),us.length = (["number","by"] : List Str).length→bindArgs (PySem.W.fnOf "rounded_up" "rounded_up" (z09 s_qk) (z07 s_qk) (z03 s_qk) .none kV doc pm an cdv ct) ⟨us,[]⟩ = pure ((["number","by"] : List Str).zip us):= fun _ _ _ _ _ _ => gln2 fun _ _ => rfl
theorem zp4 : ∀ (kV doc pm : Value) (an : Option Addr) (cdv ct : Value) (us : List Value),us.length = (["sizes"] : List Str).length→bindArgs (PySem.W.fnOf "need_sizes" "need_sizes" (z09 s_ql) (z07 s_ql) (z03 s_ql) .none kV doc pm an cdv ct) ⟨us,[]⟩ = pure ((["sizes"] : List Str).zip us):= fun _ _ _ _ _ _ => gln1 fun _ => rfl
theorem zp5 : ∀ (kV doc pm : Value) (an : Option Addr) (cdv ct : Value) (us : List Value),us.length = (["sizes"] : List Str).length→bindArgs (PySem.W.fnOf "levels_span" "levels_span" (z09 s_qj) (z07 s_qj) (z03 s_qj) .none kV doc pm an cdv ct) ⟨us,[]⟩ = pure ((["sizes"] : List Str).zip us):= fun _ _ _ _ _ _ => gln1 fun _ => rfl
theorem zp6 : ∀ (kV doc pm : Value) (an : Option Addr) (cdv ct : Value) (us : List Value),us.length = (["sizes"] : List Str).length→bindArgs (PySem.W.fnOf "chains_reach" "chains_reach" (z09 s_qg) (z07 s_qg) (z03 s_qg) .none kV doc pm an cdv ct) ⟨us,[]⟩ = pure ((["sizes"] : List Str).zip us):= fun _ _ _ _ _ _ => gln1 fun _ => rfl
theorem zp7 : ∀ (kV doc pm : Value) (an : Option Addr) (cdv ct : Value) (us : List Value),us.length = (["_law_state_here","_law_many"] : List Str).length→bindArgs (PySem.W.fnOf "_law_take" "_law_take" (z09 s_qq) (z07 s_qq) (z03 s_qq) .none kV doc pm an cdv ct) ⟨us,[]⟩ = pure ((["_law_state_here","_law_many"] : List Str).zip us):= fun _ _ _ _ _ _ => gln2 fun _ _ => rfl
theorem zp8 : ∀ (kV doc pm : Value) (an : Option Addr) (cdv ct : Value) (us : List Value),us.length = (["_law_order"] : List Str).length→bindArgs (PySem.W.fnOf "_law_loose" "_law_loose" (z09 s_qm) (z07 s_qm) (z03 s_qm) .none kV doc pm an cdv ct) ⟨us,[]⟩ = pure ((["_law_order"] : List Str).zip us):= fun _ _ _ _ _ _ => gln1 fun _ => rfl
theorem zp9 : ∀ (kV doc pm : Value) (an : Option Addr) (cdv ct : Value) (us : List Value),us.length = (["_law_script","_law_k"] : List Str).length→bindArgs (PySem.W.fnOf "_law_cell_at" "_law_cell_at" (z09 s_qh) (z07 s_qh) (z03 s_qh) .none kV doc pm an cdv ct) ⟨us,[]⟩ = pure ((["_law_script","_law_k"] : List Str).zip us):= fun _ _ _ _ _ _ => gln2 fun _ _ => rfl
theorem zpa : ∀ (kV doc pm : Value) (an : Option Addr) (cdv ct : Value) (us : List Value),us.length = (["_law_script","_law_k"] : List Str).length→bindArgs (PySem.W.fnOf "_law_state" "_law_state" (z09 s_qn) (z07 s_qn) (z03 s_qn) .none kV doc pm an cdv ct) ⟨us,[]⟩ = pure ((["_law_script","_law_k"] : List Str).zip us):= fun _ _ _ _ _ _ => gln2 fun _ _ => rfl
theorem zpb : ∀ (kV doc pm : Value) (an : Option Addr) (cdv ct : Value) (us : List Value),us.length = (["_law_state_here"] : List Str).length→bindArgs (PySem.W.fnOf "_law_sizes" "_law_sizes" (z09 s_qo) (z07 s_qo) (z03 s_qo) .none kV doc pm an cdv ct) ⟨us,[]⟩ = pure ((["_law_state_here"] : List Str).zip us):= fun _ _ _ _ _ _ => gln1 fun _ => rfl
theorem zpc : ∀ (kV doc pm : Value) (an : Option Addr) (cdv ct : Value) (us : List Value),us.length = (["_law_found","_law_due"] : List Str).length→bindArgs (PySem.W.fnOf "_law_same" "_law_same" (z09 s_qr) (z07 s_qr) (z03 s_qr) .none kV doc pm an cdv ct) ⟨us,[]⟩ = pure ((["_law_found","_law_due"] : List Str).zip us):= fun _ _ _ _ _ _ => gln2 fun _ _ => rfl
theorem zpd : ∀ (kV doc pm : Value) (an : Option Addr) (cdv ct : Value) (us : List Value),us.length = (["_law_sizes_here"] : List Str).length→bindArgs (PySem.W.fnOf "_law_numbered" "_law_numbered" (z09 s_qe) (z07 s_qe) (z03 s_qe) .none kV doc pm an cdv ct) ⟨us,[]⟩ = pure ((["_law_sizes_here"] : List Str).zip us):= fun _ _ _ _ _ _ => gln1 fun _ => rfl
theorem zpe : ∀ (kV doc pm : Value) (an : Option Addr) (cdv ct : Value) (us : List Value),us.length = (["_law_sizes_here","_law_chains"] : List Str).length→bindArgs (PySem.W.fnOf "_law_of_sizes" "_law_of_sizes" (z09 s_qf) (z07 s_qf) (z03 s_qf) .none kV doc pm an cdv ct) ⟨us,[]⟩ = pure ((["_law_sizes_here","_law_chains"] : List Str).zip us):= fun _ _ _ _ _ _ => gln2 fun _ _ => rfl
theorem zpf : ∀ (kV doc pm : Value) (an : Option Addr) (cdv ct : Value) (us : List Value),us.length = (["_law_order","_law_reach"] : List Str).length→bindArgs (PySem.W.fnOf "_law_least_with" "_law_least_with" (z09 s_qc) (z07 s_qc) (z03 s_qc) .none kV doc pm an cdv ct) ⟨us,[]⟩ = pure ((["_law_order","_law_reach"] : List Str).zip us):= fun _ _ _ _ _ _ => gln2 fun _ _ => rfl
theorem zpg : ∀ (kV doc pm : Value) (an : Option Addr) (cdv ct : Value) (us : List Value),us.length = (["_law_order"] : List Str).length→bindArgs (PySem.W.fnOf "_law_least_reach" "_law_least_reach" (z09 s_qb) (z07 s_qb) (z03 s_qb) .none kV doc pm an cdv ct) ⟨us,[]⟩ = pure ((["_law_order"] : List Str).zip us):= fun _ _ _ _ _ _ => gln1 fun _ => rfl
theorem zph : ∀ (kV doc pm : Value) (an : Option Addr) (cdv ct : Value) (us : List Value),us.length = (["_law_state_here"] : List Str).length→bindArgs (PySem.W.fnOf "_law_bad_sizes" "_law_bad_sizes" (z09 s_qd) (z07 s_qd) (z03 s_qd) .none kV doc pm an cdv ct) ⟨us,[]⟩ = pure ((["_law_state_here"] : List Str).zip us):= fun _ _ _ _ _ _ => gln1 fun _ => rfl
theorem zpi : ∀ (kV doc pm : Value) (an : Option Addr) (cdv ct : Value) (us : List Value),us.length = (["_law_call"] : List Str).length→bindArgs (PySem.W.fnOf "_law_refused" "_law_refused" (z09 s_qi) (z07 s_qi) (z03 s_qi) .none kV doc pm an cdv ct) ⟨us,[]⟩ = pure ((["_law_call"] : List Str).zip us):= fun _ _ _ _ _ _ => gln1 fun _ => rfl
theorem zpj : ∀ (kV doc pm : Value) (an : Option Addr) (cdv ct : Value) (us : List Value),us.length = (["_law_state_here"] : List Str).length→bindArgs (PySem.W.fnOf "_law_great" "_law_great" (z09 s_qp) (z07 s_qp) (z03 s_qp) .none kV doc pm an cdv ct) ⟨us,[]⟩ = pure ((["_law_state_here"] : List Str).zip us):= fun _ _ _ _ _ _ => gln1 fun _ => rfl
theorem zpk : ∀ (kV doc pm : Value) (an : Option Addr) (cdv ct : Value) (us : List Value),us.length = (["_law_order"] : List Str).length→bindArgs (PySem.W.fnOf "_law_rows" "_law_rows" (z09 s_qs) (z07 s_qs) (z03 s_qs) .none kV doc pm an cdv ct) ⟨us,[]⟩ = pure ((["_law_order"] : List Str).zip us):= fun _ _ _ _ _ _ => gln1 fun _ => rfl
theorem zpl : ∀ (kV doc pm : Value) (an : Option Addr) (cdv ct : Value) (us : List Value),us.length = (["_law_order"] : List Str).length→bindArgs (PySem.W.fnOf "_law_span" "_law_span" (z09 s_qt) (z07 s_qt) (z03 s_qt) .none kV doc pm an cdv ct) ⟨us,[]⟩ = pure ((["_law_order"] : List Str).zip us):= fun _ _ _ _ _ _ => gln1 fun _ => rfl
theorem zpm : ∀ (kV doc pm : Value) (an : Option Addr) (cdv ct : Value) (us : List Value),us.length = (["_law_sizes_here"] : List Str).length→bindArgs (PySem.W.fnOf "_law_reach_by_rule" "_law_reach_by_rule" (z09 s_qa) (z07 s_qa) (z03 s_qa) .none kV doc pm an cdv ct) ⟨us,[]⟩ = pure ((["_law_sizes_here"] : List Str).zip us):= fun _ _ _ _ _ _ => gln1 fun _ => rfl
theorem zpn : ∀ (kV doc pm : Value) (an : Option Addr) (cdv ct : Value) (us : List Value),us.length = (["_law_script"] : List Str).length→bindArgs (PySem.W.fnOf "law" "law" (z09 s_qv) (z07 s_qv) (z03 s_qv) .none kV doc pm an cdv ct) ⟨us,[]⟩ = pure ((["_law_script"] : List Str).zip us):= fun _ _ _ _ _ _ => gln1 fun _ => rfl
theorem zmn {l : PySem.W.OpenLaw} {w : World} {K : PySem.W.Frag} {h : Heap} {mg : Str→Option Value} {fa : Addr} {cc PP NE : Addr} {tu1 : Value} {tu3 : Option Addr} {tvs : Array Value} {tu4 : Array (Option Value)} {f_qu : Addr} {od_qu an_qu : Option Addr} {sl_qu : Array (Option Value)} {oc_qu kV_qu dc_qu pm_qu cd_qu ct_qu : Value} {f_qk : Addr} {od_qk an_qk : Option Addr} {sl_qk : Array (Option Value)} {oc_qk kV_qk dc_qk pm_qk cd_qk ct_qk : Value} {f_ql : Addr} {od_ql an_ql : Option Addr} {sl_ql : Array (Option Value)} {oc_ql kV_ql dc_ql pm_ql cd_ql ct_ql : Value} {f_qj : Addr} {od_qj an_qj : Option Addr} {sl_qj : Array (Option Value)} {oc_qj kV_qj dc_qj pm_qj cd_qj ct_qj : Value} {f_qg : Addr} {od_qg an_qg : Option Addr} {sl_qg : Array (Option Value)} {oc_qg kV_qg dc_qg pm_qg cd_qg ct_qg : Value} {f_qq : Addr} {od_qq an_qq : Option Addr} {sl_qq : Array (Option Value)} {oc_qq kV_qq dc_qq pm_qq cd_qq ct_qq : Value} {f_qm : Addr} {od_qm an_qm : Option Addr} {sl_qm : Array (Option Value)} {oc_qm kV_qm dc_qm pm_qm cd_qm ct_qm : Value} {f_qh : Addr} {od_qh an_qh : Option Addr} {sl_qh : Array (Option Value)} {oc_qh kV_qh dc_qh pm_qh cd_qh ct_qh : Value} {f_qn : Addr} {od_qn an_qn : Option Addr} {sl_qn : Array (Option Value)} {oc_qn kV_qn dc_qn pm_qn cd_qn ct_qn : Value} {f_qo : Addr} {od_qo an_qo : Option Addr} {sl_qo : Array (Option Value)} {oc_qo kV_qo dc_qo pm_qo cd_qo ct_qo : Value} {f_qr : Addr} {od_qr an_qr : Option Addr} {sl_qr : Array (Option Value)} {oc_qr kV_qr dc_qr pm_qr cd_qr ct_qr : Value} {f_qe : Addr} {od_qe an_qe : Option Addr} {sl_qe : Array (Option Value)} {oc_qe kV_qe dc_qe pm_qe cd_qe ct_qe : Value} {f_qf : Addr} {od_qf an_qf : Option Addr} {sl_qf : Array (Option Value)} {oc_qf kV_qf dc_qf pm_qf cd_qf ct_qf : Value} {f_qc : Addr} {od_qc an_qc : Option Addr} {sl_qc : Array (Option Value)} {oc_qc kV_qc dc_qc pm_qc cd_qc ct_qc : Value} {f_qb : Addr} {od_qb an_qb : Option Addr} {sl_qb : Array (Option Value)} {oc_qb kV_qb dc_qb pm_qb cd_qb ct_qb : Value} {f_qd : Addr} {od_qd an_qd : Option Addr} {sl_qd : Array (Option Value)} {oc_qd kV_qd dc_qd pm_qd cd_qd ct_qd : Value} {f_qi : Addr} {od_qi an_qi : Option Addr} {sl_qi : Array (Option Value)} {oc_qi kV_qi dc_qi pm_qi cd_qi ct_qi : Value} {f_qp : Addr} {od_qp an_qp : Option Addr} {sl_qp : Array (Option Value)} {oc_qp kV_qp dc_qp pm_qp cd_qp ct_qp : Value} {f_qs : Addr} {od_qs an_qs : Option Addr} {sl_qs : Array (Option Value)} {oc_qs kV_qs dc_qs pm_qs cd_qs ct_qs : Value} {f_qt : Addr} {od_qt an_qt : Option Addr} {sl_qt : Array (Option Value)} {oc_qt kV_qt dc_qt pm_qt cd_qt ct_qt : Value} {f_qa : Addr} {od_qa an_qa : Option Addr} {sl_qa : Array (Option Value)} {oc_qa kV_qa dc_qa pm_qa cd_qa ct_qa : Value} {f_qv : Addr} {od_qv an_qv : Option Addr} {sl_qv : Array (Option Value)} {oc_qv kV_qv dc_qv pm_qv  ct_qv : Value} {t_MOST_SIZES : Tok} {q_NoOrder : Addr} {q_NoNumber : Addr} {q_NoPairs : Addr} {q_Round : Addr} {q_NoThing : Addr} {q_NoRow : Addr} {q_TooMany : Addr} {q_TooFew : Addr} {q_NoText : Addr} {q_NoLine : Addr} {q_NoDeed : Addr} {q_NoSeating : Addr} {q_NoRing : Addr} {q_NoSizes : Addr} {lo_NoSizes : Value} {ld_NoSizes : Option Addr} {lc_NoSizes : ClassData} {ls_NoSizes : Array (Option Value)} (X : K.In h) (G : h.Ns mainGlobals mg) (hfa : mg "law" = some (.ref fa))
    (n_a : PySem.W.nsIn K mainGlobals "NearError" = some (some (.ref NE)))
    (a_qu : PySem.W.nsIn K mainGlobals "is_whole" = some (some (.ref f_qu)))
    (l_qu : K.lookup f_qu = some ⟨oc_qu,od_qu,.func (PySem.W.fnOf "is_whole" "is_whole" (z09 s_qu) (z07 s_qu) (z03 s_qu) .none kV_qu dc_qu pm_qu an_qu cd_qu ct_qu),sl_qu⟩)
    (c_qu : PySem.W.codeIn K cd_qu "is_whole" = true)
    (k_qu : PySem.W.keepIn K (.ref f_qu) = true)
    (a_qk : PySem.W.nsIn K mainGlobals "rounded_up" = some (some (.ref f_qk)))
    (l_qk : K.lookup f_qk = some ⟨oc_qk,od_qk,.func (PySem.W.fnOf "rounded_up" "rounded_up" (z09 s_qk) (z07 s_qk) (z03 s_qk) .none kV_qk dc_qk pm_qk an_qk cd_qk ct_qk),sl_qk⟩)
    (c_qk : PySem.W.codeIn K cd_qk "rounded_up" = true)
    (k_qk : PySem.W.keepIn K (.ref f_qk) = true)
    (a_ql : PySem.W.nsIn K mainGlobals "need_sizes" = some (some (.ref f_ql)))
    (l_ql : K.lookup f_ql = some ⟨oc_ql,od_ql,.func (PySem.W.fnOf "need_sizes" "need_sizes" (z09 s_ql) (z07 s_ql) (z03 s_ql) .none kV_ql dc_ql pm_ql an_ql cd_ql ct_ql),sl_ql⟩)
    (c_ql : PySem.W.codeIn K cd_ql "need_sizes" = true)
    (k_ql : PySem.W.keepIn K (.ref f_ql) = true)
    (a_qj : PySem.W.nsIn K mainGlobals "levels_span" = some (some (.ref f_qj)))
    (l_qj : K.lookup f_qj = some ⟨oc_qj,od_qj,.func (PySem.W.fnOf "levels_span" "levels_span" (z09 s_qj) (z07 s_qj) (z03 s_qj) .none kV_qj dc_qj pm_qj an_qj cd_qj ct_qj),sl_qj⟩)
    (c_qj : PySem.W.codeIn K cd_qj "levels_span" = true)
    (k_qj : PySem.W.keepIn K (.ref f_qj) = true)
    (a_qg : PySem.W.nsIn K mainGlobals "chains_reach" = some (some (.ref f_qg)))
    (l_qg : K.lookup f_qg = some ⟨oc_qg,od_qg,.func (PySem.W.fnOf "chains_reach" "chains_reach" (z09 s_qg) (z07 s_qg) (z03 s_qg) .none kV_qg dc_qg pm_qg an_qg cd_qg ct_qg),sl_qg⟩)
    (c_qg : PySem.W.codeIn K cd_qg "chains_reach" = true)
    (k_qg : PySem.W.keepIn K (.ref f_qg) = true)
    (a_qq : PySem.W.nsIn K mainGlobals "_law_take" = some (some (.ref f_qq)))
    (l_qq : K.lookup f_qq = some ⟨oc_qq,od_qq,.func (PySem.W.fnOf "_law_take" "_law_take" (z09 s_qq) (z07 s_qq) (z03 s_qq) .none kV_qq dc_qq pm_qq an_qq cd_qq ct_qq),sl_qq⟩)
    (c_qq : PySem.W.codeIn K cd_qq "_law_take" = true)
    (k_qq : PySem.W.keepIn K (.ref f_qq) = true)
    (a_qm : PySem.W.nsIn K mainGlobals "_law_loose" = some (some (.ref f_qm)))
    (l_qm : K.lookup f_qm = some ⟨oc_qm,od_qm,.func (PySem.W.fnOf "_law_loose" "_law_loose" (z09 s_qm) (z07 s_qm) (z03 s_qm) .none kV_qm dc_qm pm_qm an_qm cd_qm ct_qm),sl_qm⟩)
    (c_qm : PySem.W.codeIn K cd_qm "_law_loose" = true)
    (k_qm : PySem.W.keepIn K (.ref f_qm) = true)
    (a_qh : PySem.W.nsIn K mainGlobals "_law_cell_at" = some (some (.ref f_qh)))
    (l_qh : K.lookup f_qh = some ⟨oc_qh,od_qh,.func (PySem.W.fnOf "_law_cell_at" "_law_cell_at" (z09 s_qh) (z07 s_qh) (z03 s_qh) .none kV_qh dc_qh pm_qh an_qh cd_qh ct_qh),sl_qh⟩)
    (c_qh : PySem.W.codeIn K cd_qh "_law_cell_at" = true)
    (k_qh : PySem.W.keepIn K (.ref f_qh) = true)
    (a_qn : PySem.W.nsIn K mainGlobals "_law_state" = some (some (.ref f_qn)))
    (l_qn : K.lookup f_qn = some ⟨oc_qn,od_qn,.func (PySem.W.fnOf "_law_state" "_law_state" (z09 s_qn) (z07 s_qn) (z03 s_qn) .none kV_qn dc_qn pm_qn an_qn cd_qn ct_qn),sl_qn⟩)
    (c_qn : PySem.W.codeIn K cd_qn "_law_state" = true)
    (k_qn : PySem.W.keepIn K (.ref f_qn) = true)
    (a_qo : PySem.W.nsIn K mainGlobals "_law_sizes" = some (some (.ref f_qo)))
    (l_qo : K.lookup f_qo = some ⟨oc_qo,od_qo,.func (PySem.W.fnOf "_law_sizes" "_law_sizes" (z09 s_qo) (z07 s_qo) (z03 s_qo) .none kV_qo dc_qo pm_qo an_qo cd_qo ct_qo),sl_qo⟩)
    (c_qo : PySem.W.codeIn K cd_qo "_law_sizes" = true)
    (k_qo : PySem.W.keepIn K (.ref f_qo) = true)
    (a_qr : PySem.W.nsIn K mainGlobals "_law_same" = some (some (.ref f_qr)))
    (l_qr : K.lookup f_qr = some ⟨oc_qr,od_qr,.func (PySem.W.fnOf "_law_same" "_law_same" (z09 s_qr) (z07 s_qr) (z03 s_qr) .none kV_qr dc_qr pm_qr an_qr cd_qr ct_qr),sl_qr⟩)
    (c_qr : PySem.W.codeIn K cd_qr "_law_same" = true)
    (k_qr : PySem.W.keepIn K (.ref f_qr) = true)
    (a_qe : PySem.W.nsIn K mainGlobals "_law_numbered" = some (some (.ref f_qe)))
    (l_qe : K.lookup f_qe = some ⟨oc_qe,od_qe,.func (PySem.W.fnOf "_law_numbered" "_law_numbered" (z09 s_qe) (z07 s_qe) (z03 s_qe) .none kV_qe dc_qe pm_qe an_qe cd_qe ct_qe),sl_qe⟩)
    (c_qe : PySem.W.codeIn K cd_qe "_law_numbered" = true)
    (k_qe : PySem.W.keepIn K (.ref f_qe) = true)
    (a_qf : PySem.W.nsIn K mainGlobals "_law_of_sizes" = some (some (.ref f_qf)))
    (l_qf : K.lookup f_qf = some ⟨oc_qf,od_qf,.func (PySem.W.fnOf "_law_of_sizes" "_law_of_sizes" (z09 s_qf) (z07 s_qf) (z03 s_qf) .none kV_qf dc_qf pm_qf an_qf cd_qf ct_qf),sl_qf⟩)
    (c_qf : PySem.W.codeIn K cd_qf "_law_of_sizes" = true)
    (k_qf : PySem.W.keepIn K (.ref f_qf) = true)
    (a_qc : PySem.W.nsIn K mainGlobals "_law_least_with" = some (some (.ref f_qc)))
    (l_qc : K.lookup f_qc = some ⟨oc_qc,od_qc,.func (PySem.W.fnOf "_law_least_with" "_law_least_with" (z09 s_qc) (z07 s_qc) (z03 s_qc) .none kV_qc dc_qc pm_qc an_qc cd_qc ct_qc),sl_qc⟩)
    (c_qc : PySem.W.codeIn K cd_qc "_law_least_with" = true)
    (k_qc : PySem.W.keepIn K (.ref f_qc) = true)
    (a_qb : PySem.W.nsIn K mainGlobals "_law_least_reach" = some (some (.ref f_qb)))
    (l_qb : K.lookup f_qb = some ⟨oc_qb,od_qb,.func (PySem.W.fnOf "_law_least_reach" "_law_least_reach" (z09 s_qb) (z07 s_qb) (z03 s_qb) .none kV_qb dc_qb pm_qb an_qb cd_qb ct_qb),sl_qb⟩)
    (c_qb : PySem.W.codeIn K cd_qb "_law_least_reach" = true)
    (k_qb : PySem.W.keepIn K (.ref f_qb) = true)
    (a_qd : PySem.W.nsIn K mainGlobals "_law_bad_sizes" = some (some (.ref f_qd)))
    (l_qd : K.lookup f_qd = some ⟨oc_qd,od_qd,.func (PySem.W.fnOf "_law_bad_sizes" "_law_bad_sizes" (z09 s_qd) (z07 s_qd) (z03 s_qd) .none kV_qd dc_qd pm_qd an_qd cd_qd ct_qd),sl_qd⟩)
    (c_qd : PySem.W.codeIn K cd_qd "_law_bad_sizes" = true)
    (k_qd : PySem.W.keepIn K (.ref f_qd) = true)
    (a_qi : PySem.W.nsIn K mainGlobals "_law_refused" = some (some (.ref f_qi)))
    (l_qi : K.lookup f_qi = some ⟨oc_qi,od_qi,.func (PySem.W.fnOf "_law_refused" "_law_refused" (z09 s_qi) (z07 s_qi) (z03 s_qi) .none kV_qi dc_qi pm_qi an_qi cd_qi ct_qi),sl_qi⟩)
    (c_qi : PySem.W.codeIn K cd_qi "_law_refused" = true)
    (k_qi : PySem.W.keepIn K (.ref f_qi) = true)
    (a_qp : PySem.W.nsIn K mainGlobals "_law_great" = some (some (.ref f_qp)))
    (l_qp : K.lookup f_qp = some ⟨oc_qp,od_qp,.func (PySem.W.fnOf "_law_great" "_law_great" (z09 s_qp) (z07 s_qp) (z03 s_qp) .none kV_qp dc_qp pm_qp an_qp cd_qp ct_qp),sl_qp⟩)
    (c_qp : PySem.W.codeIn K cd_qp "_law_great" = true)
    (k_qp : PySem.W.keepIn K (.ref f_qp) = true)
    (a_qs : PySem.W.nsIn K mainGlobals "_law_rows" = some (some (.ref f_qs)))
    (l_qs : K.lookup f_qs = some ⟨oc_qs,od_qs,.func (PySem.W.fnOf "_law_rows" "_law_rows" (z09 s_qs) (z07 s_qs) (z03 s_qs) .none kV_qs dc_qs pm_qs an_qs cd_qs ct_qs),sl_qs⟩)
    (c_qs : PySem.W.codeIn K cd_qs "_law_rows" = true)
    (k_qs : PySem.W.keepIn K (.ref f_qs) = true)
    (a_qt : PySem.W.nsIn K mainGlobals "_law_span" = some (some (.ref f_qt)))
    (l_qt : K.lookup f_qt = some ⟨oc_qt,od_qt,.func (PySem.W.fnOf "_law_span" "_law_span" (z09 s_qt) (z07 s_qt) (z03 s_qt) .none kV_qt dc_qt pm_qt an_qt cd_qt ct_qt),sl_qt⟩)
    (c_qt : PySem.W.codeIn K cd_qt "_law_span" = true)
    (k_qt : PySem.W.keepIn K (.ref f_qt) = true)
    (a_qa : PySem.W.nsIn K mainGlobals "_law_reach_by_rule" = some (some (.ref f_qa)))
    (l_qa : K.lookup f_qa = some ⟨oc_qa,od_qa,.func (PySem.W.fnOf "_law_reach_by_rule" "_law_reach_by_rule" (z09 s_qa) (z07 s_qa) (z03 s_qa) .none kV_qa dc_qa pm_qa an_qa cd_qa ct_qa),sl_qa⟩)
    (c_qa : PySem.W.codeIn K cd_qa "_law_reach_by_rule" = true)
    (k_qa : PySem.W.keepIn K (.ref f_qa) = true)
    (a_qv : PySem.W.nsIn K mainGlobals "law" = some (some (.ref f_qv)))
    (l_qv : K.lookup f_qv = some ⟨oc_qv,od_qv,.func (PySem.W.fnOf "law" "law" (z09 s_qv) (z07 s_qv) (z03 s_qv) .none kV_qv dc_qv pm_qv an_qv (.ref cc) ct_qv),sl_qv⟩)
    (c_qv : PySem.W.codeIn K (.ref cc) "law" = true)
    (k_qv : PySem.W.keepIn K (.ref f_qv) = true)
    (z_ValueError : PySem.W.nsIn K mainGlobals "ValueError" = some none)
    (z_abs : PySem.W.nsIn K mainGlobals "abs" = some none)
    (z_all : PySem.W.nsIn K mainGlobals "all" = some none)
    (z_bool : PySem.W.nsIn K mainGlobals "bool" = some none)
    (z_int : PySem.W.nsIn K mainGlobals "int" = some none)
    (z_isinstance : PySem.W.nsIn K mainGlobals "isinstance" = some none)
    (z_len : PySem.W.nsIn K mainGlobals "len" = some none)
    (z_list : PySem.W.nsIn K mainGlobals "list" = some none)
    (z_max : PySem.W.nsIn K mainGlobals "max" = some none)
    (z_min : PySem.W.nsIn K mainGlobals "min" = some none)
    (z_range : PySem.W.nsIn K mainGlobals "range" = some none)
    (z_sorted : PySem.W.nsIn K mainGlobals "sorted" = some none)
    (z_sum : PySem.W.nsIn K mainGlobals "sum" = some none)
    (z_tuple : PySem.W.nsIn K mainGlobals "tuple" = some none)
    (z_zip : PySem.W.nsIn K mainGlobals "zip" = some none)
    (g_MOST_SIZES : PySem.W.nsIn K mainGlobals "MOST_SIZES" = some (some (.int 6 t_MOST_SIZES)))
    (q_a_NoOrder : PySem.W.nsIn K mainGlobals "NoOrder" = some (some (.ref q_NoOrder)))
    (q_s_NoOrder : PySem.W.subIn K (.ref q_NoOrder) (.ref NE) = some true)
    (q_a_NoNumber : PySem.W.nsIn K mainGlobals "NoNumber" = some (some (.ref q_NoNumber)))
    (q_s_NoNumber : PySem.W.subIn K (.ref q_NoNumber) (.ref NE) = some true)
    (q_a_NoPairs : PySem.W.nsIn K mainGlobals "NoPairs" = some (some (.ref q_NoPairs)))
    (q_s_NoPairs : PySem.W.subIn K (.ref q_NoPairs) (.ref NE) = some true)
    (q_a_Round : PySem.W.nsIn K mainGlobals "Round" = some (some (.ref q_Round)))
    (q_s_Round : PySem.W.subIn K (.ref q_Round) (.ref NE) = some true)
    (q_a_NoThing : PySem.W.nsIn K mainGlobals "NoThing" = some (some (.ref q_NoThing)))
    (q_s_NoThing : PySem.W.subIn K (.ref q_NoThing) (.ref NE) = some true)
    (q_a_NoRow : PySem.W.nsIn K mainGlobals "NoRow" = some (some (.ref q_NoRow)))
    (q_s_NoRow : PySem.W.subIn K (.ref q_NoRow) (.ref NE) = some true)
    (q_a_TooMany : PySem.W.nsIn K mainGlobals "TooMany" = some (some (.ref q_TooMany)))
    (q_s_TooMany : PySem.W.subIn K (.ref q_TooMany) (.ref NE) = some true)
    (q_a_TooFew : PySem.W.nsIn K mainGlobals "TooFew" = some (some (.ref q_TooFew)))
    (q_s_TooFew : PySem.W.subIn K (.ref q_TooFew) (.ref NE) = some true)
    (q_a_NoText : PySem.W.nsIn K mainGlobals "NoText" = some (some (.ref q_NoText)))
    (q_s_NoText : PySem.W.subIn K (.ref q_NoText) (.ref NE) = some true)
    (q_a_NoLine : PySem.W.nsIn K mainGlobals "NoLine" = some (some (.ref q_NoLine)))
    (q_s_NoLine : PySem.W.subIn K (.ref q_NoLine) (.ref NE) = some true)
    (q_a_NoDeed : PySem.W.nsIn K mainGlobals "NoDeed" = some (some (.ref q_NoDeed)))
    (q_s_NoDeed : PySem.W.subIn K (.ref q_NoDeed) (.ref NE) = some true)
    (q_a_NoSeating : PySem.W.nsIn K mainGlobals "NoSeating" = some (some (.ref q_NoSeating)))
    (q_s_NoSeating : PySem.W.subIn K (.ref q_NoSeating) (.ref NE) = some true)
    (q_a_NoRing : PySem.W.nsIn K mainGlobals "NoRing" = some (some (.ref q_NoRing)))
    (q_s_NoRing : PySem.W.subIn K (.ref q_NoRing) (.ref NE) = some true)
    (q_a_NoSizes : PySem.W.nsIn K mainGlobals "NoSizes" = some (some (.ref q_NoSizes)))
    (q_s_NoSizes : PySem.W.subIn K (.ref q_NoSizes) (.ref NE) = some true)
    (q_x_NoSizes : PySem.W.excIn K q_NoSizes bmV "ValueError.__new__" = true)
    (q_1_NoSizes : PySem.W.findIn K (.ref q_NoSizes) "__getattribute__" = some (some (.builtin "BaseException.__getattribute__")))
    (q_2_NoSizes : PySem.W.findIn K (.ref q_NoSizes) "__getattr__" = some none)
    (q_3_NoSizes : PySem.W.findIn K (.ref q_NoSizes) "__class__" = some (some (.builtin "object.__class__")))
    (q_4_NoSizes : PySem.W.mroIn K q_NoSizes (.type "object") = some true)
    (q_5_NoSizes : PySem.W.subIn K (.ref q_NoSizes) (.type "BaseException") = some true)
    (q_6_NoSizes : PySem.W.kitCls K (.ref q_NoSizes) (.ref q_NoSizes) = some true)
    (q_7_NoSizes : K.lookup q_NoSizes = some ⟨lo_NoSizes,ld_NoSizes,.cls lc_NoSizes,ls_NoSizes⟩)
    (q_v_NoSizes : PySem.W.kitOne K (.ref q_NoSizes) (.type "ValueError") = some true)
    (q_k_NoSizes_NoOrder : PySem.W.kitOne K (.ref q_NoSizes) (.ref q_NoOrder) = some false)
    (q_k_NoSizes_NoNumber : PySem.W.kitOne K (.ref q_NoSizes) (.ref q_NoNumber) = some false)
    (q_k_NoSizes_NoPairs : PySem.W.kitOne K (.ref q_NoSizes) (.ref q_NoPairs) = some false)
    (q_k_NoSizes_Round : PySem.W.kitOne K (.ref q_NoSizes) (.ref q_Round) = some false)
    (q_k_NoSizes_NoThing : PySem.W.kitOne K (.ref q_NoSizes) (.ref q_NoThing) = some false)
    (q_k_NoSizes_NoRow : PySem.W.kitOne K (.ref q_NoSizes) (.ref q_NoRow) = some false)
    (q_k_NoSizes_TooMany : PySem.W.kitOne K (.ref q_NoSizes) (.ref q_TooMany) = some false)
    (q_k_NoSizes_TooFew : PySem.W.kitOne K (.ref q_NoSizes) (.ref q_TooFew) = some false)
    (q_k_NoSizes_NoText : PySem.W.kitOne K (.ref q_NoSizes) (.ref q_NoText) = some false)
    (q_k_NoSizes_NoLine : PySem.W.kitOne K (.ref q_NoSizes) (.ref q_NoLine) = some false)
    (q_k_NoSizes_NoDeed : PySem.W.kitOne K (.ref q_NoSizes) (.ref q_NoDeed) = some false)
    (q_k_NoSizes_NoSeating : PySem.W.kitOne K (.ref q_NoSizes) (.ref q_NoSeating) = some false)
    (q_k_NoSizes_NoRing : PySem.W.kitOne K (.ref q_NoSizes) (.ref q_NoRing) = some false)
    (q_k_NoSizes_NoSizes : PySem.W.kitOne K (.ref q_NoSizes) (.ref q_NoSizes) = some true)
    (n_1 : PySem.W.subIn K (.ref NE) (.type "BaseException") = some true)
    (n_2 : PySem.W.subIn K (.type "type") (.type "tuple") = some false)
    (n_3 : PySem.W.kitCls K (.ref NE) (.ref NE) = some true)
    (tb1 : K.lookup cc = some ⟨tu1,tu3,.fields tvs,tu4⟩)
    (tb2 : tvs[11]? = some (.ref PP))
    (nt : PySem.W.noTabs K = true) :
    ∃ (fd : FuncData) (c P : Addr),(∀ (s : Shared) (u : Value),BindsTo s fd ⟨[u],[]⟩ [("_law_script",u)])∧PySem.W.tabIn K "law" = some (c,P)∧PySem.W.noTabs K = true ∧
      ∀ (base : Heap) (a : Addr) (ns : List Int),ns.length ≤ 63→K.In base→base.Ns mainGlobals mg→PySem.W.CodeHd base c P→z56 mg base→Lawful l.prog w K mg base 10 fa fd "_law_script" P a ns:= by
  have e := hfa.symm.trans (PySem.W.mg_of X G a_qv)
  cases e
  have U_qu := z1a (st := s_qu) l_qu c_qu k_qu
  have U_qk := z1a (st := s_qk) l_qk c_qk k_qk
  have U_ql := z1a (st := s_ql) l_ql c_ql k_ql
  have U_qj := z1a (st := s_qj) l_qj c_qj k_qj
  have U_qg := z1a (st := s_qg) l_qg c_qg k_qg
  have U_qq := z1a (st := s_qq) l_qq c_qq k_qq
  have U_qm := z1a (st := s_qm) l_qm c_qm k_qm
  have U_qh := z1a (st := s_qh) l_qh c_qh k_qh
  have U_qn := z1a (st := s_qn) l_qn c_qn k_qn
  have U_qo := z1a (st := s_qo) l_qo c_qo k_qo
  have U_qr := z1a (st := s_qr) l_qr c_qr k_qr
  have U_qe := z1a (st := s_qe) l_qe c_qe k_qe
  have U_qf := z1a (st := s_qf) l_qf c_qf k_qf
  have U_qc := z1a (st := s_qc) l_qc c_qc k_qc
  have U_qb := z1a (st := s_qb) l_qb c_qb k_qb
  have U_qd := z1a (st := s_qd) l_qd c_qd k_qd
  have U_qi := z1a (st := s_qi) l_qi c_qi k_qi
  have U_qp := z1a (st := s_qp) l_qp c_qp k_qp
  have U_qs := z1a (st := s_qs) l_qs c_qs k_qs
  have U_qt := z1a (st := s_qt) l_qt c_qt k_qt
  have U_qa := z1a (st := s_qa) l_qa c_qa k_qa
  have U_qv := z1a (st := s_qv) l_qv c_qv k_qv
  have tb : PySem.W.tabIn K "law" = some (cc,PP):= by
    unfold PySem.W.tabIn
    rw [a_qv]
    dsimp only
    rw [l_qv]
    dsimp only
    rw [tb1]
    dsimp only
    rw [tb2]
  refine ⟨(PySem.W.fnOf "law" "law" (z09 s_qv) (z07 s_qv) (z03 s_qv) .none kV_qv dc_qv pm_qv an_qv (.ref cc) ct_qv),cc,PP,fun s v => .of_eq rfl,tb,nt,fun base a ns hlen _ _ hC hB => ⟨?_⟩⟩
  obtain ⟨hh,hl⟩ := zf3 ns
  refine ⟨{ K := K,cl:= fun c => match c with | 0 => q_NoOrder | 1 => q_NoNumber | 2 => q_NoPairs | 3 => q_Round | 4 => q_NoThing | 5 => q_NoRow | 6 => q_TooMany | 7 => q_TooFew | 8 => q_NoText | 9 => q_NoLine | 10 => q_NoDeed | 11 => q_NoSeating | 12 => q_NoRing | 13 => q_NoSizes | _ => NE,scr := ns,sa := a,tab := some PP,lq := (("law" : Str) ++ ".<locals>.") ++ "<lambda>" },F_qv ns,hh,rfl,rfl,rfl,rfl,hl, ?_⟩
  refine zon (A := { f_qu := f_qu,fd_qu := (PySem.W.fnOf "is_whole" "is_whole" (z09 s_qu) (z07 s_qu) (z03 s_qu) .none kV_qu dc_qu pm_qu an_qu cd_qu ct_qu),f_qk := f_qk,fd_qk := (PySem.W.fnOf "rounded_up" "rounded_up" (z09 s_qk) (z07 s_qk) (z03 s_qk) .none kV_qk dc_qk pm_qk an_qk cd_qk ct_qk),f_ql := f_ql,fd_ql := (PySem.W.fnOf "need_sizes" "need_sizes" (z09 s_ql) (z07 s_ql) (z03 s_ql) .none kV_ql dc_ql pm_ql an_ql cd_ql ct_ql),f_qj := f_qj,fd_qj := (PySem.W.fnOf "levels_span" "levels_span" (z09 s_qj) (z07 s_qj) (z03 s_qj) .none kV_qj dc_qj pm_qj an_qj cd_qj ct_qj),f_qg := f_qg,fd_qg := (PySem.W.fnOf "chains_reach" "chains_reach" (z09 s_qg) (z07 s_qg) (z03 s_qg) .none kV_qg dc_qg pm_qg an_qg cd_qg ct_qg),f_qq := f_qq,fd_qq := (PySem.W.fnOf "_law_take" "_law_take" (z09 s_qq) (z07 s_qq) (z03 s_qq) .none kV_qq dc_qq pm_qq an_qq cd_qq ct_qq),f_qm := f_qm,fd_qm := (PySem.W.fnOf "_law_loose" "_law_loose" (z09 s_qm) (z07 s_qm) (z03 s_qm) .none kV_qm dc_qm pm_qm an_qm cd_qm ct_qm),f_qh := f_qh,fd_qh := (PySem.W.fnOf "_law_cell_at" "_law_cell_at" (z09 s_qh) (z07 s_qh) (z03 s_qh) .none kV_qh dc_qh pm_qh an_qh cd_qh ct_qh),f_qn := f_qn,fd_qn := (PySem.W.fnOf "_law_state" "_law_state" (z09 s_qn) (z07 s_qn) (z03 s_qn) .none kV_qn dc_qn pm_qn an_qn cd_qn ct_qn),f_qo := f_qo,fd_qo := (PySem.W.fnOf "_law_sizes" "_law_sizes" (z09 s_qo) (z07 s_qo) (z03 s_qo) .none kV_qo dc_qo pm_qo an_qo cd_qo ct_qo),f_qr := f_qr,fd_qr := (PySem.W.fnOf "_law_same" "_law_same" (z09 s_qr) (z07 s_qr) (z03 s_qr) .none kV_qr dc_qr pm_qr an_qr cd_qr ct_qr),f_qe := f_qe,fd_qe := (PySem.W.fnOf "_law_numbered" "_law_numbered" (z09 s_qe) (z07 s_qe) (z03 s_qe) .none kV_qe dc_qe pm_qe an_qe cd_qe ct_qe),f_qf := f_qf,fd_qf := (PySem.W.fnOf "_law_of_sizes" "_law_of_sizes" (z09 s_qf) (z07 s_qf) (z03 s_qf) .none kV_qf dc_qf pm_qf an_qf cd_qf ct_qf),f_qc := f_qc,fd_qc := (PySem.W.fnOf "_law_least_with" "_law_least_with" (z09 s_qc) (z07 s_qc) (z03 s_qc) .none kV_qc dc_qc pm_qc an_qc cd_qc ct_qc),f_qb := f_qb,fd_qb := (PySem.W.fnOf "_law_least_reach" "_law_least_reach" (z09 s_qb) (z07 s_qb) (z03 s_qb) .none kV_qb dc_qb pm_qb an_qb cd_qb ct_qb),f_qd := f_qd,fd_qd := (PySem.W.fnOf "_law_bad_sizes" "_law_bad_sizes" (z09 s_qd) (z07 s_qd) (z03 s_qd) .none kV_qd dc_qd pm_qd an_qd cd_qd ct_qd),f_qi := f_qi,fd_qi := (PySem.W.fnOf "_law_refused" "_law_refused" (z09 s_qi) (z07 s_qi) (z03 s_qi) .none kV_qi dc_qi pm_qi an_qi cd_qi ct_qi),f_qp := f_qp,fd_qp := (PySem.W.fnOf "_law_great" "_law_great" (z09 s_qp) (z07 s_qp) (z03 s_qp) .none kV_qp dc_qp pm_qp an_qp cd_qp ct_qp),f_qs := f_qs,fd_qs := (PySem.W.fnOf "_law_rows" "_law_rows" (z09 s_qs) (z07 s_qs) (z03 s_qs) .none kV_qs dc_qs pm_qs an_qs cd_qs ct_qs),f_qt := f_qt,fd_qt := (PySem.W.fnOf "_law_span" "_law_span" (z09 s_qt) (z07 s_qt) (z03 s_qt) .none kV_qt dc_qt pm_qt an_qt cd_qt ct_qt),f_qa := f_qa,fd_qa := (PySem.W.fnOf "_law_reach_by_rule" "_law_reach_by_rule" (z09 s_qa) (z07 s_qa) (z03 s_qa) .none kV_qa dc_qa pm_qa an_qa cd_qa ct_qa),f_qv := fa,fd_qv := (PySem.W.fnOf "law" "law" (z09 s_qv) (z07 s_qv) (z03 s_qv) .none kV_qv dc_qv pm_qv an_qv (.ref cc) ct_qv),c_NoOrder := q_NoOrder,c_NoNumber := q_NoNumber,c_NoPairs := q_NoPairs,c_Round := q_Round,c_NoThing := q_NoThing,c_NoRow := q_NoRow,c_TooMany := q_TooMany,c_TooFew := q_TooFew,c_NoText := q_NoText,c_NoLine := q_NoLine,c_NoDeed := q_NoDeed,c_NoSeating := q_NoSeating,c_NoRing := q_NoRing,c_NoSizes := q_NoSizes,t_MOST_SIZES := t_MOST_SIZES,NE := NE,cc := cc,P := PP }) ?_ hC hB
  have ex_NoSizes : ExK K q_NoSizes := ⟨q_1_NoSizes,q_2_NoSizes,q_3_NoSizes,q_4_NoSizes,q_5_NoSizes,q_6_NoSizes,⟨_,_,_,_,q_7_NoSizes⟩⟩
  exact {
    hK := rfl
    F_qu := U_qu
    B_qu := U_qu.binds (ps := ["thing"]) zp2
    m_qu := PySem.W.mg_of X G a_qu
    F_qk := U_qk
    B_qk := U_qk.binds (ps := ["number","by"]) zp3
    m_qk := PySem.W.mg_of X G a_qk
    F_ql := U_ql
    B_ql := U_ql.binds (ps := ["sizes"]) zp4
    m_ql := PySem.W.mg_of X G a_ql
    F_qj := U_qj
    B_qj := U_qj.binds (ps := ["sizes"]) zp5
    m_qj := PySem.W.mg_of X G a_qj
    F_qg := U_qg
    B_qg := U_qg.binds (ps := ["sizes"]) zp6
    m_qg := PySem.W.mg_of X G a_qg
    F_qq := U_qq
    B_qq := U_qq.binds (ps := ["_law_state_here","_law_many"]) zp7
    m_qq := PySem.W.mg_of X G a_qq
    F_qm := U_qm
    B_qm := U_qm.binds (ps := ["_law_order"]) zp8
    m_qm := PySem.W.mg_of X G a_qm
    F_qh := U_qh
    B_qh := U_qh.binds (ps := ["_law_script","_law_k"]) zp9
    m_qh := PySem.W.mg_of X G a_qh
    F_qn := U_qn
    B_qn := U_qn.binds (ps := ["_law_script","_law_k"]) zpa
    m_qn := PySem.W.mg_of X G a_qn
    F_qo := U_qo
    B_qo := U_qo.binds (ps := ["_law_state_here"]) zpb
    m_qo := PySem.W.mg_of X G a_qo
    F_qr := U_qr
    B_qr := U_qr.binds (ps := ["_law_found","_law_due"]) zpc
    m_qr := PySem.W.mg_of X G a_qr
    F_qe := U_qe
    B_qe := U_qe.binds (ps := ["_law_sizes_here"]) zpd
    m_qe := PySem.W.mg_of X G a_qe
    F_qf := U_qf
    B_qf := U_qf.binds (ps := ["_law_sizes_here","_law_chains"]) zpe
    m_qf := PySem.W.mg_of X G a_qf
    F_qc := U_qc
    B_qc := U_qc.binds (ps := ["_law_order","_law_reach"]) zpf
    m_qc := PySem.W.mg_of X G a_qc
    F_qb := U_qb
    B_qb := U_qb.binds (ps := ["_law_order"]) zpg
    m_qb := PySem.W.mg_of X G a_qb
    F_qd := U_qd
    B_qd := U_qd.binds (ps := ["_law_state_here"]) zph
    m_qd := PySem.W.mg_of X G a_qd
    F_qi := U_qi
    B_qi := U_qi.binds (ps := ["_law_call"]) zpi
    m_qi := PySem.W.mg_of X G a_qi
    F_qp := U_qp
    B_qp := U_qp.binds (ps := ["_law_state_here"]) zpj
    m_qp := PySem.W.mg_of X G a_qp
    F_qs := U_qs
    B_qs := U_qs.binds (ps := ["_law_order"]) zpk
    m_qs := PySem.W.mg_of X G a_qs
    F_qt := U_qt
    B_qt := U_qt.binds (ps := ["_law_order"]) zpl
    m_qt := PySem.W.mg_of X G a_qt
    F_qa := U_qa
    B_qa := U_qa.binds (ps := ["_law_sizes_here"]) zpm
    m_qa := PySem.W.mg_of X G a_qa
    F_qv := U_qv
    B_qv := U_qv.binds (ps := ["_law_script"]) zpn
    m_qv := PySem.W.mg_of X G a_qv
    z_ValueError := PySem.W.mg_none_of X G z_ValueError
    z_abs := PySem.W.mg_none_of X G z_abs
    z_all := PySem.W.mg_none_of X G z_all
    z_bool := PySem.W.mg_none_of X G z_bool
    z_int := PySem.W.mg_none_of X G z_int
    z_isinstance := PySem.W.mg_none_of X G z_isinstance
    z_len := PySem.W.mg_none_of X G z_len
    z_list := PySem.W.mg_none_of X G z_list
    z_max := PySem.W.mg_none_of X G z_max
    z_min := PySem.W.mg_none_of X G z_min
    z_range := PySem.W.mg_none_of X G z_range
    z_sorted := PySem.W.mg_none_of X G z_sorted
    z_sum := PySem.W.mg_none_of X G z_sum
    z_tuple := PySem.W.mg_none_of X G z_tuple
    z_zip := PySem.W.mg_none_of X G z_zip
    c_MOST_SIZES := PySem.W.mg_of X G g_MOST_SIZES
    n_NoOrder := PySem.W.mg_of X G q_a_NoOrder
    n_NoNumber := PySem.W.mg_of X G q_a_NoNumber
    n_NoPairs := PySem.W.mg_of X G q_a_NoPairs
    n_Round := PySem.W.mg_of X G q_a_Round
    n_NoThing := PySem.W.mg_of X G q_a_NoThing
    n_NoRow := PySem.W.mg_of X G q_a_NoRow
    n_TooMany := PySem.W.mg_of X G q_a_TooMany
    n_TooFew := PySem.W.mg_of X G q_a_TooFew
    n_NoText := PySem.W.mg_of X G q_a_NoText
    n_NoLine := PySem.W.mg_of X G q_a_NoLine
    n_NoDeed := PySem.W.mg_of X G q_a_NoDeed
    n_NoSeating := PySem.W.mg_of X G q_a_NoSeating
    n_NoRing := PySem.W.mg_of X G q_a_NoRing
    n_NoSizes := PySem.W.mg_of X G q_a_NoSizes
    ns_NoSizes := q_a_NoSizes
    x_NoSizes := q_x_NoSizes
    ce_NoSizes := rfl
    ktV := tbc ⟨q_v_NoSizes,ex_NoSizes⟩ tbn
    kt0 := tbc ⟨q_k_NoSizes_NoOrder,ex_NoSizes⟩ tbn
    kt1 := tbc ⟨q_k_NoSizes_NoNumber,ex_NoSizes⟩ tbn
    kt2 := tbc ⟨q_k_NoSizes_NoPairs,ex_NoSizes⟩ tbn
    kt3 := tbc ⟨q_k_NoSizes_Round,ex_NoSizes⟩ tbn
    kt4 := tbc ⟨q_k_NoSizes_NoThing,ex_NoSizes⟩ tbn
    kt5 := tbc ⟨q_k_NoSizes_NoRow,ex_NoSizes⟩ tbn
    kt6 := tbc ⟨q_k_NoSizes_TooMany,ex_NoSizes⟩ tbn
    kt7 := tbc ⟨q_k_NoSizes_TooFew,ex_NoSizes⟩ tbn
    kt8 := tbc ⟨q_k_NoSizes_NoText,ex_NoSizes⟩ tbn
    kt9 := tbc ⟨q_k_NoSizes_NoLine,ex_NoSizes⟩ tbn
    kt10 := tbc ⟨q_k_NoSizes_NoDeed,ex_NoSizes⟩ tbn
    kt11 := tbc ⟨q_k_NoSizes_NoSeating,ex_NoSizes⟩ tbn
    kt12 := tbc ⟨q_k_NoSizes_NoRing,ex_NoSizes⟩ tbn
    kt13 := tbc ⟨q_k_NoSizes_NoSizes,ex_NoSizes⟩ tbn
    n_NearError := PySem.W.mg_of X G n_a
    e1 := n_1
    e2 := n_2
    e3 := n_3
    e4 := z1x q_s_NoOrder (z1x q_s_NoNumber (z1x q_s_NoPairs (z1x q_s_Round (z1x q_s_NoThing (z1x q_s_NoRow (z1x q_s_TooMany (z1x q_s_TooFew (z1x q_s_NoText (z1x q_s_NoLine (z1x q_s_NoDeed (z1x q_s_NoSeating (z1x q_s_NoRing (z1x q_s_NoSizes zld)))))))))))))
    lq := rfl
    tab := rfl
    code := rfl }
open PySem PySem.Spec PySem.Calls PySem.W PyProof.Rows L2 L2.Mr
theorem mk_of {l : OpenLaw} {w : World} {K : Frag} {h : Heap} {mg : Str→Option Value} {fa : Addr} (hob : ob K = obE) (hnt : noTabs K = true) (X : K.In h) (G : h.Ns mainGlobals mg) (hfa : mg "law" = some (.ref fa)) :
    ∃ (fd : FuncData) (c P : Addr),(∀ (s : Shared) (u : Value),BindsTo s fd ⟨[u],[]⟩ [("_law_script",u)])∧PySem.W.tabIn K "law" = some (c,P)∧PySem.W.noTabs K = true ∧
      ∀ (base : Heap) (a : Addr) (ns : List Int),ns.length ≤ 63→K.In base→base.Ns mainGlobals mg→PySem.W.CodeHd base c P→z56 mg base→Lawful l.prog w K mg base 10 fa fd "_law_script" P a ns:= by
  have hc : obF.all (fun f => f K) = true := congrArg Prod.fst hob
  have hf : obN K = obX := congrArg Prod.snd hob
  refine (fun (z : ∀ R : Prop,(_→R)→R) => z _ id) fun R hR => ?_
  obtain ⟨_,_,_,_,_,_,_,_,e_0⟩ := z19 (n := "is_whole") (q := "is_whole") (A := z09 s_qu) (B := z07 s_qu) (S := z03 s_qu) (dV := .none) (cd := .ref 201) (fnAt hf 0 (a := fob K 202) rfl rfl)
  obtain ⟨_,_,_,_,_,_,_,_,e_1⟩ := z19 (n := "rounded_up") (q := "rounded_up") (A := z09 s_qk) (B := z07 s_qk) (S := z03 s_qk) (dV := .none) (cd := .ref 208) (fnAt hf 1 (a := fob K 209) rfl rfl)
  obtain ⟨_,_,_,_,_,_,_,_,e_2⟩ := z19 (n := "need_sizes") (q := "need_sizes") (A := z09 s_ql) (B := z07 s_ql) (S := z03 s_ql) (dV := .none) (cd := .ref 213) (fnAt hf 2 (a := fob K 214) rfl rfl)
  obtain ⟨_,_,_,_,_,_,_,_,e_3⟩ := z19 (n := "levels_span") (q := "levels_span") (A := z09 s_qj) (B := z07 s_qj) (S := z03 s_qj) (dV := .none) (cd := .ref 220) (fnAt hf 3 (a := fob K 221) rfl rfl)
  obtain ⟨_,_,_,_,_,_,_,_,e_4⟩ := z19 (n := "chains_reach") (q := "chains_reach") (A := z09 s_qg) (B := z07 s_qg) (S := z03 s_qg) (dV := .none) (cd := .ref 227) (fnAt hf 4 (a := fob K 228) rfl rfl)
  obtain ⟨_,_,_,_,_,_,_,_,e_5⟩ := z19 (n := "_law_take") (q := "_law_take") (A := z09 s_qq) (B := z07 s_qq) (S := z03 s_qq) (dV := .none) (cd := .ref 234) (fnAt hf 5 (a := fob K 235) rfl rfl)
  obtain ⟨_,_,_,_,_,_,_,_,e_6⟩ := z19 (n := "_law_loose") (q := "_law_loose") (A := z09 s_qm) (B := z07 s_qm) (S := z03 s_qm) (dV := .none) (cd := .ref 241) (fnAt hf 6 (a := fob K 242) rfl rfl)
  obtain ⟨_,_,_,_,_,_,_,_,e_7⟩ := z19 (n := "_law_cell_at") (q := "_law_cell_at") (A := z09 s_qh) (B := z07 s_qh) (S := z03 s_qh) (dV := .none) (cd := .ref 248) (fnAt hf 7 (a := fob K 249) rfl rfl)
  obtain ⟨_,_,_,_,_,_,_,_,e_8⟩ := z19 (n := "_law_state") (q := "_law_state") (A := z09 s_qn) (B := z07 s_qn) (S := z03 s_qn) (dV := .none) (cd := .ref 255) (fnAt hf 8 (a := fob K 256) rfl rfl)
  obtain ⟨_,_,_,_,_,_,_,_,e_9⟩ := z19 (n := "_law_sizes") (q := "_law_sizes") (A := z09 s_qo) (B := z07 s_qo) (S := z03 s_qo) (dV := .none) (cd := .ref 262) (fnAt hf 9 (a := fob K 263) rfl rfl)
  obtain ⟨_,_,_,_,_,_,_,_,e_10⟩ := z19 (n := "_law_same") (q := "_law_same") (A := z09 s_qr) (B := z07 s_qr) (S := z03 s_qr) (dV := .none) (cd := .ref 267) (fnAt hf 10 (a := fob K 268) rfl rfl)
  obtain ⟨_,_,_,_,_,_,_,_,e_11⟩ := z19 (n := "_law_numbered") (q := "_law_numbered") (A := z09 s_qe) (B := z07 s_qe) (S := z03 s_qe) (dV := .none) (cd := .ref 274) (fnAt hf 11 (a := fob K 275) rfl rfl)
  obtain ⟨_,_,_,_,_,_,_,_,e_12⟩ := z19 (n := "_law_of_sizes") (q := "_law_of_sizes") (A := z09 s_qf) (B := z07 s_qf) (S := z03 s_qf) (dV := .none) (cd := .ref 281) (fnAt hf 12 (a := fob K 282) rfl rfl)
  obtain ⟨_,_,_,_,_,_,_,_,e_13⟩ := z19 (n := "_law_least_with") (q := "_law_least_with") (A := z09 s_qc) (B := z07 s_qc) (S := z03 s_qc) (dV := .none) (cd := .ref 288) (fnAt hf 13 (a := fob K 289) rfl rfl)
  obtain ⟨_,_,_,_,_,_,_,_,e_14⟩ := z19 (n := "_law_least_reach") (q := "_law_least_reach") (A := z09 s_qb) (B := z07 s_qb) (S := z03 s_qb) (dV := .none) (cd := .ref 295) (fnAt hf 14 (a := fob K 296) rfl rfl)
  obtain ⟨_,_,_,_,_,_,_,_,e_15⟩ := z19 (n := "_law_bad_sizes") (q := "_law_bad_sizes") (A := z09 s_qd) (B := z07 s_qd) (S := z03 s_qd) (dV := .none) (cd := .ref 302) (fnAt hf 15 (a := fob K 303) rfl rfl)
  obtain ⟨_,_,_,_,_,_,_,_,e_16⟩ := z19 (n := "_law_refused") (q := "_law_refused") (A := z09 s_qi) (B := z07 s_qi) (S := z03 s_qi) (dV := .none) (cd := .ref 307) (fnAt hf 16 (a := fob K 308) rfl rfl)
  obtain ⟨_,_,_,_,_,_,_,_,e_17⟩ := z19 (n := "_law_great") (q := "_law_great") (A := z09 s_qp) (B := z07 s_qp) (S := z03 s_qp) (dV := .none) (cd := .ref 314) (fnAt hf 17 (a := fob K 315) rfl rfl)
  obtain ⟨_,_,_,_,_,_,_,_,e_18⟩ := z19 (n := "_law_rows") (q := "_law_rows") (A := z09 s_qs) (B := z07 s_qs) (S := z03 s_qs) (dV := .none) (cd := .ref 319) (fnAt hf 18 (a := fob K 320) rfl rfl)
  obtain ⟨_,_,_,_,_,_,_,_,e_19⟩ := z19 (n := "_law_span") (q := "_law_span") (A := z09 s_qt) (B := z07 s_qt) (S := z03 s_qt) (dV := .none) (cd := .ref 324) (fnAt hf 19 (a := fob K 325) rfl rfl)
  obtain ⟨_,_,_,_,_,_,_,_,e_20⟩ := z19 (n := "_law_reach_by_rule") (q := "_law_reach_by_rule") (A := z09 s_qa) (B := z07 s_qa) (S := z03 s_qa) (dV := .none) (cd := .ref 331) (fnAt hf 20 (a := fob K 332) rfl rfl)
  obtain ⟨_,_,_,_,_,_,_,_,e_21⟩ := z19 (n := "law") (q := "law") (A := z09 s_qv) (B := z07 s_qv) (S := z03 s_qv) (dV := .none) (cd := .ref 338) (fnAt hf 21 (a := fob K 339) rfl rfl)
  obtain ⟨_,x_82⟩ := zg6 (n := "MOST_SIZES") (v := 6) (z0b hc 82 rfl)
  obtain ⟨_,_,_,_,x_118⟩ := zg5 (q := 133) (z0b hc 118 rfl)
  obtain ⟨_,_,_,_,x_137,y_137⟩ := zg7 (cc := 338) (P := 334) (z0b hc 137 rfl)
  exact hR (zmn X G hfa (of_decide_eq_true (z0b hc 0 rfl)) (of_decide_eq_true (z0b hc 1 rfl)) e_0 (z0b hc 2 rfl) (z0b hc 3 rfl) (of_decide_eq_true (z0b hc 4 rfl)) e_1 (z0b hc 5 rfl) (z0b hc 6 rfl) (of_decide_eq_true (z0b hc 7 rfl)) e_2 (z0b hc 8 rfl) (z0b hc 9 rfl) (of_decide_eq_true (z0b hc 10 rfl)) e_3 (z0b hc 11 rfl) (z0b hc 12 rfl) (of_decide_eq_true (z0b hc 13 rfl)) e_4 (z0b hc 14 rfl) (z0b hc 15 rfl) (of_decide_eq_true (z0b hc 16 rfl)) e_5 (z0b hc 17 rfl) (z0b hc 18 rfl) (of_decide_eq_true (z0b hc 19 rfl)) e_6 (z0b hc 20 rfl) (z0b hc 21 rfl) (of_decide_eq_true (z0b hc 22 rfl)) e_7 (z0b hc 23 rfl) (z0b hc 24 rfl) (of_decide_eq_true (z0b hc 25 rfl)) e_8 (z0b hc 26 rfl) (z0b hc 27 rfl) (of_decide_eq_true (z0b hc 28 rfl)) e_9 (z0b hc 29 rfl) (z0b hc 30 rfl) (of_decide_eq_true (z0b hc 31 rfl)) e_10 (z0b hc 32 rfl) (z0b hc 33 rfl) (of_decide_eq_true (z0b hc 34 rfl)) e_11 (z0b hc 35 rfl) (z0b hc 36 rfl) (of_decide_eq_true (z0b hc 37 rfl)) e_12 (z0b hc 38 rfl) (z0b hc 39 rfl) (of_decide_eq_true (z0b hc 40 rfl)) e_13 (z0b hc 41 rfl) (z0b hc 42 rfl) (of_decide_eq_true (z0b hc 43 rfl)) e_14 (z0b hc 44 rfl) (z0b hc 45 rfl) (of_decide_eq_true (z0b hc 46 rfl)) e_15 (z0b hc 47 rfl) (z0b hc 48 rfl) (of_decide_eq_true (z0b hc 49 rfl)) e_16 (z0b hc 50 rfl) (z0b hc 51 rfl) (of_decide_eq_true (z0b hc 52 rfl)) e_17 (z0b hc 53 rfl) (z0b hc 54 rfl) (of_decide_eq_true (z0b hc 55 rfl)) e_18 (z0b hc 56 rfl) (z0b hc 57 rfl) (of_decide_eq_true (z0b hc 58 rfl)) e_19 (z0b hc 59 rfl) (z0b hc 60 rfl) (of_decide_eq_true (z0b hc 61 rfl)) e_20 (z0b hc 62 rfl) (z0b hc 63 rfl) (of_decide_eq_true (z0b hc 64 rfl)) e_21 (z0b hc 65 rfl) (z0b hc 66 rfl) (of_decide_eq_true (z0b hc 67 rfl)) (of_decide_eq_true (z0b hc 68 rfl)) (of_decide_eq_true (z0b hc 69 rfl)) (of_decide_eq_true (z0b hc 70 rfl)) (of_decide_eq_true (z0b hc 71 rfl)) (of_decide_eq_true (z0b hc 72 rfl)) (of_decide_eq_true (z0b hc 73 rfl)) (of_decide_eq_true (z0b hc 74 rfl)) (of_decide_eq_true (z0b hc 75 rfl)) (of_decide_eq_true (z0b hc 76 rfl)) (of_decide_eq_true (z0b hc 77 rfl)) (of_decide_eq_true (z0b hc 78 rfl)) (of_decide_eq_true (z0b hc 79 rfl)) (of_decide_eq_true (z0b hc 80 rfl)) (of_decide_eq_true (z0b hc 81 rfl)) x_82 (of_decide_eq_true (z0b hc 83 rfl)) (of_decide_eq_true (z0b hc 84 rfl)) (of_decide_eq_true (z0b hc 85 rfl)) (of_decide_eq_true (z0b hc 86 rfl)) (of_decide_eq_true (z0b hc 87 rfl)) (of_decide_eq_true (z0b hc 88 rfl)) (of_decide_eq_true (z0b hc 89 rfl)) (of_decide_eq_true (z0b hc 90 rfl)) (of_decide_eq_true (z0b hc 91 rfl)) (of_decide_eq_true (z0b hc 92 rfl)) (of_decide_eq_true (z0b hc 93 rfl)) (of_decide_eq_true (z0b hc 94 rfl)) (of_decide_eq_true (z0b hc 95 rfl)) (of_decide_eq_true (z0b hc 96 rfl)) (of_decide_eq_true (z0b hc 97 rfl)) (of_decide_eq_true (z0b hc 98 rfl)) (of_decide_eq_true (z0b hc 99 rfl)) (of_decide_eq_true (z0b hc 100 rfl)) (of_decide_eq_true (z0b hc 101 rfl)) (of_decide_eq_true (z0b hc 102 rfl)) (of_decide_eq_true (z0b hc 103 rfl)) (of_decide_eq_true (z0b hc 104 rfl)) (of_decide_eq_true (z0b hc 105 rfl)) (of_decide_eq_true (z0b hc 106 rfl)) (of_decide_eq_true (z0b hc 107 rfl)) (of_decide_eq_true (z0b hc 108 rfl)) (of_decide_eq_true (z0b hc 109 rfl)) (of_decide_eq_true (z0b hc 110 rfl)) (z0b hc 111 rfl) (of_decide_eq_true (z0b hc 112 rfl)) (of_decide_eq_true (z0b hc 113 rfl)) (of_decide_eq_true (z0b hc 114 rfl)) (of_decide_eq_true (z0b hc 115 rfl)) (of_decide_eq_true (z0b hc 116 rfl)) (of_decide_eq_true (z0b hc 117 rfl)) x_118 (of_decide_eq_true (z0b hc 119 rfl)) (of_decide_eq_true (z0b hc 120 rfl)) (of_decide_eq_true (z0b hc 121 rfl)) (of_decide_eq_true (z0b hc 122 rfl)) (of_decide_eq_true (z0b hc 123 rfl)) (of_decide_eq_true (z0b hc 124 rfl)) (of_decide_eq_true (z0b hc 125 rfl)) (of_decide_eq_true (z0b hc 126 rfl)) (of_decide_eq_true (z0b hc 127 rfl)) (of_decide_eq_true (z0b hc 128 rfl)) (of_decide_eq_true (z0b hc 129 rfl)) (of_decide_eq_true (z0b hc 130 rfl)) (of_decide_eq_true (z0b hc 131 rfl)) (of_decide_eq_true (z0b hc 132 rfl)) (of_decide_eq_true (z0b hc 133 rfl)) (of_decide_eq_true (z0b hc 134 rfl)) (of_decide_eq_true (z0b hc 135 rfl)) (of_decide_eq_true (z0b hc 136 rfl)) x_137 y_137 hnt)
end L2.Mr.K71
open PySem PySem.W PyProof.Rows
set_option maxRecDepth 100000 in
set_option maxHeartbeats 0 in
theorem PySem.Challenge.cw_nearorders_k71_numbers_by_rule_holds : PySem.Challenge.rw_nearorders_k71_numbers_by_rule.Holds := by
  w_on; o_law
  refine holds_open (XP := XL L2.Mr.K71.vw []) (YP := L2.Mr.Ys L2.Mr.K71.ob L2.Mr.K71.obE) L2.Mr.K71.left L2.Mr.ys_of L2.Mr.ys_keeps (fun s e => xl_of s (Bool.and_eq_true_iff.mp e).1) XL.keeps (by rfl) (by rfl) (by rfl) (fun s e => recFacts_of (Bool.and_eq_true_iff.mp e).2) (by rfl) (by first | assumption | decide +kernel) (by decide +kernel) ⟨rfl,rfl,rfl,rfl,rfl,by decide +kernel⟩ ?hw ?hc
  case hw => w_witness2
  case hc => exact L2.Mr.walkK (l := PySem.Challenge.rw_nearorders_k71_numbers_by_rule) (n := 63) (k := 10) (x := "_law_script") rfl (by decide) rfl ⟨rfl,by decide,by decide⟩ rfl (fun K w mg fa h hob hnt X G hmg => L2.Mr.K71.mk_of hob hnt X G hmg)