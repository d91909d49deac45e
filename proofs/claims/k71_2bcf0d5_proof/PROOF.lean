import PyProof.Rows.All
import Wide.All
import OpenK.AllK
import Wide.FinOn
import Lean
import PyProof.EqAt
import PyProof.EqKinds
import PyProof.TupleCall
import PyProof.NeKinds
import PyProof.StationsW
import PyProof.ExcClass3
import PyProof.ExcBaseAll.ValueError
import PyProof.ExcArgsOwn
import KE.KIsAll
import PyProof.ZipIter
import PyProof.RulesAs
import KE.KLam
import PyProof.NsDelKeeps
import PyProof.Rows.Range3
import PyProof.SumWalkG
import PyProof.EnumMake
import PyProof.EnumFor
import PyProof.WalkInts
import PyProof.Rows.SortWalk
import PySem.Challenge.RW_nearorders_k71_numbers_by_rule
set_option Elab.async false
set_option linter.all false
set_option maxRecDepth 100000
set_option maxHeartbeats 4000000
/-! THE HAND LAYER, for ints, bools, texts, own classes, LISTS and tuples (index, slices, in, append, pop ..), calls, loops. Paste it whole ahead of your own text; what your proof does not reach may be deleted. -/
namespace L2
open PySem PySem.Spec PyProof.Rows

/-- a key: an int or a str -/
abbrev Key := Sum Int Str
def keyIs : Key → Value → Bool
  | .inl k, v => Value.isInt k v
  | .inr x, v => Value.isStrOf x v
def keyH (w : World) : Key → Int
  | .inl k => hashInt k
  | .inr x => hashStr w x
theorem keyIs_shape : ∀ {k : Key} {v : Value}, keyIs k v = true → (∃ i t, k = Sum.inl i ∧ v = Value.int i t) ∨ (∃ x t, k = Sum.inr x ∧ v = Value.str x t)
  | .inl i, v, h => by
    obtain ⟨t, e⟩ := Value.isInt_shape (k := i) (v := v) h
    exact .inl ⟨i, t, rfl, e⟩
  | .inr x, v, h => by
    obtain ⟨t, e⟩ := Value.isStrOf_shape (x := x) (v := v) h
    exact .inr ⟨x, t, rfl, e⟩
theorem key_ll (a b : Int) : decide ((Sum.inl a : Key) = Sum.inl b) = (a == b) := by
  by_cases e : a = b
  · subst e; simp
  · have h : ¬ (Sum.inl a : Key) = Sum.inl b := fun q => e (Sum.inl.inj q)
    rw [decide_eq_false h]
    exact (beq_eq_false_iff_ne.mpr e).symm
theorem key_rr (a b : Str) : decide ((Sum.inr a : Key) = Sum.inr b) = decide (a = b) := by
  by_cases e : a = b
  · subst e; simp
  · have h : ¬ (Sum.inr a : Key) = Sum.inr b := fun q => e (Sum.inr.inj q)
    rw [decide_eq_false h, decide_eq_false e]
theorem key_lr (a : Int) (b : Str) : decide ((Sum.inl a : Key) = Sum.inr b) = false := decide_eq_false (fun q => nomatch q)
theorem key_rl (a : Str) (b : Int) : decide ((Sum.inr a : Key) = Sum.inl b) = false := decide_eq_false (fun q => nomatch q)

def mixKind (prog : Program) (w : World) : PySem.KeyKind prog w Key where
  is := keyIs
  hash := keyH w
  inj := fun v a b ha hb => by
    rcases keyIs_shape ha with ⟨i, t, rfl, rfl⟩ | ⟨x, t, rfl, rfl⟩
    · rcases keyIs_shape hb with ⟨j, u, rfl, e⟩ | ⟨y, u, rfl, e⟩
      · injection e with e1 _; rw [e1]
      · exact nomatch e
    · rcases keyIs_shape hb with ⟨j, u, rfl, e⟩ | ⟨y, u, rfl, e⟩
      · exact nomatch e
      · injection e with e1 _; rw [e1]
  byValue := fun k v h => by
    rcases keyIs_shape h with ⟨i, t, rfl, rfl⟩ | ⟨x, t, rfl, rfl⟩ <;> rfl
  pyHash := fun hv h => by
    rcases keyIs_shape hv with ⟨i, t, rfl, rfl⟩ | ⟨x, t, rfl, rfl⟩
    · exact wpAny_pyHash_int h
    · exact wpAny_pyHash_str h
  eqBool := fun hu hv h => by
    rcases keyIs_shape hu with ⟨i, t, rfl, rfl⟩ | ⟨x, t, rfl, rfl⟩
    · rcases keyIs_shape hv with ⟨j, u, rfl, rfl⟩ | ⟨y, u, rfl, rfl⟩
      · rw [key_ll] at h; exact wpAny_eqBool_int h
      · rw [key_lr] at h; exact SeqAt.EqAt.int_str i t y u _ _ _ _ h
    · rcases keyIs_shape hv with ⟨j, u, rfl, rfl⟩ | ⟨y, u, rfl, rfl⟩
      · rw [key_rl] at h; exact SeqAt.EqAt.str_int x t j u _ _ _ _ h
      · rw [key_rr] at h; exact wpAny_eqBool_str h
  «strs» := fun k x t v h => by
    rcases keyIs_shape h with ⟨i, u, rfl, e⟩ | ⟨y, u, rfl, e⟩
    · exact nomatch e
    · injection e with e1 _
      subst e1
      cases v <;> rfl

end L2

namespace L2
open PySem PySem.Spec PyProof.Rows

/-- a value, without the heap -/
inductive V where
  | non | bl (b : Bool) | int (i : Int) | str (x : Str) | byt (b : Array UInt8) | flt (b : UInt64) | ref (a : Addr) | ty (n : String)
  deriving DecidableEq

def RelV : V → Value → Prop
  | .non, u => u = Value.none
  | .bl b, u => u = Value.bool b
  | .int i, u => ∃ t, u = Value.int i t
  | .str x, u => ∃ t, u = Value.str x t
  | .byt b, u => ∃ t, u = Value.bytes b t
  | .flt b, u => ∃ t, u = Value.float b t
  | .ref a, u => u = Value.ref a
  | .ty n, u => u = Value.type n

abbrev Vals : List V → List Value → Prop := Paired RelV
theorem Vals.length {xs : List V} {us : List Value} (r : Vals xs us) : xs.length = us.length := Paired.length r
theorem Vals.get : ∀ {xs : List V} {us : List Value} {i : Nat} {x : V}, Vals xs us → xs[i]? = some x → ∃ u, us[i]? = some u ∧ RelV x u
  | _, _, _, _, .nil, e => by simp at e
  | _, _, 0, _, .cons r _, e => by simp at e; subst e; exact ⟨_, rfl, r⟩
  | _, _, i + 1, x, .cons _ t, e => by
    obtain ⟨u, h1, h2⟩ := Vals.get (i := i) (x := x) t (by simpa using e)
    exact ⟨u, by simpa using h1, h2⟩
theorem Vals.set {x : V} {u : Value} (r : RelV x u) : ∀ {xs : List V} {us : List Value} (i : Nat), Vals xs us → Vals (xs.set i x) (us.set i u)
  | _, _, _, .nil => .nil
  | _, _, 0, .cons _ t => .cons r t
  | _, _, i + 1, .cons q t => .cons q (Vals.set r i t)
theorem Vals.append : ∀ {xs ys : List V} {us ws : List Value}, Vals xs us → Vals ys ws → Vals (xs ++ ys) (us ++ ws)
  | _, _, _, _, .nil, s => s
  | _, _, _, _, .cons r t, s => .cons r (Vals.append t s)
theorem Vals.take : ∀ {xs : List V} {us : List Value} (n : Nat), Vals xs us → Vals (xs.take n) (us.take n)
  | _, _, 0, _ => .nil
  | _, _, _ + 1, .nil => .nil
  | _, _, n + 1, .cons r t => .cons r (Vals.take n t)
theorem Vals.drop : ∀ {xs : List V} {us : List Value} (n : Nat), Vals xs us → Vals (xs.drop n) (us.drop n)
  | _, _, 0, r => r
  | _, _, _ + 1, .nil => .nil
  | _, _, n + 1, .cons _ t => Vals.drop n t
theorem Vals.none_of : ∀ {xs : List V} {us : List Value} {i : Nat}, Vals xs us → xs[i]? = none → us[i]? = none := fun {xs us i} r e => by
  have h1 := r.length
  have h2 : xs.length ≤ i := List.getElem?_eq_none_iff.mp e
  exact List.getElem?_eq_none_iff.mpr (by omega)

def RelO : Option V → Option Value → Prop
  | some v, some u => RelV v u
  | none, none => True
  | _, _ => False
def KV {κ : Type} : List (κ × V) → List (κ × Value) → Prop := Paired fun (p : κ × V) (q : κ × Value) => p.1 = q.1 ∧ RelV p.2 q.2

/-- a key of a dict (00_mix): an int or a text -/
def kV : Key → V
  | .inl i => .int i
  | .inr x => .str x

/-- what stands at a tracked address -/
inductive HO where
  /-- a list -/
  | lst (xs : List V)
  /-- a tuple (never changes) -/
  | tup (xs : List V)
  /-- a dict whose keys are ints and texts; one whose keys are tuples of ints and texts (the empty one is both) -/
  | dK (kvs : List (Key × V)) | dT (kvs : List (List Key × V))
  /-- a set of ints: its members, its size -/
  | set (S : Int → Bool) (n : Nat)
  /-- an instance of the class at C, its dict at dx, its attributes -/
  | ins (C dx : Addr) (fs : List (Str × V))
  /-- the dict of the instance at x -/
  | own (x : Addr)
  /-- the dict of an exception -/
  | xd (fs : List (Str × V))
  /-- a bound method, f of x -/
  | met (f x : Addr)
  /-- a range object lo, lo + 1, .. below hi -/
  | rng (lo hi : Int)
  /-- a thing that is known to the object (the script; a dict while a loop walks it): read, never written while it is so -/
  | frz (o : Obj) (u : HO)
  /-- a code object's table -/
  | tbl (ps : Array Value)
  /-- any other thing, by what is true of its one object (a def of one's own: SetO a S n := HO.ext fun h => ..) -/
  | ext (φ : Heap → Prop)

abbrev Hp := Addr → Option HO
def upd (H : Hp) (a : Addr) (o : HO) : Hp := fun b => if b = a then some o else H b
theorem upd_same {H : Hp} {a : Addr} {o : HO} : upd H a o a = some o := by unfold upd; rw [if_pos rfl]
theorem upd_ne {H : Hp} {a b : Addr} {o : HO} (h : b ≠ a) : upd H a o b = H b := by unfold upd; rw [if_neg h]
/-- two objects of different content stand apart -/
theorem ne_of {H : Hp} {a b : Addr} {o u : HO} (h : H a = some o) (h' : H b = some u) (d : o ≠ u) : a ≠ b := by
  intro e; subst e; rw [h] at h'; exact d (Option.some.inj h')
theorem ne_of_none {H : Hp} {a b : Addr} {o : HO} (h : H a = some o) (h' : H b = none) : a ≠ b := by
  intro e; subst e; rw [h] at h'; cases h'

/-- a tuple without a dict -/
def IsTupX (h : Heap) (a : Addr) (items : Array Value) : Prop := ∃ o, h.get? a = some o ∧ o.cls = .type "tuple" ∧ o.dict = none ∧ ∃ n, o.data = .seq items n
theorem IsTupX.tup {h : Heap} {a : Addr} {items : Array Value} (x : IsTupX h a items) : IsTup h a items := let ⟨o, e, c, _, d⟩ := x; ⟨o, e, c, d⟩
theorem IsTupX.lt {h : Heap} {a : Addr} {items : Array Value} (x : IsTupX h a items) : a < h.objs.size := let ⟨_, e, _⟩ := x; Heap.lt_size e
theorem IsTupX.new (h : Heap) (items : Array Value) : IsTupX (h.push { cls := .type "tuple", data := .seq items }) h.objs.size items := ⟨_, Heap.get?_push_size _ rfl, rfl, rfl, _, rfl⟩

section
variable (P : Program) (w : World)
def ObjOk (H : Hp) (h : Heap) (a : Addr) : HO → Prop
  | .lst xs => xs.length ≤ sizeLine ∧ ∃ (its : List Value) (n : Nat), Vals xs its ∧ h.get? a = some { cls := .type "list", data := .seq its.toArray n }
  | .tup xs => xs.length ≤ sizeLine ∧ ∃ its : List Value, Vals xs its ∧ IsTupX h a its.toArray
  | .dK kvs => kvs.length ≤ sizeLine ∧ (a == sysModules) = false ∧ ∃ vs, KV kvs vs ∧ h.DictOf (mixKind P w) a vs
  | .dT kvs => kvs.length ≤ sizeLine ∧ (a == sysModules) = false ∧ ∃ xs : List (List Key × Addr × Value),
      Paired (fun (p : List Key × V) (q : List Key × Addr × Value) => p.1 = q.1 ∧ H q.2.1 = some (.tup (p.1.map kV)) ∧ RelV p.2 q.2.2) kvs xs ∧
      ∃ o es ep, h.get? a = some o ∧ o.ExactDict ∧ o.data = .dict es ep ∧ es.toList = xs.map (entryOfKey (tupleKind (mixKind P w))) ∧ (xs.map (·.1)).Nodup
  | .set S n => h.SetOf (intKind P w) a S n
  | .ins C dx fs => H dx = some (.own a) ∧ fs.length ≤ 1000 ∧ dx ≠ a ∧ h.get? a = some (PySem.W.instObj C dx) ∧
      ∃ mA, h.Ns1 dx mA ∧ (∀ f, RelO (fs.lookup f) (mA f)) ∧ PySem.Within mA (fs.map (·.1))
  | .own _ => ∃ o, h.get? a = some o
  | .xd fs => ∃ mA, h.Ns1 a mA ∧ ∀ f, RelO (fs.lookup f) (mA f)
  | .rng lo hi => ∃ t u v, h.get? a = some { cls := .type "range", data := .fields #[.int lo t, .int hi u, .int 1 v] }
  | .frz o u => h.get? a = some o ∧ ObjOk H h a u
  | .tbl ps => h.get? a = some { cls := .none, data := .fields ps }
  | .met f x => h.get? a = some (PySem.W.methodObj (.ref f) (.ref x))
  | .ext φ => φ h ∧ (∃ o, h.get? a = some o) ∧ ∀ h1 h2 : Heap, φ h1 → (∀ o, h1.get? a = some o → h2.get? a = some o) → φ h2
/-- the abstract heap is held -/
def HOk (H : Hp) (h : Heap) : Prop := ∀ a o, H a = some o → ObjOk P w H h a o
end

section
variable {P : Program} {w : World} {H H' : Hp} {h h' : Heap} {a : Addr} {o : HO}
theorem ObjOk.lt (x : ObjOk P w H h a o) : a < h.objs.size := by
  cases o with
  | lst xs => obtain ⟨_, _, _, _, e⟩ := x; exact Heap.lt_size e
  | tup xs => obtain ⟨_, _, _, p⟩ := x; exact p.lt
  | dK kvs => obtain ⟨_, _, _, _, o, _, _, e, _⟩ := x; exact Heap.lt_size e
  | dT kvs => obtain ⟨_, _, _, _, o, _, _, e, _⟩ := x; exact Heap.lt_size e
  | set S n => obtain ⟨o, _, _, _, e, _⟩ := x; exact Heap.lt_size e
  | ins C dx fs => obtain ⟨_, _, _, e, _⟩ := x; exact Heap.lt_size e
  | own y => obtain ⟨_, e⟩ := x; exact Heap.lt_size e
  | xd fs => obtain ⟨_, ⟨_, _, _, e, _⟩, _⟩ := x; exact Heap.lt_size e
  | rng lo hi => obtain ⟨_, _, _, e⟩ := x; exact Heap.lt_size e
  | frz ob u => obtain ⟨e, _⟩ := x; exact Heap.lt_size e
  | tbl ps => exact Heap.lt_size (show h.get? a = some _ from x)
  | met f y => exact Heap.lt_size (show h.get? a = some _ from x)
  | ext φ => obtain ⟨_, ⟨_, e⟩, _⟩ := x; exact Heap.lt_size e
theorem Paired.mapP {α β : Type} {F G : α → β → Prop} : ∀ {l₁ : List α} {l₂ : List β}, Paired F l₁ l₂ → (∀ a b, F a b → G a b) → Paired G l₁ l₂
  | _, _, .nil, _ => .nil
  | _, _, .cons r t, f => .cons (f _ _ r) (Paired.mapP t f)
/-- what an object's description leans on: its own object, its own dict, the tuples -/
theorem ObjOk.stay (x : ObjOk P w H h a o) (k : ∀ b u, (b = a ∨ H b = some (.own a)) → h.get? b = some u → h'.get? b = some u)
    (ho : ∀ b, H b = some (.own a) → H' b = some (.own a)) (ht : ∀ b xs, H b = some (.tup xs) → H' b = some (.tup xs)) : ObjOk P w H' h' a o := by
  induction o with
  | lst xs => obtain ⟨z, its, n, r, e⟩ := x; exact ⟨z, its, n, r, k _ _ (.inl rfl) e⟩
  | tup xs => obtain ⟨z, its, r, ob, e, c⟩ := x; exact ⟨z, its, r, ob, k _ _ (.inl rfl) e, c⟩
  | dK kvs => obtain ⟨z, y, vs, r, ob, es, ep, e, c⟩ := x; exact ⟨z, y, vs, r, ob, es, ep, k _ _ (.inl rfl) e, c⟩
  | dT kvs =>
    obtain ⟨z, y, xs, r, ob, es, ep, e, c⟩ := x
    exact ⟨z, y, xs, Paired.mapP r fun p q z => ⟨z.1, ht _ _ z.2.1, z.2.2⟩, ob, es, ep, k _ _ (.inl rfl) e, c⟩
  | set S n => obtain ⟨ob, es, ep, t, e, c⟩ := x; exact ⟨ob, es, ep, t, k _ _ (.inl rfl) e, c⟩
  | ins C dx fs =>
    obtain ⟨d, z, ne, e, mA, ⟨od, es, ep, e2, c⟩, r⟩ := x
    exact ⟨ho _ d, z, ne, k _ _ (.inl rfl) e, mA, ⟨od, es, ep, k _ _ (.inr d) e2, c⟩, r⟩
  | own y => obtain ⟨ob, e⟩ := x; exact ⟨ob, k _ _ (.inl rfl) e⟩
  | xd fs => obtain ⟨mA, ⟨od, es, ep, e, c⟩, r⟩ := x; exact ⟨mA, ⟨od, es, ep, k _ _ (.inl rfl) e, c⟩, r⟩
  | rng lo hi => obtain ⟨t, u, v, e⟩ := x; exact ⟨t, u, v, k _ _ (.inl rfl) e⟩
  | frz ob u ih => obtain ⟨e, q⟩ := x; exact ⟨k _ _ (.inl rfl) e, ih q⟩
  | tbl ps =>
    have e : h.get? a = some { cls := .none, data := .fields ps } := x
    show h'.get? a = some { cls := .none, data := .fields ps }
    exact k a _ (.inl rfl) e
  | met f y =>
    have e : h.get? a = some (PySem.W.methodObj (.ref f) (.ref y)) := x
    show h'.get? a = some (PySem.W.methodObj (.ref f) (.ref y))
    exact k a _ (.inl rfl) e
  | ext φ => obtain ⟨p, ⟨o, e⟩, st⟩ := x; exact ⟨st _ _ p fun o q => k _ _ (.inl rfl) q, ⟨o, k _ _ (.inl rfl) e⟩, st⟩
theorem HOk.lt (x : HOk P w H h) (e : H a = some o) : a < h.objs.size := (x a o e).lt
theorem HOk.fresh (x : HOk P w H h) (e : h.objs.size ≤ a) : H a = none := by
  cases q : H a with
  | none => rfl
  | some u => exact absurd (Nat.lt_of_lt_of_le (x.lt q) e) (Nat.lt_irrefl _)
/-- every object of the heap is kept -/
theorem HOk.kept (x : HOk P w H h) (k : ∀ b u, h.get? b = some u → h'.get? b = some u) : HOk P w H h' := fun a o e =>
  (x a o e).stay (fun b u _ q => k b u q) (fun _ q => q) fun _ _ q => q
/-- a new object is laid and tracked -/
theorem HOk.laid (x : HOk P w H h) (k : ∀ b u, h.get? b = some u → h'.get? b = some u) (hp : h.objs.size ≤ a) (new : ObjOk P w (upd H a o) h' a o) : HOk P w (upd H a o) h' := fun b u e => by
  have hn := x.fresh hp
  by_cases hb : b = a
  · subst hb; rw [upd_same] at e; cases e; exact new
  · rw [upd_ne hb] at e
    exact (x b u e).stay (fun c v _ q => k c v q) (fun c q => by rw [upd_ne (ne_of_none q hn)]; exact q) fun c xs q => by rw [upd_ne (ne_of_none q hn)]; exact q
end

/-- what may be read as u: it is u, or a known u -/
def Rd (H : Hp) (a : Addr) (u : HO) : Prop := H a = some u ∨ ∃ o, H a = some (.frz o u)
theorem Rd.of {H : Hp} {a : Addr} {u : HO} (h : H a = some u) : Rd H a u := .inl h
theorem Rd.ok {P : Program} {w : World} {H : Hp} {h : Heap} {a : Addr} {u : HO} (r : Rd H a u) (x : HOk P w H h) : ObjOk P w H h a u := by
  rcases r with r | ⟨o, r⟩
  · exact x a u r
  · obtain ⟨_, q⟩ := x a _ r
    exact q
/-- what may be written -/
def Mut : Option HO → Prop
  | some (.lst _) => True
  | some (.dK _) => True
  | some (.dT _) => True
  | some (.set _ _) => True
  | some (.ins _ _ _) => True
  | some (.ext _) => True
  | _ => False
section
variable {P : Program} {w : World} {H : Hp} {h h' : Heap} {x e : Addr} {o' : HO}
/-- the object at e is changed: x itself, or the dict of the instance x -/
theorem HOk.write (ok : HOk P w H h) (mu : Mut (H x)) (he : e = x ∨ H e = some (.own x)) (k : ∀ b u, b ≠ e → h.get? b = some u → h'.get? b = some u) (heo : ∃ u, h'.get? e = some u)
    (new : ObjOk P w (upd H x o') h' x o') : HOk P w (upd H x o') h' := fun b u q => by
  have nown : ∀ c y, H c = some (.own y) → c ≠ x := fun c y r z => by subst z; rw [r] at mu; exact mu
  have ntup : ∀ c xs, H c = some (.tup xs) → c ≠ x := fun c xs r z => by subst z; rw [r] at mu; exact mu
  by_cases hb : b = x
  · subst hb; rw [upd_same] at q; cases q; exact new
  · rw [upd_ne hb] at q
    by_cases hbe : b = e
    · have q' : H b = some (.own x) := by
        rcases he with z | z
        · exact absurd (hbe.trans z) hb
        · rw [hbe]; exact z
      rw [q] at q'; cases q'
      obtain ⟨v, hv⟩ := heo
      exact ⟨v, by rw [hbe]; exact hv⟩
    · refine (ok b u q).stay (fun c v hc r => k c v ?_ r) (fun c r => by rw [upd_ne (nown c b r)]; exact r) fun c xs r => by rw [upd_ne (ntup c xs r)]; exact r
      rcases hc with rfl | hc
      · exact hbe
      · rintro rfl
        rcases he with z | z
        · exact nown c b hc z
        · rw [hc] at z; cases z; exact hb rfl
end

/-! ### kept unless tracked; of the frames at fs (the callers') the slots may change (an exception that passes writes there); of the records at ex (iterators) nothing is said -/
structure Un (fs ex : List Addr) (H H' : Hp) (h h' : Heap) : Prop where
  keep : ∀ b o, h.get? b = some o → H b = none → b ∉ fs → b ∉ ex → h'.get? b = some o
  slot : ∀ b o, h.get? b = some o → H b = none → b ∈ fs → b ∉ ex → ∃ sl, h'.get? b = some { o with slots := sl }
  free : ∀ b o, h.get? b = some o → H b = none → b ∉ ex → H' b = none
  there : ∀ b o, h.get? b = some o → b ∉ ex → ∃ o', h'.get? b = some o'
  tups : ∀ b xs, H b = some (.tup xs) → H' b = some (.tup xs)
  frzs : ∀ b o u, H b = some (.frz o u) → H' b = some (.frz o u)
  tbls : ∀ b ps, H b = some (.tbl ps) → ∃ more, H' b = some (.tbl (ps ++ more))
section
variable {fs fs' ex ex' : List Addr} {H H1 H2 : Hp} {h h1 h2 h' : Heap} {a x e : Addr} {o : HO}
theorem Un.any (u : Un fs ex H H1 h h1) {b : Addr} {ob : Obj} (q : h.get? b = some ob) (n : H b = none) (hx : b ∉ ex) : ∃ sl, h1.get? b = some { ob with slots := sl } := by
  by_cases hb : b ∈ fs
  · exact u.slot b ob q n hb hx
  · exact ⟨ob.slots, u.keep b ob q n hb hx⟩
theorem Un.trans (a : Un fs ex H H1 h h1) (b : Un fs ex H1 H2 h1 h2) : Un fs ex H H2 h h2 where
  keep := fun c ob q n hc hx => b.keep c ob (a.keep c ob q n hc hx) (a.free c ob q n hx) hc hx
  slot := fun c ob q n hc hx => by
    obtain ⟨sl, e1⟩ := a.slot c ob q n hc hx
    obtain ⟨sl', e2⟩ := b.slot c _ e1 (a.free c ob q n hx) hc hx
    exact ⟨sl', e2⟩
  free := fun c ob q n hx => by
    obtain ⟨o', e1⟩ := a.there c ob q hx
    exact b.free c o' e1 (a.free c ob q n hx) hx
  there := fun c ob q hx => by
    obtain ⟨o', e1⟩ := a.there c ob q hx
    exact b.there c o' e1 hx
  tups := fun c xs q => b.tups c xs (a.tups c xs q)
  frzs := fun c ob xs q => b.frzs c ob xs (a.frzs c ob xs q)
  tbls := fun c ps q => by
    obtain ⟨m1, e1⟩ := a.tbls c ps q
    obtain ⟨m2, e2⟩ := b.tbls c _ e1
    exact ⟨m1 ++ m2, by rw [e2, Array.append_assoc]⟩
theorem Un.kept (k : ∀ b u, h.get? b = some u → h'.get? b = some u) : Un fs ex H H h h' :=
  ⟨fun b ob q _ _ _ => k b ob q, fun b ob q _ _ _ => ⟨ob.slots, k b ob q⟩, fun _ _ _ n _ => n, fun b ob q _ => ⟨ob, k b ob q⟩, fun _ _ q => q, fun _ _ _ q => q, fun _ ps q => ⟨#[], by rw [q]; simp⟩⟩
theorem Un.refl : Un fs ex H H h h := Un.kept fun _ _ q => q
theorem Un.laid (k : ∀ b u, h.get? b = some u → h'.get? b = some u) (hp : h.objs.size ≤ a) (hn : H a = none) : Un fs ex H (upd H a o) h h' where
  keep := fun b u q _ _ _ => k b u q
  slot := fun b u q _ _ _ => ⟨u.slots, k b u q⟩
  free := fun b u q n _ => by rw [upd_ne (Nat.ne_of_lt (Nat.lt_of_lt_of_le (Heap.lt_size q) hp))]; exact n
  there := fun b u q _ => ⟨u, k b u q⟩
  tups := fun b xs q => by rw [upd_ne (ne_of_none q hn)]; exact q
  frzs := fun b u xs q => by rw [upd_ne (ne_of_none q hn)]; exact q
  tbls := fun b ps q => ⟨#[], by rw [upd_ne (ne_of_none q hn), q]; simp⟩
theorem Un.write (mu : Mut (H x)) (he : e = x ∨ H e = some (.own x)) (k : ∀ b u, b ≠ e → h.get? b = some u → h'.get? b = some u) (heo : ∃ u, h'.get? e = some u) : Un fs ex H (upd H x o) h h' := by
  have hx : ∀ b, H b = none → b ≠ x := fun b n z => by subst z; rw [n] at mu; exact mu
  have hb : ∀ b, H b = none → b ≠ e := fun b n z => by
    subst z
    rcases he with r | r
    · exact hx b n r
    · rw [n] at r; cases r
  have hm : ∀ b u, H b = some u → ¬ Mut (some u) → b ≠ x := fun b u q nm z => by subst z; rw [q] at mu; exact nm mu
  refine ⟨fun b u q n _ _ => k b u (hb b n) q, fun b u q n _ _ => ⟨u.slots, k b u (hb b n) q⟩, fun b u q n _ => by rw [upd_ne (hx b n)]; exact n, fun b u q _ => ?_,
    fun b xs q => by rw [upd_ne (hm b _ q fun z => z)]; exact q, fun b u xs q => by rw [upd_ne (hm b _ q fun z => z)]; exact q, fun b ps q => ⟨#[], by rw [upd_ne (hm b _ q fun z => z), q]; simp⟩⟩
  by_cases hbe : b = e
  · subst hbe; exact heo
  · exact ⟨u, k b u hbe q⟩
theorem Un.mono (u : Un fs ex H H1 h h1) (hs : ∀ b ∈ fs, b ∈ fs') (hx : ∀ b ∈ ex, b ∈ ex') : Un fs' ex' H H1 h h1 :=
  ⟨fun b ob q n hb he => u.keep b ob q n (fun z => hb (hs b z)) fun z => he (hx b z), fun _ _ q n _ he => u.any q n fun z => he (hx _ z), fun b ob q n he => u.free b ob q n fun z => he (hx b z), fun b ob q he => u.there b ob q fun z => he (hx b z), u.tups, u.frzs, u.tbls⟩
end

/-! ### the heap without what is tracked -/
def trk (h : Heap) (H : Hp) : List Addr := (List.range h.objs.size).filter fun a => (H a).isSome
def hidT (h : Heap) (H : Hp) : Heap := PySem.W.hideAll h (trk h H)
theorem hidT_size (h : Heap) (H : Hp) : (hidT h H).objs.size = h.objs.size := PySem.W.hideAll_size _ _
theorem hidT_get {h : Heap} {H : Hp} {b : Addr} {o : Obj} (e : h.get? b = some o) (n : H b = none) : (hidT h H).get? b = some o :=
  PySem.W.hideAll_get _ e fun hm => by
    have q : (H b).isSome = true := (List.mem_filter.mp hm).2
    rw [n] at q; simp at q
theorem of_hidT {h : Heap} {H : Hp} {b : Addr} {o : Obj} (e : (hidT h H).get? b = some o) : h.get? b = some o ∧ H b = none := by
  have e' : h.get? b = some o := PySem.W.of_hideAll (trk h H) e
  refine ⟨e', ?_⟩
  cases q : H b with
  | none => rfl
  | some x =>
    have hm : b ∈ trk h H := List.mem_filter.mpr ⟨List.mem_range.mpr (Heap.lt_size e'), by simp [q]⟩
    have z : (hidT h H).get? b = none := PySem.W.hideAll_none (trk h H) hm
    rw [z] at e; cases e

/-! ### OpenK's ledger, filled with every new object but one -/
def allNews (g h : Heap) (L : Addr) : List (Addr × Obj) := (List.range h.objs.size).filterMap fun a => if a = L ∨ (g.get? a).isSome = true then none else (h.get? a).map fun o => (a, o)
def rest (g h : Heap) (L d : Addr) : List (Addr × Obj) := (allNews g h L).filter fun p => decide (p.1 ≠ d)
end L2

namespace L2
open PySem PySem.Spec PyProof.Rows

/-- the module's facts, over the base: the heap at the law's entry without what is tracked there -/
structure Mod (K : PySem.W.Frag) (mg : Str → Option Value) (base : Heap) : Prop where
  kin : K.In base
  glob : base.Ns mainGlobals mg
  blt : ∃ mb, base.Ns builtinsNs mb ∧ ∀ x : Str, x ≠ "__name__" → mb x = bootBuiltins x
  nolimit : base.NoLimit

/-- the context: a def's body (or a comprehension's block) running. base: fixed through the whole law; s₀, H₀: the entry; outer: the frames whose slots others may change (a def's callers); stack: all frames that run;
   ex: iterators that were made ahead of the entry and are walked here (a comprehension's); fn: the names whose cells were made at the entry (a def: all; a comprehension's block: its own); calm: not within an except suite; pn: pins that every state bears; xe: what is wanted of an exception that leaves the code -/
structure Cx where
  prog : Program
  w : World
  K : PySem.W.Frag
  mg : Str → Option Value
  base : Heap
  A : Around
  N : List Str
  s₀ : Shared
  H₀ : Hp
  env : Env
  outer : List Env
  stack : List Env
  ex : List Addr
  fn : Str → Bool
  calm : Bool
  pn : List (Addr × Obj)
  xe : Value → Shared → Prop
/-- the callers' frames -/
def frs (l : List Env) : List Addr := l.filterMap (·.frame)
abbrev Cx.fs (X : Cx) : List Addr := frs X.outer

def Vis (sc : Scope) (x : Str) : Prop := sc.names.lookup x = some .local ∨ sc.names.lookup x = some .cell ∨ sc.names.lookup x = some .free
def Loc (sc : Scope) (x : Str) : Prop := sc.names.lookup x = some .local ∨ sc.names.lookup x = some .cell
def Look (env : Env) (h : Heap) (m : Str → Option Value) (x : Str) (u : Value) : Prop :=
  (env.kindOf x = some .local ∧ m x = some u) ∨ ((env.kindOf x = some .cell ∨ env.kindOf x = some .free) ∧ ∃ c, env.cells.lookup x = some c ∧ h.IsCell c (some u))

structure Cx.Ok (X : Cx) : Prop where
  mod : Mod X.K X.mg X.base
  kind : X.env.scope.kind = .function
  glob : X.env.globals = mainGlobals
  blt : X.env.builtins = builtinsNs
  above : X.s₀.heap.objs.size ≤ X.env.locals
  inj : ∀ x y c, X.env.cells.lookup x = some c → X.env.cells.lookup y = some c → x = y
  has : ∀ x, (X.env.kindOf x = some .cell ∨ X.env.kindOf x = some .free) → ∃ c, X.env.cells.lookup x = some c
  cab : ∀ x c, X.fn x = true → X.env.cells.lookup x = some c → X.s₀.heap.objs.size ≤ c
  hd : X.calm = true → X.A.handled = none
  frames : X.A.frames = some X.stack
  stk : X.stack = X.outer ∨ (X.stack = X.env :: X.outer ∧ X.env.frame = some X.env.locals)
  exf : ∀ b ∈ X.ex, b ≠ X.env.locals ∧ ∀ x c, X.env.cells.lookup x = some c → c ≠ b
  bs : ∀ b o, X.base.get? b = some o → X.s₀.heap.get? b = some o ∧ X.H₀ b = none
  bsz : X.base.objs.size ≤ X.s₀.heap.objs.size
  noex : ∀ b o, X.base.get? b = some o → b ∉ X.ex
  exfs : ∀ b ∈ X.ex, b ∉ X.fs
  funs : X.s₀.heap.FunFrames X.base X.outer
  frf : ∀ b ∈ X.fs, X.H₀ b = none

structure Inv (X : Cx) (pins : List (Addr × Obj)) (σ : List (Option V)) (H : Hp) (s : Shared) : Prop where
  ok : X.Ok
  os : s.os = X.s₀.os
  bare : AllBare s.gens
  base : Un X.fs X.ex X.H₀ H X.s₀.heap s.heap
  loc : ∃ m, s.heap.Ns X.env.locals m ∧ ∀ (i : Nat) (x : Str) (v : V), X.N[i]? = some x → σ[i]? = some (some v) → Vis X.env.scope x → ∃ u, RelV v u ∧ Look X.env s.heap m x u
  cell : ∀ x c, X.env.cells.lookup x = some c → ∃ v, s.heap.IsCell c v
  free : H X.env.locals = none
  freeC : ∀ x c, X.env.cells.lookup x = some c → H c = none
  pin : ∀ p ∈ X.pn ++ pins, s.heap.get? p.1 = some p.2 ∧ H p.1 = none ∧ p.1 ≠ X.env.locals ∧ p.1 ∉ X.fs ∧ ∀ v, p.2.data ≠ .cell v
  hok : HOk X.prog X.w H s.heap
  len : σ.length = X.N.length

section
variable {X : Cx} {pins : List (Addr × Obj)} {σ : List (Option V)} {H H' : Hp} {s : Shared} {h' : Heap}

theorem Cx.Ok.nofr (ok : X.Ok) {b : Addr} {o : Obj} (e : X.base.get? b = some o) : b ∉ X.fs := fun hb => by
  have := (ok.funs.mem hb).1
  rw [e] at this; cases this
theorem Inv.bs (I : Inv X pins σ H s) : ∀ b o, X.base.get? b = some o → s.heap.get? b = some o ∧ H b = none := fun b o e =>
  ⟨I.base.keep b o (I.ok.bs b o e).1 (I.ok.bs b o e).2 (I.ok.nofr e) (I.ok.noex b o e), I.base.free b o (I.ok.bs b o e).1 (I.ok.bs b o e).2 (I.ok.noex b o e)⟩
theorem Inv.bk (I : Inv X pins σ H s) : ∀ b o, X.base.get? b = some o → s.heap.get? b = some o := fun b o e => (I.bs b o e).1
theorem Inv.mod (I : Inv X pins σ H s) : Mod X.K X.mg X.base := I.ok.mod
theorem Inv.kIn (I : Inv X pins σ H s) : X.K.In s.heap := I.ok.mod.kin.keeps I.bk
theorem Inv.nolimit (I : Inv X pins σ H s) : s.heap.NoLimit := I.ok.mod.nolimit.keeps I.bk
/-- the frame over the base: for OpenK's rules (K.In X.base is I.mod.kin) -/
theorem Inv.fr (I : Inv X pins σ H s) : ∃ m, Fr X.base X.env.locals s.heap m :=
  let ⟨m, hn, _⟩ := I.loc
  ⟨m, hn, I.bk, Nat.le_trans I.ok.bsz I.ok.above⟩
theorem Inv.lt (I : Inv X pins σ H s) : X.env.locals < s.heap.objs.size := let ⟨_, hn, _⟩ := I.loc; hn.lt
theorem Inv.sz (I : Inv X pins σ H s) : X.s₀.heap.objs.size ≤ s.heap.objs.size := Nat.le_trans I.ok.above (Nat.le_of_lt I.lt)
theorem Inv.nofs (I : Inv X pins σ H s) {a : Addr} (h : s.heap.objs.size ≤ a) : a ∉ X.fs := fun hb => by
  obtain ⟨_, o, ho, _⟩ := I.ok.funs.mem hb
  exact absurd (Nat.lt_of_lt_of_le (Heap.lt_size ho) (Nat.le_trans I.sz h)) (Nat.lt_irrefl _)
theorem Inv.cne (I : Inv X pins σ H s) : ∀ x c, X.env.cells.lookup x = some c → c ≠ X.env.locals := fun x c e z => by
  obtain ⟨v, o, ho, hd⟩ := I.cell x c e
  obtain ⟨m, ⟨o', es, ep, ho', hd', _⟩, _⟩ := I.loc
  rw [z, ho'] at ho; cases ho; rw [hd'] at hd; cases hd
theorem Inv.funs (I : Inv X pins σ H s) : s.heap.FunFrames X.base X.outer := by
  have all : ∀ (l : List Env), (∀ b ∈ frs l, b ∈ X.fs) → X.s₀.heap.FunFrames X.base l → s.heap.FunFrames X.base l := by
    intro l
    induction l with
    | nil => intro _ _; trivial
    | cons env r ih =>
      intro hs hl
      obtain ⟨hk, ⟨L, o, hf, hn, ho, hd⟩, hr⟩ := hl
      have hL : L ∈ X.fs := hs L (by unfold frs; rw [List.filterMap_cons, hf]; exact List.mem_cons_self)
      obtain ⟨sl, e⟩ := I.base.slot L o ho (I.ok.frf L hL) hL fun z => I.ok.exfs L z hL
      exact ⟨hk, ⟨L, _, hf, hn, e, hd⟩, ih (fun b hb => hs b (by unfold frs; rw [List.filterMap_cons, hf]; exact List.mem_cons_of_mem _ hb)) hr⟩
  exact all X.outer (fun _ hb => hb) I.ok.funs

/-- the frames that run, for a call -/
theorem Inv.stack (I : Inv X pins σ H s) : s.heap.FunFrames X.base X.stack := by
  rcases I.ok.stk with e | ⟨e, hf⟩
  · rw [e]; exact I.funs
  · rw [e]
    obtain ⟨m, hn, _⟩ := I.loc
    refine .cons (by rw [I.ok.kind]; decide) hf hn ?_ I.funs
    exact Heap.get?_none_of_le (Nat.le_trans I.ok.bsz I.ok.above)
theorem Inv.stkSub (I : Inv X pins σ H s) : ∀ b ∈ frs X.stack, b ∈ X.env.locals :: X.fs := fun b hb => by
  rcases I.ok.stk with e | ⟨e, hf⟩
  · rw [e] at hb; exact List.mem_cons_of_mem _ hb
  · rw [e] at hb
    unfold frs at hb
    rw [List.filterMap_cons, hf] at hb
    exact hb
theorem Inv.stkFree (I : Inv X pins σ H s) : ∀ b ∈ frs X.stack, H b = none := fun b hb => by
  rcases List.mem_cons.mp (I.stkSub b hb) with e | hb
  · rw [e]; exact I.free
  · obtain ⟨_, o, ho, _⟩ := I.ok.funs.mem hb
    exact I.base.free b o ho (I.ok.frf b hb) fun z => I.ok.exfs b z hb

/-- THE STEP: the untracked objects but the frame and the records at ch are kept (the callers' frames up to slots), the frame's map is kept, the new abstract heap is held -/
theorem Inv.step {g' : Array GenState} {t' : Nat} {d' : Drawn} {ch : List Addr} (I : Inv X pins σ H s)
    (hch : ∀ b ∈ ch, (b ∈ X.ex ∨ X.s₀.heap.objs.size ≤ b) ∧ b ≠ X.env.locals ∧ (∀ x c, X.env.cells.lookup x = some c → c ≠ b) ∧ ∀ p ∈ X.pn ++ pins, p.1 ≠ b)
    (keep : ∀ b o, b ≠ X.env.locals → b ∉ X.fs → b ∉ ch → s.heap.get? b = some o → H b = none → h'.get? b = some o)
    (slot : ∀ b o, b ≠ X.env.locals → b ∈ X.fs → b ∉ ch → s.heap.get? b = some o → H b = none → ∃ sl, h'.get? b = some { o with slots := sl }) (free : ∀ b o, b ∉ ch → s.heap.get? b = some o → H b = none → H' b = none)
    (there : ∀ b o, b ∉ ch → s.heap.get? b = some o → ∃ o', h'.get? b = some o')
    (tups : ∀ b xs, H b = some (.tup xs) → H' b = some (.tup xs)) (frzs : ∀ b o u, H b = some (.frz o u) → H' b = some (.frz o u)) (tbls : ∀ b ps, H b = some (.tbl ps) → ∃ more, H' b = some (.tbl (ps ++ more)))
    (ns : ∀ m, s.heap.Ns X.env.locals m → h'.Ns X.env.locals m) (hok : HOk X.prog X.w H' h') (hg : AllBare g') :
    Inv X pins σ H' { s with heap := h', gens := g', drawn := d', toks := t' } := by
  have neL : ∀ b o, X.s₀.heap.get? b = some o → b ≠ X.env.locals := fun b o e => Nat.ne_of_lt (Nat.lt_of_lt_of_le (Heap.lt_size e) I.ok.above)
  have neC : ∀ b o, X.s₀.heap.get? b = some o → b ∉ X.ex → b ∉ ch := fun b o e hx hb => by
    rcases (hch b hb).1 with z | z
    · exact hx z
    · exact absurd (Nat.lt_of_lt_of_le (Heap.lt_size e) z) (Nat.lt_irrefl _)
  have cellK : ∀ x c, X.env.cells.lookup x = some c → ∀ v, s.heap.IsCell c v → h'.IsCell c v := fun x c e v ⟨o, ho, hd⟩ => by
    have nch : c ∉ ch := fun z => (hch c z).2.2.1 x c e rfl
    by_cases hc : c ∈ X.fs
    · obtain ⟨sl, q⟩ := slot c o (I.cne x c e) hc nch ho (I.freeC x c e)
      exact ⟨_, q, hd⟩
    · exact ⟨o, keep c o (I.cne x c e) hc nch ho (I.freeC x c e), hd⟩
  refine ⟨I.ok, I.os, hg, ⟨fun b o e n hb hx => ?_, fun b o e n hb hx => ?_, fun b o e n hx => ?_, fun b o e hx => ?_, fun b xs e => tups b xs (I.base.tups b xs e), fun b o xs e => frzs b o xs (I.base.frzs b o xs e), fun b ps e => ?_⟩, ?_, fun x c e => ?_, ?_, fun x c e => ?_, fun p hp => ?_, hok, I.len⟩
  · exact keep b o (neL b o e) hb (neC b o e hx) (I.base.keep b o e n hb hx) (I.base.free b o e n hx)
  · obtain ⟨sl, e1⟩ := I.base.slot b o e n hb hx
    obtain ⟨sl', e2⟩ := slot b _ (neL b o e) hb (neC b o e hx) e1 (I.base.free b o e n hx)
    exact ⟨sl', e2⟩
  · obtain ⟨o', e1⟩ := I.base.there b o e hx
    exact free b o' (neC b o e hx) e1 (I.base.free b o e n hx)
  · obtain ⟨o', e1⟩ := I.base.there b o e hx
    exact there b o' (neC b o e hx) e1
  · obtain ⟨m1, e1⟩ := I.base.tbls b ps e
    obtain ⟨m2, e2⟩ := tbls b _ e1
    exact ⟨m1 ++ m2, by rw [e2, Array.append_assoc]⟩
  · obtain ⟨m, hn, hl⟩ := I.loc
    refine ⟨m, ns m hn, fun i x v e1 e2 e3 => ?_⟩
    obtain ⟨u, r, l⟩ := hl i x v e1 e2 e3
    refine ⟨u, r, ?_⟩
    rcases l with l | ⟨k, c, e, z⟩
    · exact .inl l
    · exact .inr ⟨k, c, e, cellK x c e _ z⟩
  · obtain ⟨v, z⟩ := I.cell x c e
    exact ⟨v, cellK x c e v z⟩
  · obtain ⟨m, ⟨o, _, _, ho, _⟩, _⟩ := I.loc
    exact free _ o (fun z => (hch _ z).2.1 rfl) ho I.free
  · obtain ⟨v, o, ho, hd⟩ := I.cell x c e
    exact free c o (fun z => (hch c z).2.2.1 x c e rfl) ho (I.freeC x c e)
  · obtain ⟨e, n, ne, nf, d⟩ := I.pin p hp
    have nch : p.1 ∉ ch := fun z => (hch p.1 z).2.2.2 p hp rfl
    exact ⟨keep p.1 p.2 ne nf nch e n, free p.1 p.2 nch e n, ne, nf, d⟩
/-- .. where the frame's own object is kept too -/
theorem Inv.un {t' : Nat} (I : Inv X pins σ H s) (u : Un X.fs [] H H' s.heap h') (hok : HOk X.prog X.w H' h') : Inv X pins σ H' { s with heap := h', toks := t' } := by
  obtain ⟨m, ⟨o, es, ep, ho, r⟩, _⟩ := id I.loc
  obtain ⟨sl, hL⟩ := u.any ho I.free (by simp)
  exact I.step (g' := s.gens) (d' := s.drawn) (ch := []) (fun _ z => nomatch z) (fun b o _ hb _ e n => u.keep b o e n hb (by simp)) (fun b o _ hb _ e n => u.slot b o e n hb (by simp)) (fun b o _ e n => u.free b o e n (by simp)) (fun b o _ e => u.there b o e (by simp)) u.tups u.frzs u.tbls (fun m' hm => by
    obtain ⟨o', es', ep', ho', r'⟩ := hm
    rw [ho] at ho'; cases ho'
    exact ⟨_, es', ep', hL, r'⟩) hok I.bare
/-- behind a call (or a comprehension's block): the slots of this frame may have changed too, the records at ch may have turned -/
theorem Inv.call {g' : Array GenState} {t' : Nat} {d' : Drawn} {ch : List Addr} (I : Inv X pins σ H s) (u : Un (frs X.stack) ch H H' s.heap h') (hok : HOk X.prog X.w H' h') (hg : AllBare g')
    (hch : ∀ b ∈ ch, (b ∈ X.ex ∨ X.s₀.heap.objs.size ≤ b) ∧ b ≠ X.env.locals ∧ (∀ x c, X.env.cells.lookup x = some c → c ≠ b) ∧ ∀ p ∈ X.pn ++ pins, p.1 ≠ b) :
    Inv X pins σ H' { s with heap := h', gens := g', drawn := d', toks := t' } := by
  obtain ⟨m, ⟨o, es, ep, ho, r⟩, _⟩ := id I.loc
  obtain ⟨sl, hL⟩ := u.any ho I.free fun z => (hch _ z).2.1 rfl
  exact I.step (ch := ch) hch (fun b o hL hb hc e n => u.keep b o e n (fun z => (List.mem_cons.mp (I.stkSub b z)).elim hL hb) hc) (fun b o _ _ hc e n => u.any e n hc) (fun b o hc e n => u.free b o e n hc) (fun b o hc e => u.there b o e hc) u.tups u.frzs u.tbls (fun m' hm => by
    obtain ⟨o', es', ep', ho', r'⟩ := hm
    rw [ho] at ho'; cases ho'
    exact ⟨_, es', ep', hL, r'⟩) hok hg
/-- an untracked record of ours (an iterator) has turned -/
theorem Inv.turned {t' : Nat} {it : Addr} (I : Inv X pins σ H s) (k : ∀ b o, b ≠ it → s.heap.get? b = some o → h'.get? b = some o) (hn : H it = none) (hL : it ≠ X.env.locals)
    (h1 : it ∈ X.ex ∨ X.s₀.heap.objs.size ≤ it) (h2 : ∀ x c, X.env.cells.lookup x = some c → c ≠ it) (h3 : ∀ p ∈ X.pn ++ pins, p.1 ≠ it) : Inv X pins σ H { s with heap := h', toks := t' } := by
  have nit : ∀ b u, H b = some u → b ≠ it := fun b u e z => by rw [z, hn] at e; cases e
  refine I.step (g' := s.gens) (d' := s.drawn) (ch := [it]) (fun b hb => ?_) (fun b o _ _ hc e _ => k b o (fun z => hc (by simp [z])) e) (fun b o _ _ hc e _ => ⟨o.slots, k b o (fun z => hc (by simp [z])) e⟩) (fun _ _ _ _ n => n)
    (fun b o hc e => ⟨o, k b o (fun z => hc (by simp [z])) e⟩) (fun _ _ e => e) (fun _ _ _ e => e) (fun b ps e => ⟨#[], by rw [e]; simp⟩) (fun m hm => ?_) (fun b u e => ?_) I.bare
  · have e : b = it := by simpa using hb
    subst e
    exact ⟨h1, hL, h2, h3⟩
  · obtain ⟨o, es, ep, ho, r⟩ := hm
    exact ⟨o, es, ep, k _ o (Ne.symm hL) ho, r⟩
  · refine (I.hok b u e).stay (fun c v hc q => k c v ?_ q) (fun _ q => q) fun _ _ q => q
    rcases hc with z | z
    · rw [z]; exact nit b u e
    · exact nit c _ z
theorem Inv.tok (I : Inv X pins σ H s) (t : Nat) : Inv X pins σ H { s with toks := t } := I.un (h' := s.heap) (t' := t) Un.refl I.hok
/-- all objects kept -/
theorem Inv.kept {t' : Nat} (I : Inv X pins σ H s) (k : ∀ b u, s.heap.get? b = some u → h'.get? b = some u) : Inv X pins σ H { s with heap := h', toks := t' } := I.un (Un.kept k) (I.hok.kept k)
/-- a new object laid and tracked -/
theorem Inv.laid {a : Addr} {o : HO} {t' : Nat} (I : Inv X pins σ H s) (k : ∀ b u, s.heap.get? b = some u → h'.get? b = some u) (hp : s.heap.objs.size ≤ a) (new : ObjOk X.prog X.w (upd H a o) h' a o) :
    Inv X pins σ (upd H a o) { s with heap := h', toks := t' } := I.un (Un.laid k hp (I.hok.fresh hp)) (I.hok.laid k hp new)
/-- an object written -/
theorem Inv.write {x e : Addr} {o : HO} {t' : Nat} (I : Inv X pins σ H s) (mu : Mut (H x)) (he : e = x ∨ H e = some (.own x)) (k : ∀ b u, b ≠ e → s.heap.get? b = some u → h'.get? b = some u) (heo : ∃ u, h'.get? e = some u)
    (new : ObjOk X.prog X.w (upd H x o) h' x o) : Inv X pins σ (upd H x o) { s with heap := h', toks := t' } := I.un (Un.write mu he k heo) (I.hok.write mu he k heo new)
theorem Inv.pins_of {pins' : List (Addr × Obj)} (I : Inv X pins σ H s) (h : ∀ p ∈ pins', s.heap.get? p.1 = some p.2 ∧ H p.1 = none ∧ p.1 ≠ X.env.locals ∧ p.1 ∉ X.fs ∧ ∀ v, p.2.data ≠ .cell v) : Inv X pins' σ H s :=
  ⟨I.ok, I.os, I.bare, I.base, I.loc, I.cell, I.free, I.freeC, fun p hp => (List.mem_append.mp hp).elim (fun z => I.pin p (List.mem_append_left _ z)) (h p), I.hok, I.len⟩

theorem nodup_ix {N : List Str} (hN : N.Nodup) {i j : Nat} {x : Str} (a : N[i]? = some x) (b : N[j]? = some x) : i = j := by
  obtain ⟨h1, e1⟩ := List.getElem?_eq_some_iff.mp a
  obtain ⟨h2, e2⟩ := List.getElem?_eq_some_iff.mp b
  exact (List.getElem_inj hN).mp (e1.trans e2.symm)

/-- a name is stored; what changed -/
theorem store_ok2 {M : Model} {A : Around} {E : Value → Shared → Prop} {i : Nat} {x : Str} {v : V} {u : Value} {Q : Unit → Shared → Prop} (I : Inv X pins σ H s) (hN : X.N.Nodup) (hi : X.N[i]? = some x) (hx : Loc X.env.scope x) (r : RelV v u)
    (h : ∀ s', Inv X pins (σ.set i (some v)) H s' → (∃ a, Heap.SameBut a s.heap s'.heap ∧ (a = X.env.locals ∨ X.env.cells.lookup x = some a)) → Q () s') (hf : X.fn x = true ∨ X.env.scope.names.lookup x = some .local := by first | exact .inl rfl | exact .inr rfl | assumption) : wpAny M A (storeName X.env x u) Q E s := by
  obtain ⟨m, hn, hl⟩ := id I.loc
  have hcls : (X.env.scope.kind == .class || (X.env.scope.kind == .module && X.env.locals != X.env.globals)) = false := by rw [I.ok.kind]; rfl
  have hiσ : i < σ.length := by rw [I.len]; exact (List.getElem?_eq_some_iff.mp hi).1
  have cne := I.cne
  have tracked : ∀ {a : Addr} {h' : Heap}, (∃ o, s.heap.get? a = some o ∧ H a = none) → Heap.SameBut a s.heap h' → HOk X.prog X.w H h' := fun {a h'} ha hs b ob e => by
    obtain ⟨_, _, hfree⟩ := ha
    refine (I.hok b ob e).stay (fun c w' hc q => (hs.2 c ?_).trans q) (fun _ q => q) fun _ _ q => q
    rintro rfl
    rcases hc with rfl | hc
    · rw [hfree] at e; cases e
    · rw [hfree] at hc; cases hc
  rcases hx with hk | hk
  · refine wpAny_storeName_local hk hn (fun h' hn' hs => ?_) hcls
    obtain ⟨oL, _, _, hoL, _⟩ := id hn
    refine h _ ⟨I.ok, I.os, I.bare, ⟨fun b o e n hb hx => ?_, fun b o e n hb hx => ?_, I.base.free, fun b o e hx => ?_, I.base.tups, I.base.frzs, I.base.tbls⟩, ⟨_, hn', fun j y v' e1 e2 e3 => ?_⟩, fun y c e => ?_, I.free, I.freeC, fun p hp => ?_, tracked ⟨oL, hoL, I.free⟩ hs, by simpa using I.len⟩ ⟨_, hs, .inl rfl⟩
    · exact (hs.2 b (Nat.ne_of_lt (Nat.lt_of_lt_of_le (Heap.lt_size e) I.ok.above))).trans (I.base.keep b o e n hb hx)
    · obtain ⟨sl, e1⟩ := I.base.slot b o e n hb hx
      exact ⟨sl, (hs.2 b (Nat.ne_of_lt (Nat.lt_of_lt_of_le (Heap.lt_size e) I.ok.above))).trans e1⟩
    · obtain ⟨o', e1⟩ := I.base.there b o e hx
      exact ⟨o', (hs.2 b (Nat.ne_of_lt (Nat.lt_of_lt_of_le (Heap.lt_size e) I.ok.above))).trans e1⟩
    · by_cases hj : j = i
      · subst hj
        rw [hi] at e1; cases e1
        rw [List.getElem?_set_self hiσ] at e2
        cases e2
        exact ⟨u, r, .inl ⟨hk, by simp⟩⟩
      · rw [List.getElem?_set_ne (Ne.symm hj)] at e2
        obtain ⟨u', r', q⟩ := hl j y v' e1 e2 e3
        refine ⟨u', r', ?_⟩
        rcases q with ⟨k, e⟩ | ⟨k, c, e, z⟩
        · refine .inl ⟨k, ?_⟩
          have : y ≠ x := fun e => hj (nodup_ix hN e1 (e ▸ hi))
          simp [this, e]
        · exact .inr ⟨k, c, e, z.sameBut hs (cne y c e)⟩
    · obtain ⟨w', z⟩ := I.cell y c e
      exact ⟨w', z.sameBut hs (cne y c e)⟩
    · obtain ⟨e, n, ne, nf, d⟩ := I.pin p hp
      exact ⟨(hs.2 p.1 ne).trans e, n, ne, nf, d⟩
  · have hfn : X.fn x = true := by
      rcases hf with z | z
      · exact z
      · rw [z] at hk; cases hk
    obtain ⟨c, hc⟩ := I.ok.has x (.inl hk)
    obtain ⟨w', z⟩ := I.cell x c hc
    refine wpAny_storeName_cell I.ok.kind hk hc z (fun h' hc' hs => ?_)
    obtain ⟨oc, hoc, hocd⟩ := id z
    refine h { s with heap := h' } ⟨I.ok, I.os, I.bare, ⟨fun b o e n hb hx => ?_, fun b o e n hb hx => ?_, I.base.free, fun b o e hx => ?_, I.base.tups, I.base.frzs, I.base.tbls⟩, ⟨m, hn.sameBut hs (Ne.symm (cne x c hc)), fun j y v' e1 e2 e3 => ?_⟩, fun y c' e => ?_, I.free, I.freeC, fun p hp => ?_, tracked ⟨oc, hoc, I.freeC x c hc⟩ hs, by simpa using I.len⟩ ⟨c, hs, .inr hc⟩
    · exact (hs.2 b (Nat.ne_of_lt (Nat.lt_of_lt_of_le (Heap.lt_size e) (I.ok.cab x c hfn hc)))).trans (I.base.keep b o e n hb hx)
    · obtain ⟨sl, e1⟩ := I.base.slot b o e n hb hx
      exact ⟨sl, (hs.2 b (Nat.ne_of_lt (Nat.lt_of_lt_of_le (Heap.lt_size e) (I.ok.cab x c hfn hc)))).trans e1⟩
    · obtain ⟨o', e1⟩ := I.base.there b o e hx
      exact ⟨o', (hs.2 b (Nat.ne_of_lt (Nat.lt_of_lt_of_le (Heap.lt_size e) (I.ok.cab x c hfn hc)))).trans e1⟩
    · by_cases hj : j = i
      · subst hj
        rw [hi] at e1; cases e1
        rw [List.getElem?_set_self hiσ] at e2
        cases e2
        exact ⟨u, r, .inr ⟨.inl hk, c, hc, hc'⟩⟩
      · rw [List.getElem?_set_ne (Ne.symm hj)] at e2
        obtain ⟨u', r', q⟩ := hl j y v' e1 e2 e3
        refine ⟨u', r', ?_⟩
        rcases q with q | ⟨k, c', e, z'⟩
        · exact .inl q
        · refine .inr ⟨k, c', e, z'.sameBut hs ?_⟩
          rintro rfl
          exact hj (nodup_ix hN e1 (I.ok.inj _ _ _ e hc ▸ hi))
    · by_cases hcc : c' = c
      · subst hcc; exact ⟨_, hc'⟩
      · obtain ⟨w2, z2⟩ := I.cell y c' e
        exact ⟨w2, z2.sameBut hs hcc⟩
    · obtain ⟨e, n, ne, nf, d⟩ := I.pin p hp
      refine ⟨(hs.2 p.1 ?_).trans e, n, ne, nf, d⟩
      intro q
      rw [q, hoc] at e
      have q' : oc = p.2 := Option.some.inj e
      exact d w' (by rw [← q']; exact hocd)
theorem store_ok {M : Model} {A : Around} {E : Value → Shared → Prop} {i : Nat} {x : Str} {v : V} {u : Value} {Q : Unit → Shared → Prop} (I : Inv X pins σ H s) (hN : X.N.Nodup) (hi : X.N[i]? = some x) (hx : Loc X.env.scope x) (r : RelV v u)
    (h : ∀ s', Inv X pins (σ.set i (some v)) H s' → Q () s') (hf : X.fn x = true ∨ X.env.scope.names.lookup x = some .local := by first | exact .inl rfl | exact .inr rfl | assumption) : wpAny M A (storeName X.env x u) Q E s :=
  store_ok2 I hN hi hx r (fun s' I' _ => h s' I') hf
/-- behind a call or a block, the state as it is -/
theorem Inv.call' {s' : Shared} {ch : List Addr} (I : Inv X pins σ H s) (ho : s'.os = s.os) (u : Un (frs X.stack) ch H H' s.heap s'.heap) (hok : HOk X.prog X.w H' s'.heap) (hg : AllBare s'.gens)
    (hch : ∀ b ∈ ch, (b ∈ X.ex ∨ X.s₀.heap.objs.size ≤ b) ∧ b ≠ X.env.locals ∧ (∀ x c, X.env.cells.lookup x = some c → c ≠ b) ∧ ∀ p ∈ X.pn ++ pins, p.1 ≠ b) : Inv X pins σ H' s' := by
  obtain ⟨h', g', d', t', o'⟩ := s'
  have e : o' = s.os := ho
  subst e
  exact I.call (g' := g') (t' := t') (d' := d') u hok hg hch
end

/-! ### the judgements -/
/-- an exception: its class, its own dict's address (where it has one), the abstract heap behind it -/
abbrev XK := Value → Option Addr → Hp → Prop
abbrev St := List (Option V)
abbrev VK := V → Hp → Prop
/-- an expression's reading; a test's; an argument list's -/
abbrev TE := St → Hp → VK → Prop
abbrev TT := St → Hp → (Bool → Hp → Prop) → Prop
abbrev TA := St → Hp → (List V → Hp → Prop) → Prop
/-- what is wanted behind a statement -/
structure Ends where
  nx : St → Hp → Prop
  rt : VK
  bk : St → Hp → Prop := fun _ _ => False
  ct : St → Hp → Prop := fun _ _ => False
abbrev TS := Ends → St → Hp → Prop

def EP (X : Cx) (pins : List (Addr × Obj)) (σ : St) (Q : VK) (u : Value) (s' : Shared) : Prop := ∃ v H', Inv X pins σ H' s' ∧ RelV v u ∧ Q v H'
def TP (X : Cx) (pins : List (Addr × Obj)) (σ : St) (Q : Bool → Hp → Prop) (b : Bool) (s' : Shared) : Prop := ∃ H', Inv X pins σ H' s' ∧ Q b H'
def AP (X : Cx) (pins : List (Addr × Obj)) (σ : St) (Q : List V → Hp → Prop) (us : List Value) (s' : Shared) : Prop := ∃ vs H', Inv X pins σ H' s' ∧ Vals vs us ∧ Q vs H'
def SP (X : Cx) (pins : List (Addr × Obj)) (D : Ends) (f : Flow) (s' : Shared) : Prop :=
  match f with
  | .next => ∃ σ' H', Inv X pins σ' H' s' ∧ D.nx σ' H'
  | .brk => ∃ σ' H', Inv X pins σ' H' s' ∧ D.bk σ' H'
  | .cont => ∃ σ' H', Inv X pins σ' H' s' ∧ D.ct σ' H'
  | .ret u => ∃ v σ' H', Inv X pins σ' H' s' ∧ RelV v u ∧ D.rt v H'

def PE (X : Cx) (e : Expr) (t : TE) : Prop :=
  ∀ (pins : List (Addr × Obj)) (s : Shared) (σ : St) (H : Hp) (Q : VK), Inv X pins σ H s → t σ H Q → wpAny (model X.prog X.w) X.A (eval e X.env) (EP X pins σ Q) X.xe s
def PT (X : Cx) (e : Expr) (t : TT) : Prop :=
  ∀ (pins : List (Addr × Obj)) (s : Shared) (σ : St) (H : Hp) (Q : Bool → Hp → Prop), Inv X pins σ H s → t σ H Q → wpAny (model X.prog X.w) X.A (isTrue e X.env (eval e X.env)) (TP X pins σ Q) X.xe s
/-- a test whatever its 'whole' is (and, or) -/
def PW (X : Cx) (e : Expr) (t : TT) : Prop :=
  ∀ (whole : Sem Value) (pins : List (Addr × Obj)) (s : Shared) (σ : St) (H : Hp) (Q : Bool → Hp → Prop), Inv X pins σ H s → t σ H Q → wpAny (model X.prog X.w) X.A (isTrue e X.env whole) (TP X pins σ Q) X.xe s
theorem PW.pt {X : Cx} {e : Expr} {t : TT} (h : PW X e t) : PT X e t := h _
/-- an argument list (no star), from the left -/
def PA (X : Cx) (es : List Expr) (t : TA) : Prop :=
  ∀ (pos : Pos) (pins : List (Addr × Obj)) (s : Shared) (σ : St) (H : Hp) (Q : List V → Hp → Prop), Inv X pins σ H s → t σ H Q → wpAny (model X.prog X.w) X.A (spliced (backTo pos (starEach es X.env))) (AP X pins σ Q) X.xe s
def PS (X : Cx) (st : Stmt) (t : TS) : Prop :=
  ∀ (pins : List (Addr × Obj)) (s : Shared) (σ : St) (H : Hp) (D : Ends), Inv X pins σ H s → t D σ H → wpAny (model X.prog X.w) X.A (exec st X.env) (SP X pins D) X.xe s
def PSs (X : Cx) (st : List Stmt) (t : TS) : Prop :=
  ∀ (pins : List (Addr × Obj)) (s : Shared) (σ : St) (H : Hp) (D : Ends), Inv X pins σ H s → t D σ H → wpAny (model X.prog X.w) X.A (execs st X.env) (SP X pins D) X.xe s
/-- weaken the end -/
theorem thn {α : Type} {t : Sem α} {Q Q' : α → Shared → Prop} {M : Model} {A : Around} {E : Value → Shared → Prop} {s : Shared} (h : wpAny M A t Q E s) (hQ : ∀ a s, Q a s → Q' a s) : wpAny M A t Q' E s := wpAny_mono h hQ fun _ _ x => x
end L2

namespace L2
open PySem PySem.Spec PyProof.Rows
section
variable {X : Cx}

/-! ### names and constants -/
def tVar (i : Nat) : TE := fun σ H Q => ∃ v, σ[i]? = some (some v) ∧ Q v H
def tC (v : V) : TE := fun _ H Q => Q v H
theorem pe_var {i : Nat} {x : Str} {pos : Pos} (hN : X.N[i]? = some x) (hv : Vis X.env.scope x) (hd : (x == ("__debug__" : Str)) = false := by decide) (hcd : (x == ("__classdict__" : Str)) = false := by decide) : PE X (.Name x pos) (tVar i) := by
  intro pins s σ H Q I h
  obtain ⟨v, e, h⟩ := h
  obtain ⟨m, hn, hl⟩ := I.loc
  obtain ⟨u, r, l⟩ := hl i x v hN e hv
  have fin : EP X pins σ Q u s := ⟨v, H, I, r, h⟩
  rcases l with ⟨hk, hm⟩ | ⟨hk, c, hc, hcell⟩
  · exact wpAny_Name (wpAny_loadName_local I.ok.kind hk hn hm fin) hd
  · rcases hk with hk | hk
    · exact wpAny_Name (wpAny_loadName_cell I.ok.kind hk hc hcell fin) hd
    · exact wpAny_Name (wpAny_loadName_free I.ok.kind hk hc hcell fin hcd) hd
theorem pe_int {i j pos} : PE X (.Constant (.int i) j pos) (tC (.int i)) := fun _ _ _ H _ I h => wpAny_Constant_int ⟨.int i, H, I.tok _, ⟨_, rfl⟩, h⟩
theorem pe_bl {b j pos} : PE X (.Constant (.bool b) j pos) (tC (.bl b)) := fun _ _ _ H _ I h => Constant_bool ⟨.bl b, H, I, rfl, h⟩
theorem pe_non {j pos} : PE X (.Constant .none j pos) (tC .non) := fun _ _ _ H _ I h => Constant_none ⟨.non, H, I, rfl, h⟩
theorem pe_str {x j pos} : PE X (.Constant (.str x) j pos) (tC (.str x)) := fun _ _ _ H _ I h => Calls.Constant_str ⟨.str x, H, I.tok _, ⟨_, rfl⟩, h⟩

/-- a global name of the def -/
def Gl (X : Cx) (x : Str) : Prop := X.env.kindOf x = some .globalImplicit
theorem ld_glob {E : Value → Shared → Prop} {pins : List (Addr × Obj)} {s : Shared} {σ : St} {H : Hp} {x : Str} {u : Value} {pos : Pos} {Q : Value → Shared → Prop} (I : Inv X pins σ H s) (hg : Gl X x) (hm : X.mg x = some u) (h : Q u s)
    (hd : (x == ("__debug__" : Str)) = false := by decide) : wpAny (model X.prog X.w) X.A (eval (.Name x pos) X.env) Q E s :=
  Calls.Name_function_global I.ok.kind hg (Calls.loadGlobal_global (by rw [I.ok.glob]; exact I.mod.glob.keeps I.bk) hm h) hd
theorem ld_blt {E : Value → Shared → Prop} {pins : List (Addr × Obj)} {s : Shared} {σ : St} {H : Hp} {x : Str} {u : Value} {pos : Pos} {Q : Value → Shared → Prop} (I : Inv X pins σ H s) (hg : Gl X x) (hm : X.mg x = none) (hv : bootBuiltins x = some u) (h : Q u s)
    (hn : x ≠ "__name__" := by decide) (hd : (x == ("__debug__" : Str)) = false := by decide) : wpAny (model X.prog X.w) X.A (eval (.Name x pos) X.env) Q E s := by
  obtain ⟨mb, h1, h2⟩ := I.mod.blt
  exact Calls.Name_function_global I.ok.kind hg (Calls.loadGlobal_builtin (by rw [I.ok.glob]; exact I.mod.glob.keeps I.bk) hm (by rw [I.ok.blt]; exact h1.keeps I.bk) ((h2 x hn).trans hv) h) hd
/-- a module's constant, a class, a function, as a value -/
theorem pe_glob {x : Str} {v : V} {u : Value} {pos : Pos} (hg : Gl X x) (hm : X.mg x = some u) (r : RelV v u) (hd : (x == ("__debug__" : Str)) = false := by decide) : PE X (.Name x pos) (tC v) :=
  fun _ _ _ H _ I h => ld_glob I hg hm ⟨v, H, I, r, h⟩ hd
/-! ### arithmetic -/
variable {a b : Expr} {ta tb : TE} {pos : Pos}
/-! ### comparisons -/
/-! ### and, or, not -/
variable {tA tB' : TT} {rest : List Expr}
def tAnd (t u : TT) : TT := fun σ H Q => t σ H fun c H1 => if c = true then u σ H1 Q else Q false H1
def tOr (t u : TT) : TT := fun σ H Q => t σ H fun c H1 => if c = true then Q true H1 else u σ H1 Q
def tNot (t : TT) : TT := fun σ H Q => t σ H fun c H1 => Q (!c) H1
theorem pw_and1 (ha : PT X a tA) : PW X (.BoolOp .And [a] pos) tA := by
  intro wh pins s σ H Q I h
  refine isTrue_and (thn (ha pins s σ H Q I h) fun c s1 e => ?_)
  cases c with
  | true => exact isTrue_and_nil e
  | false => exact e
theorem pw_or1 (ha : PT X a tA) : PW X (.BoolOp .Or [a] pos) tA := by
  intro wh pins s σ H Q I h
  refine isTrue_or (thn (ha pins s σ H Q I h) fun c s1 e => ?_)
  cases c with
  | false => exact isTrue_or_nil e
  | true => exact e
theorem pw_and (ha : PT X a tA) (hb : PW X (.BoolOp .And (b :: rest) pos) tB') : PW X (.BoolOp .And (a :: b :: rest) pos) (tAnd tA tB') := by
  intro wh pins s σ H Q I h
  refine isTrue_and (thn (ha pins s σ H _ I h) fun c s1 ⟨H1, I1, q1⟩ => ?_)
  cases c with
  | true => exact hb wh pins s1 σ H1 Q I1 q1
  | false => exact ⟨H1, I1, q1⟩
theorem pw_or (ha : PT X a tA) (hb : PW X (.BoolOp .Or (b :: rest) pos) tB') : PW X (.BoolOp .Or (a :: b :: rest) pos) (tOr tA tB') := by
  intro wh pins s σ H Q I h
  refine isTrue_or (thn (ha pins s σ H _ I h) fun c s1 ⟨H1, I1, q1⟩ => ?_)
  cases c with
  | true => exact ⟨H1, I1, q1⟩
  | false => exact hb wh pins s1 σ H1 Q I1 q1
theorem pt_not (ha : PT X a tA) : PT X (.UnaryOp .Not a pos) (tNot tA) := by
  intro pins s σ H Q I h
  exact isTrue_not (ha pins s σ H (fun c H1 => Q (!c) H1) I h)
/-- .. as values (bools) -/
def tAndV (ta tb : TE) : TE := fun σ H Q => ta σ H fun x H1 => ∃ c, x = .bl c ∧ if c = true then tb σ H1 Q else Q (.bl false) H1
def tNotV (ta : TE) : TE := fun σ H Q => ta σ H fun x H1 => ∃ c, x = .bl c ∧ Q (.bl (!c)) H1
theorem pe_one {op} {t : TE} (h : PE X a t) : PE X (.BoolOp op [a] pos) t := fun pins s σ H Q I hw => BoolOp_one (h pins s σ H Q I hw)
theorem pe_and (ha : PE X a ta) (hb : PE X (.BoolOp .And (b :: rest) pos) tb) : PE X (.BoolOp .And (a :: b :: rest) pos) (tAndV ta tb) := by
  intro pins s σ H Q I h
  refine BoolOp_and (thn (ha pins s σ H _ I h) fun v s1 ⟨x, H1, I1, r1, q1⟩ => ?_)
  obtain ⟨c, rfl, q1⟩ := q1
  cases r1
  refine wpAny_truthy_bool ?_
  cases c with
  | true => exact hb pins s1 σ H1 Q I1 q1
  | false => exact ⟨.bl false, H1, I1, rfl, q1⟩
theorem pe_not (ha : PE X a ta) : PE X (.UnaryOp .Not a pos) (tNotV ta) := by
  intro pins s σ H Q I h
  refine UnaryOp_ (thn (ha pins s σ H _ I h) fun v s1 ⟨x, H1, I1, r1, q1⟩ => ?_)
  obtain ⟨c, rfl, q1⟩ := q1
  cases r1
  exact not_of (wpAny_truthy_bool ⟨.bl (!c), H1, I1, rfl, q1⟩)
end
end L2

namespace L2
open PySem PySem.Spec PyProof.Rows

/-! ### a list, a tuple that is read: tracked, frozen, or an object of the module -/
def SqL (K : PySem.W.Frag) (H : Hp) (a : Addr) (xs : List V) : Prop :=
  Rd H a (.lst xs) ∨
    ∃ (o : Obj) (its : Array Value) (n : Nat), K.lookup a = some o ∧ o.cls = .type "list" ∧ o.dict = none ∧ o.data = .seq its n ∧ its.size ≤ sizeLine ∧ Vals xs its.toList
def SqT (K : PySem.W.Frag) (H : Hp) (a : Addr) (xs : List V) : Prop :=
  Rd H a (.tup xs) ∨
    ∃ (o : Obj) (its : Array Value) (n : Nat), K.lookup a = some o ∧ o.cls = .type "tuple" ∧ o.data = .seq its n ∧ its.size ≤ sizeLine ∧ Vals xs its.toList
def absV : Value → Option V
  | .none => some .non
  | .bool b => some (.bl b)
  | .int i _ => some (.int i)
  | .str x _ => some (.str x)
  | .bytes b _ => some (.byt b)
  | .float b _ => some (.flt b)
  | .ref a => some (.ref a)
  | .type n => some (.ty n)
  | _ => none
theorem RelV.abs {x : V} {u : Value} (r : RelV x u) : absV u = some x := by
  cases x with
  | non => cases r; rfl
  | bl _ => cases r; rfl
  | int _ => obtain ⟨t, rfl⟩ := r; rfl
  | str _ => obtain ⟨t, rfl⟩ := r; rfl
  | byt _ => obtain ⟨t, rfl⟩ := r; rfl
  | flt _ => obtain ⟨t, rfl⟩ := r; rfl
  | ref _ => cases r; rfl
  | ty _ => cases r; rfl
theorem RelV.inj {x y : V} {u : Value} (r : RelV x u) (q : RelV y u) : x = y := Option.some.inj (r.abs.symm.trans q.abs)
theorem Vals.inj : ∀ {xs ys : List V} {us : List Value}, Vals xs us → Vals ys us → xs = ys
  | _, _, _, .nil, .nil => rfl
  | _, _, _, .cons r t, .cons r' t' => by rw [r.inj r', Vals.inj t t']
section
variable {X : Cx} {pins : List (Addr × Obj)} {σ : St} {H : Hp} {s : Shared} {a : Addr} {xs ys : List V}
theorem SqL.of {K : PySem.W.Frag} (h : H a = some (.lst xs)) : SqL K H a xs := .inl (.inl h)
theorem SqT.of {K : PySem.W.Frag} (h : H a = some (.tup xs)) : SqT K H a xs := .inl (.inl h)
theorem Inv.list (I : Inv X pins σ H s) (h : SqL X.K H a xs) : ∃ its : List Value, Vals xs its ∧ PlainL s.heap a its.toArray ∧ xs.length ≤ sizeLine := by
  rcases h with h | ⟨o, its, n, hk, hc, hd, hs, hz, r⟩
  · obtain ⟨z, its, n, r, e⟩ := h.ok I.hok
    exact ⟨its, r, ⟨_, n, e, rfl, rfl, rfl⟩, z⟩
  · refine ⟨its.toList, r, ⟨o, n, I.kIn a o hk, hc, hd, by simpa using hs⟩, ?_⟩
    have e := r.length
    simp only [Array.length_toList] at e
    omega
theorem Inv.tuple (I : Inv X pins σ H s) (h : SqT X.K H a xs) : ∃ its : List Value, Vals xs its ∧ IsTup s.heap a its.toArray ∧ xs.length ≤ sizeLine := by
  rcases h with h | ⟨o, its, n, hk, hc, hs, hz, r⟩
  · obtain ⟨z, its, r, p⟩ := h.ok I.hok
    exact ⟨its, r, p.tup, z⟩
  · refine ⟨its.toList, r, ⟨o, I.kIn a o hk, hc, n, by simpa using hs⟩, ?_⟩
    have e := r.length
    simp only [Array.length_toList] at e
    omega
theorem Inv.list_inj (I : Inv X pins σ H s) (h : SqL X.K H a xs) (h' : SqL X.K H a ys) : xs = ys := by
  obtain ⟨its, r, ⟨o, n, e, _, _, d⟩, _⟩ := I.list h
  obtain ⟨its', r', ⟨o', n', e', _, _, d'⟩, _⟩ := I.list h'
  rw [e] at e'; cases e'
  rw [d] at d'
  injection d' with d1 _
  have : its = its' := by simpa using congrArg Array.toList d1
  subst this
  exact r.inj r'
theorem Inv.tuple_inj (I : Inv X pins σ H s) (h : SqT X.K H a xs) (h' : SqT X.K H a ys) : xs = ys := by
  obtain ⟨its, r, ⟨o, e, _, n, d⟩, _⟩ := I.tuple h
  obtain ⟨its', r', ⟨o', e', _, n', d'⟩, _⟩ := I.tuple h'
  rw [e] at e'; cases e'
  rw [d] at d'
  injection d' with d1 _
  have : its = its' := by simpa using congrArg Array.toList d1
  subst this
  exact r.inj r'
end

/-! ### another wish about exceptions -/
abbrev Cx.wish (X : Cx) (E : Value → Shared → Prop) : Cx := { X with xe := E }
/-- no exception leaves -/
abbrev Cx.nox (X : Cx) : Cx := X.wish fun _ _ => False
theorem Cx.Ok.wish {X : Cx} (ok : X.Ok) (E : Value → Shared → Prop) : (X.wish E).Ok :=
  ⟨ok.mod, ok.kind, ok.glob, ok.blt, ok.above, ok.inj, ok.has, ok.cab, ok.hd, ok.frames, ok.stk, ok.exf, ok.bs, ok.bsz, ok.noex, ok.exfs, ok.funs, ok.frf⟩
theorem Cx.Ok.unwish {X : Cx} {E : Value → Shared → Prop} (ok : (X.wish E).Ok) : X.Ok :=
  ⟨ok.mod, ok.kind, ok.glob, ok.blt, ok.above, ok.inj, ok.has, ok.cab, ok.hd, ok.frames, ok.stk, ok.exf, ok.bs, ok.bsz, ok.noex, ok.exfs, ok.funs, ok.frf⟩
section
variable {X : Cx} {pins : List (Addr × Obj)} {σ : St} {H : Hp} {s : Shared} {E : Value → Shared → Prop}
theorem Inv.wish (I : Inv X pins σ H s) (E : Value → Shared → Prop) : Inv (X.wish E) pins σ H s := ⟨I.ok.wish E, I.os, I.bare, I.base, I.loc, I.cell, I.free, I.freeC, I.pin, I.hok, I.len⟩
theorem Inv.unwish (I : Inv (X.wish E) pins σ H s) : Inv X pins σ H s := ⟨I.ok.unwish, I.os, I.bare, I.base, I.loc, I.cell, I.free, I.freeC, I.pin, I.hok, I.len⟩
theorem SP.unwish {D : Ends} {f : Flow} {s' : Shared} (h : SP (X.wish E) pins D f s') : SP X pins D f s' := by
  cases f with
  | next => obtain ⟨σ', H', I, q⟩ := h; exact ⟨σ', H', I.unwish, q⟩
  | brk => obtain ⟨σ', H', I, q⟩ := h; exact ⟨σ', H', I.unwish, q⟩
  | cont => obtain ⟨σ', H', I, q⟩ := h; exact ⟨σ', H', I.unwish, q⟩
  | ret u => obtain ⟨v, σ', H', I, r, q⟩ := h; exact ⟨v, σ', H', I.unwish, r, q⟩
theorem PE.nox {e : Expr} {t : TE} (h : PE X.nox e t) : PE X e t := fun pins s σ H Q I hw =>
  wpAny_mono (h pins s σ H Q (I.wish _) hw) (fun _ _ ⟨v, H', I', r, q⟩ => ⟨v, H', I'.unwish, r, q⟩) fun _ _ z => False.elim z
theorem PT.nox {e : Expr} {t : TT} (h : PT X.nox e t) : PT X e t := fun pins s σ H Q I hw =>
  wpAny_mono (h pins s σ H Q (I.wish _) hw) (fun _ _ ⟨H', I', q⟩ => ⟨H', I'.unwish, q⟩) fun _ _ z => False.elim z
theorem PSs.nox {st : List Stmt} {t : TS} (h : PSs X.nox st t) : PSs X st t := fun pins s σ H D I hw =>
  wpAny_mono (h pins s σ H D (I.wish _) hw) (fun _ _ q => q.unwish) fun _ _ z => False.elim z
end

/-! ### blocks and small statements -/
section
variable {X : Cx} {st : Stmt} {rest : List Stmt} {t u : TS} {e : Expr} {te : TE} {pos : Pos}
def tNext : TS := fun D σ H => D.nx σ H
def tSeq (t u : TS) : TS := fun D σ H => t { D with nx := u D } σ H
theorem pss_nil : PSs X [] tNext := fun _ _ σ H _ I h => wpAny_execs_nil ⟨σ, H, I, h⟩
theorem pss_cons (h1 : PS X st t) (h2 : PSs X rest u) : PSs X (st :: rest) (tSeq t u) := by
  intro pins s σ H D I h
  refine wpAny_execs_cons (thn (h1 pins s σ H { D with nx := u D } I h) fun f s1 q => ?_)
  cases f with
  | next =>
    obtain ⟨σ', H', I', q⟩ := q
    exact h2 pins s1 σ' H' D I' q
  | ret v => exact q
  | brk => exact q
  | cont => exact q
theorem pss_one (h1 : PS X st t) : PSs X [st] t := by
  intro pins s σ H D I h
  refine wpAny_execs_cons (thn (h1 pins s σ H D I h) fun f s1 q => ?_)
  cases f with
  | next => exact wpAny_execs_nil q
  | ret v => exact q
  | brk => exact q
  | cont => exact q
/-- in a def's body nothing is shown -/
theorem Inv.quiet {pins : List (Addr × Obj)} {σ : St} {H : Hp} {s : Shared} (I : Inv X pins σ H s) : interactive X.env = false := by simp [interactive, I.ok.kind]
/-- an expression whose value is dropped -/
def tDrop (te : TE) : TS := fun D σ H => te σ H fun _ H1 => D.nx σ H1
theorem ps_expr (he : PE X e te) (hs : swapsWith e none pos.line X.env = pure false := by rfl) : PS X (.Expr e pos) (tDrop te) := by
  intro pins s σ H D I h
  exact wpAny_Expr_any (thn (he pins s σ H _ I h) fun v s1 ⟨x, H1, I1, r1, q1⟩ => ⟨σ, H1, I1, q1⟩) I.quiet hs
def tRet (te : TE) : TS := fun D σ H => te σ H D.rt
theorem ps_ret (he : PE X e te) : PS X (.Return (some e) pos) (tRet te) := by
  intro pins s σ H D I h
  exact wpAny_Return_some (thn (he pins s σ H _ I h) fun v s1 ⟨x, H1, I1, r1, q1⟩ => ⟨x, σ, H1, I1, r1, q1⟩)
def tIfS (c : TT) (t u : TS) : TS := fun D σ H => c σ H fun b H1 => if b = true then t D σ H1 else u D σ H1
theorem ps_if {c : Expr} {a b : List Stmt} {tc : TT} (hc : PT X c tc) (ha : PSs X a t) (hb : PSs X b u) : PS X (.If c a b pos) (tIfS tc t u) := by
  intro pins s σ H D I h
  refine wpAny_If (thn (hc pins s σ H _ I h) fun d s1 ⟨H1, I1, q1⟩ => ?_)
  cases d with
  | true => exact ha pins s1 σ H1 D I1 q1
  | false => exact hb pins s1 σ H1 D I1 q1
end

/-! ### targets -/
abbrev TG := V → St → Hp → (St → Hp → Prop) → Prop
abbrev TGs := List V → St → Hp → (St → Hp → Prop) → Prop
def PG (X : Cx) (target : Expr) (t : TG) : Prop :=
  ∀ (pins : List (Addr × Obj)) (s : Shared) (σ : St) (H : Hp) (v : V) (u : Value) (Q : St → Hp → Prop), Inv X pins σ H s → RelV v u → t v σ H Q →
    wpAny (model X.prog X.w) X.A (assign target X.env u) (fun _ s' => ∃ σ' H', Inv X pins σ' H' s' ∧ Q σ' H') X.xe s
/-- several targets, one after another -/
def PGs (X : Cx) (ts : List Expr) (t : TGs) : Prop :=
  ∀ (pins : List (Addr × Obj)) (s : Shared) (σ : St) (H : Hp) (vs : List V) (us : List Value) (Q : St → Hp → Prop), Inv X pins σ H s → Vals vs us → t vs σ H Q →
    wpAny (model X.prog X.w) X.A (assignInOrder ((assignEach ts X.env).map (·.2)) us) (fun _ s' => ∃ σ' H', Inv X pins σ' H' s' ∧ Q σ' H') X.xe s
/-- o[i] = v, by values -/
abbrev TSet := V → V → V → Hp → (Hp → Prop) → Prop
def PSet (X : Cx) (t : TSet) : Prop :=
  ∀ (pins : List (Addr × Obj)) (s : Shared) (σ : St) (H : Hp) (o i v : V) (ov iv u : Value) (Q : Hp → Prop), Inv X pins σ H s → RelV o ov → RelV i iv → RelV v u → t o i v H Q →
    wpAny (model X.prog X.w) X.A (setItem ov iv u) (fun _ s' => ∃ H', Inv X pins σ H' s' ∧ Q H') X.xe s
section
variable {X : Cx} {pos : Pos}
def gName (i : Nat) : TG := fun v σ H Q => Q (σ.set i (some v)) H
theorem pg_name {i : Nat} {x : Str} (hN : X.N.Nodup) (hi : X.N[i]? = some x) (hx : Loc X.env.scope x) (hf : X.fn x = true ∨ X.env.scope.names.lookup x = some .local := by first | exact .inl rfl | exact .inr rfl | assumption) : PG X (.Name x pos) (gName i) := by
  intro pins s σ H v u Q I r h
  exact wpAny_assign_Name (store_ok I hN hi hx r (fun s' I' => ⟨_, H, I', h⟩) hf)
def gNil : TGs := fun vs σ H Q => vs = [] ∧ Q σ H
def gCons (t : TG) (u : TGs) : TGs := fun vs σ H Q => ∃ v r, vs = v :: r ∧ t v σ H fun σ' H' => u r σ' H' Q
theorem pgs_nil : PGs X [] gNil := by
  intro pins s σ H vs us Q I r h
  obtain ⟨e, h⟩ := h
  subst e
  cases r
  exact assignInOrder_nil ⟨σ, H, I, h⟩
theorem pgs_cons {e : Expr} {es : List Expr} {t : TG} {u : TGs} (h1 : PG X e t) (h2 : PGs X es u)
    (hs : (assignEach (e :: es) X.env).map (·.2) = assign e X.env :: (assignEach es X.env).map (·.2) := by rfl) : PGs X (e :: es) (gCons t u) := by
  intro pins s σ H vs us Q I r h
  obtain ⟨v, vr, e1, h⟩ := h
  subst e1
  cases r with
  | cons r rr =>
    rw [hs]
    refine assignInOrder_cons (thn (h1 pins s σ H _ _ _ I r h) fun _ s1 ⟨σ1, H1, I1, q1⟩ => ?_)
    exact h2 pins s1 σ1 H1 _ _ Q I1 rr q1
/-- (a, b, ..) = a tuple of that length -/
def gTup (K : PySem.W.Frag) (n : Nat) (t : TGs) : TG := fun v σ H Q => ∃ a xs, v = .ref a ∧ SqT K H a xs ∧ xs.length = n ∧ t xs σ H Q
theorem pg_tup {es : List Expr} {k : Nat} {t : TGs} {n : Nat} (hc : X.calm = true) (h : PGs X es t)
    (hn : (assignEach es X.env).length = n := by rfl) (hst : (assignEach es X.env).findIdx? (·.1) = none := by rfl) : PG X (.Tuple es k pos) (gTup X.K n t) := by
  intro pins s σ H v u Q I r hw
  obtain ⟨a, xs, e1, hq, hl, hw⟩ := hw
  subst e1
  cases r
  obtain ⟨its, rv, ht, hz⟩ := I.tuple hq
  refine assign_Tuple_tuple (I.ok.hd hc) ht (by simp [hn, ← hl, rv.length]) hst fun h' hx => ?_
  have I1 : Inv X pins σ H { s with heap := h' } := I.kept (t' := s.toks) fun b o e => hx b o (Nat.ne_of_lt (Heap.lt_size e)) e
  exact h pins _ σ H xs _ Q I1 (by simpa using rv) hw
/-- o[i] = .. -/
def gSub (to ti : TE) (t : TSet) : TG := fun v σ H Q => to σ H fun o H1 => ti σ H1 fun i H2 => t o i v H2 fun H3 => Q σ H3
theorem pg_sub {o i : Expr} {to ti : TE} {t : TSet} (ho : PE X o to) (hi : PE X i ti) (hs : PSet X t)
    (ha : ∀ v, assign (.Subscript o i pos) X.env v = (do
      let ov ← holding [v] (eval o X.env)
      let iv ← holding [v, ov] (eval i X.env)
      standAt pos
      holding [v, ov, iv] (setItem ov iv v)
      release [v, ov, iv] []) := by intro _; rfl) : PG X (.Subscript o i pos) (gSub to ti t) := by
  intro pins s σ H v u Q I r h
  rw [ha]
  refine wpAny_bind (wpAny_holding (thn (ho pins s σ H _ I h) fun ov s1 ⟨x, H1, I1, r1, q1⟩ => ?_))
  refine wpAny_bind (wpAny_holding (thn (hi pins s1 σ H1 _ I1 q1) fun iv s2 ⟨y, H2, I2, r2, q2⟩ => ?_))
  refine wpAny_bind (wpAny_standAt (wpAny_bind (wpAny_holding (thn (hs pins s2 σ H2 x y v ov iv u _ I2 r1 r2 r q2) fun _ s3 ⟨H3, I3, q3⟩ => ?_))))
  exact wpAny_release ⟨σ, H3, I3, q3⟩
/-- target = value -/
def tAsg (te : TE) (g : TG) : TS := fun D σ H => te σ H fun x H1 => g x σ H1 D.nx
theorem ps_asg {tg e : Expr} {te : TE} {g : TG} (he : PE X e te) (hg : PG X tg g) (hs : swapsWithSole [tg] e pos.line X.env = pure false := by rfl) (hw : swappedStores [tg] e X.env = pure none := by rfl)
    (h1 : (assignEach [tg] X.env).map (·.2) = [assign tg X.env] := by rfl) : PS X (.Assign [tg] e pos) (tAsg te g) := by
  intro pins s σ H D I h
  refine wpAny_Assign_stores (thn (he pins s σ H _ I h) fun v s1 ⟨x, H1, I1, r1, q1⟩ => ?_) hs hw
  rw [h1]
  exact thn (hg pins s1 σ H1 x v _ I1 r1 q1) fun _ s2 q => q
/-- name = value -/
theorem ps_set {i : Nat} {x : Str} {e : Expr} {te : TE} {pos' : Pos} (hN : X.N.Nodup) (hi : X.N[i]? = some x) (hx : Loc X.env.scope x) (he : PE X e te) (hs : swapsWith e (some (.Name x pos')) pos.line X.env = pure false := by rfl) (hf : X.fn x = true ∨ X.env.scope.names.lookup x = some .local := by first | exact .inl rfl | exact .inr rfl | assumption) :
    PS X (.Assign [.Name x pos'] e pos) (tAsg te (gName i)) := by
  intro pins s σ H D I h
  refine wpAny_Assign_Name (thn (he pins s σ H _ I h) fun v s1 ⟨y, H1, I1, r1, q1⟩ => ?_) hs
  exact store_ok I1 hN hi hx r1 (fun s2 I2 => ⟨_, H1, I2, q1⟩) hf
end

/-! ### while -/
section
variable {X : Cx} {pos : Pos}
/-- the invariant W with its measure -/
def tWhile (c : TT) (tb : TS) : TS := fun D σ H => ∃ W : Nat → St → Hp → Prop, (∃ m, W m σ H) ∧ ∀ m σ H, W m σ H →
  c σ H fun b H1 => if b = true then ∃ N : St → Hp → Prop, (∀ σ' H', N σ' H' → ∃ m', m' < m ∧ W m' σ' H') ∧ tb { D with nx := N, ct := N, bk := D.nx } σ H1 else D.nx σ H1
theorem ps_while {c : Expr} {body : List Stmt} {tc : TT} {tb : TS} (hp : PassesOwn (model X.prog X.w) X.A X.env X.xe) (hc : PT X c tc) (hb : PSs X body tb) : PS X (.While c body [] pos) (tWhile tc tb) := by
  intro pins s σ H D I h
  obtain ⟨W, ⟨m0, w0⟩, turn⟩ := h
  refine wpAny_While (codeAny_whileLoop (fun n s' => ∃ σ' H', Inv X pins σ' H' s' ∧ W n σ' H') ?_ m0 ⟨σ, H, I, w0⟩)
  rintro n s1 ⟨σ1, H1, I1, w1⟩
  refine wpAny_passesOwn hp (thn (hc pins s1 σ1 H1 _ I1 (turn n σ1 H1 w1)) fun b s2 ⟨H2, I2, q2⟩ => ?_)
  cases b with
  | true =>
    obtain ⟨N, hN, q2⟩ := q2
    rw [if_pos rfl]
    refine wpAny_passesOwn hp (thn (hb pins s2 σ1 H2 _ I2 q2) fun f s3 q3 => ?_)
    cases f with
    | next =>
      obtain ⟨σ3, H3, I3, n3⟩ := q3
      obtain ⟨m', hm, w3⟩ := hN σ3 H3 n3
      exact ⟨m', hm, σ3, H3, I3, w3⟩
    | cont =>
      obtain ⟨σ3, H3, I3, n3⟩ := q3
      obtain ⟨m', hm, w3⟩ := hN σ3 H3 n3
      exact ⟨m', hm, σ3, H3, I3, w3⟩
    | brk => exact q3
    | ret v => exact q3
  | false =>
    rw [if_neg Bool.false_ne_true]
    exact wpAny_execs_nil ⟨σ1, H2, I2, q2⟩
end

/-! ### what a loop or a comprehension walks -/
/-- at turn i: it yields x (the heap may grow), or it stops -/
structure It where
  go : Nat → Hp → Prop
  yld : Nat → Hp → V → Hp → Prop
  stop : Nat → Hp → Prop
/-- the iterator's own objects may turn: they are not the frame's, not pinned, younger than the entry (or a comprehension's own) -/
def FpOk (X : Cx) (pins : List (Addr × Obj)) (H : Hp) (b : Addr) : Prop :=
  H b = none ∧ b ≠ X.env.locals ∧ b ∉ X.fs ∧ (b ∈ X.ex ∨ X.s₀.heap.objs.size ≤ b) ∧ (∀ x c, X.env.cells.lookup x = some c → c ≠ b) ∧ ∀ p ∈ X.pn ++ pins, p.1 ≠ b
theorem Inv.fpOk {X : Cx} {pins : List (Addr × Obj)} {σ : St} {H H' : Hp} {s : Shared} {b : Addr} (I : Inv X pins σ H s) (hb : s.heap.objs.size ≤ b) (hn : H' b = none) : FpOk X pins H' b := by
  refine ⟨hn, Nat.ne_of_gt (Nat.lt_of_lt_of_le I.lt hb), I.nofs hb, .inr (Nat.le_trans I.sz hb), fun x c e z => ?_, fun p hp z => ?_⟩
  · obtain ⟨v, q⟩ := I.cell x c e
    exact absurd (Nat.lt_of_lt_of_le q.lt (by rw [z]; exact hb)) (Nat.lt_irrefl _)
  · exact absurd (Nat.lt_of_lt_of_le (Heap.lt_size (I.pin p hp).1) (by rw [z]; exact hb)) (Nat.lt_irrefl _)
structure Turn (P : Program) (w : World) (K : PySem.W.Frag) (tg : Expr) (J : It) (fp : List Addr) (it : Addr) (tn : Nat → Heap → Prop) : Prop where
  mem : it ∈ fp
  obj : ∀ i h, tn i h → ∀ b ∈ fp, ∃ o, h.get? b = some o ∧ ∀ v, o.data ≠ .cell v
  keep : ∀ i h h', tn i h → (∀ b ∈ fp, ∀ o, h.get? b = some o → h'.get? b = some o) → tn i h'
  item : ∀ (X : Cx), X.prog = P → X.w = w → X.K = K → X.calm = true → ∀ (i : Nat) (pins : List (Addr × Obj)) (s : Shared) (σ : St) (H : Hp) (E : Value → Shared → Prop), Inv X pins σ H s → (∀ b ∈ fp, FpOk X pins H b) → tn i s.heap → J.go i H →
    wpAny (model P w) X.A (pyNext (.ref it)) (fun r s1 => ∃ u, r = some u ∧
      wpAny (model P w) X.A (letOwnedTupleGo tg (.ref it) u) (fun _ s2 => ∃ x H', Inv X pins σ H' s2 ∧ RelV x u ∧ J.yld i H x H' ∧ tn (i + 1) s2.heap ∧ ∀ b ∈ fp, H' b = none) E s1) E s
  done : ∀ (X : Cx), X.prog = P → X.w = w → X.K = K → X.calm = true → ∀ (i : Nat) (pins : List (Addr × Obj)) (s : Shared) (σ : St) (H : Hp) (E : Value → Shared → Prop), Inv X pins σ H s → (∀ b ∈ fp, FpOk X pins H b) → tn i s.heap → J.stop i H →
    wpAny (model P w) X.A (pyNext (.ref it)) (fun r s1 => r = none ∧ Inv X pins σ H s1) E s
  self : ∀ (A : Around) (i : Nat) (s : Shared) (Q : Value → Shared → Prop) (E : Value → Shared → Prop), tn i s.heap → Q (.ref it) s → wpAny (model P w) A (pyIter (.ref it)) Q E s
abbrev TI := St → Hp → (It → Hp → Prop) → Prop
/-- an iterator has come -/
def PIE (X : Cx) (pins : List (Addr × Obj)) (σ : St) (tg : Expr) (R : It → Hp → Prop) (itv : Value) (s2 : Shared) : Prop :=
  ∃ (it : Addr) (fp : List Addr) (tn : Nat → Heap → Prop) (J : It) (H' : Hp), itv = .ref it ∧ Inv X pins σ H' s2 ∧ Turn X.prog X.w X.K tg J fp it tn ∧ tn 0 s2.heap ∧ (∀ b ∈ fp, FpOk X pins H' b) ∧ R J H'
def PI (X : Cx) (tg iter : Expr) (wi : TI) : Prop :=
  ∀ (pins : List (Addr × Obj)) (s : Shared) (σ : St) (H : Hp) (R : It → Hp → Prop), Inv X pins σ H s → wi σ H R →
    wpAny (model X.prog X.w) X.A (eval iter X.env) (fun v s1 => wpAny (model X.prog X.w) X.A (pyIter v) (PIE X pins σ tg R) X.xe s1) X.xe s

/-- the step ahead of the store is nothing for an iterator that keeps no tuple -/
theorem go_of {M : Model} {A : Around} {E : Value → Shared → Prop} {s : Shared} {tg : Expr} {it : Addr} {u : Value} {o : Obj} {n : String} {vs : Array Value} {Q : Unit → Shared → Prop} (ho : s.heap.get? it = some o) (hc : o.cls = .type n) (hd : o.data = .fields vs)
    (hn : ["enumerate", "zip", "dict_itemiterator", "dict_reverseitemiterator", "odict_iterator", "itertools.zip_longest", "itertools.pairwise"].contains n = false) (hQ : Q () s) : wpAny M A (letOwnedTupleGo tg (.ref it) u) Q E s := by
  unfold letOwnedTupleGo
  cases tg <;> first
    | exact wpAny_pure hQ
    | (cases u <;> first
        | exact wpAny_pure hQ
        | (refine wpAny_bind (wpAny_load ho ?_)
           rw [hc, hd]
           show wpAny M A (if (["enumerate", "zip", "dict_itemiterator", "dict_reverseitemiterator", "odict_iterator", "itertools.zip_longest", "itertools.pairwise"].contains n && vs[0]? == some (rawInt _)) = true then _ else _) Q E s
           rw [if_neg (by intro h; rw [hn, Bool.false_and] at h; cases h)]
           exact wpAny_pure hQ))

/-- the list at a, as it stands at each turn (a loop may append to it) -/
def Itl (K : PySem.W.Frag) (a : Addr) : It :=
  ⟨fun i H => ∃ xs x, SqL K H a xs ∧ xs[i]? = some x, fun i H x H' => H' = H ∧ ∀ xs, SqL K H a xs → xs[i]? = some x, fun i H => ∃ xs, SqL K H a xs ∧ xs.length ≤ i⟩
def Itt (K : PySem.W.Frag) (a : Addr) : It :=
  ⟨fun i H => ∃ xs x, SqT K H a xs ∧ xs[i]? = some x, fun i H x H' => H' = H ∧ ∀ xs, SqT K H a xs → xs[i]? = some x, fun i H => ∃ xs, SqT K H a xs ∧ xs.length ≤ i⟩
/-- lo, lo + 1, .. (n of them) -/
def Itr (lo : Int) (n : Nat) : It := ⟨fun i _ => i < n, fun i H x H' => H' = H ∧ x = .int (lo + i), fun i _ => n ≤ i⟩
theorem turn_list {P : Program} {w : World} {K : PySem.W.Frag} {tg : Expr} (a it : Addr) : Turn P w K tg (Itl K a) [it] it (fun i h => h.IsListIter it a i) where
  mem := by simp
  obj := fun i h st b hb => by
    have e : b = it := by simpa using hb
    subst e
    obtain ⟨o, e, c, d⟩ := st
    exact ⟨o, e, fun v z => by rw [d] at z; cases z⟩
  keep := fun i h h' st k => st.at fun o e => k it (by simp) o e
  item := by
    intro X hP hw hK hc i pins s σ H E I hf st hg
    subst hP hw hK
    obtain ⟨xs, x, hq, hx⟩ := hg
    obtain ⟨its, rv, p, hz⟩ := I.list hq
    obtain ⟨u, hu, ru⟩ := rv.get hx
    obtain ⟨f0, f1, f2, f3, f4, f5⟩ := hf it (by simp)
    refine wpAny_pyNext_list_item st p.isList (x := u) (by simpa using hu) fun h' st' sb => ?_
    have I1 : Inv X pins σ H { s with heap := h' } := I.turned (t' := s.toks) (fun b o hb e => (sb.2 b hb).trans e) f0 f1 f3 f4 f5
    obtain ⟨o, e, c, d⟩ := id st'
    exact ⟨u, rfl, go_of (s := { s with heap := h' }) e c d (by decide) ⟨x, H, I1, ru, ⟨rfl, fun ys hy => by rw [I.list_inj hy hq]; exact hx⟩, st', fun b hb => (hf b hb).1⟩⟩
  done := by
    intro X hP hw hK hc i pins s σ H E I hf st hg
    subst hP hw hK
    obtain ⟨xs, hq, hx⟩ := hg
    obtain ⟨its, rv, p, hz⟩ := I.list hq
    obtain ⟨f0, f1, f2, f3, f4, f5⟩ := hf it (by simp)
    have hl := rv.length
    exact wpAny_pyNext_list_end (I.ok.hd hc) st p.isList (by simp; omega) fun h' eb => ⟨rfl, I.turned (t' := s.toks) (fun b o hb e => eb b o hb e) f0 f1 f3 f4 f5⟩
  self := fun _ _ _ _ _ st h => wpAny_pyIter_listiter st h
theorem turn_tuple {P : Program} {w : World} {K : PySem.W.Frag} {tg : Expr} (a it : Addr) : Turn P w K tg (Itt K a) [it] it (fun i h => h.IsTupleIter it a i) where
  mem := by simp
  obj := fun i h st b hb => by
    have e : b = it := by simpa using hb
    subst e
    obtain ⟨o, e, c, d⟩ := st
    exact ⟨o, e, fun v z => by rw [d] at z; cases z⟩
  keep := fun i h h' st k => st.at fun o e => k it (by simp) o e
  item := by
    intro X hP hw hK hc i pins s σ H E I hf st hg
    subst hP hw hK
    obtain ⟨xs, x, hq, hx⟩ := hg
    obtain ⟨its, rv, p, hz⟩ := I.tuple hq
    obtain ⟨u, hu, ru⟩ := rv.get hx
    obtain ⟨f0, f1, f2, f3, f4, f5⟩ := hf it (by simp)
    refine wpAny_pyNext_tuple_item st (show s.heap.IsTuple a its.toArray from p) (x := u) (by simpa using hu) fun h' st' sb => ?_
    have I1 : Inv X pins σ H { s with heap := h' } := I.turned (t' := s.toks) (fun b o hb e => (sb.2 b hb).trans e) f0 f1 f3 f4 f5
    obtain ⟨o, e, c, d⟩ := id st'
    exact ⟨u, rfl, go_of (s := { s with heap := h' }) e c d (by decide) ⟨x, H, I1, ru, ⟨rfl, fun ys hy => by rw [I.tuple_inj hy hq]; exact hx⟩, st', fun b hb => (hf b hb).1⟩⟩
  done := by
    intro X hP hw hK hc i pins s σ H E I hf st hg
    subst hP hw hK
    obtain ⟨xs, hq, hx⟩ := hg
    obtain ⟨its, rv, p, hz⟩ := I.tuple hq
    obtain ⟨f0, f1, f2, f3, f4, f5⟩ := hf it (by simp)
    have hl := rv.length
    exact wpAny_pyNext_tuple_end (I.ok.hd hc) st (show s.heap.IsTuple a its.toArray from p) (by simp; omega) fun h' eb => ⟨rfl, I.turned (t' := s.toks) (fun b o hb e => eb b o hb e) f0 f1 f3 f4 f5⟩
  self := fun _ _ _ _ _ st h => wpAny_pyIter_tupleiter st h
theorem turn_range {P : Program} {w : World} {K : PySem.W.Frag} {tg : Expr} (it : Addr) (lo : Int) (n : Nat) : Turn P w K tg (Itr lo n) [it] it (fun i h => IsRangeIter h it (lo + (i : Nat) * 1) ((n : Int) - (i : Nat)) 1) where
  mem := by simp
  obj := fun i h st b hb => by
    have e : b = it := by simpa using hb
    subst e
    exact ⟨_, st, fun v z => by
      have z' : Data.fields _ = Data.cell v := z
      cases z'⟩
  keep := fun i h h' st k => k it (by simp) _ st
  item := by
    intro X hP hw hK hc i pins s σ H E I hf st hg
    subst hP hw hK
    obtain ⟨f0, f1, f2, f3, f4, f5⟩ := hf it (by simp)
    have W := Walks.range (prog := X.prog) (w := X.w) (I.ok.hd hc) it lo 1 n
    refine W.item i s _ _ hg st fun v h' tk hv st' kk => ?_
    obtain ⟨t, rfl⟩ := hv
    have I1 : Inv X pins σ H { s with heap := h', toks := tk } := I.turned (fun b o hb e => kk b o (by simpa using hb) e) f0 f1 f3 f4 f5
    refine ⟨_, rfl, go_of (s := { s with heap := h', toks := tk }) (n := "range_iterator") st' rfl rfl (by decide) ⟨.int (lo + i), H, I1, ⟨t, ?_⟩, ⟨rfl, rfl⟩, st', fun b hb => (hf b hb).1⟩⟩
    rw [Int.mul_one]
  done := by
    intro X hP hw hK hc i pins s σ H E I hf st hg
    subst hP hw hK
    obtain ⟨f0, f1, f2, f3, f4, f5⟩ := hf it (by simp)
    exact wpAny_pyNext_range_end (I.ok.hd hc) st (by have : n ≤ i := hg; omega) fun h' eb => ⟨rfl, I.turned (t' := s.toks) (fun b o hb e => eb b o hb e) f0 f1 f3 f4 f5⟩
  self := fun _ _ _ _ _ st h => wpAny_pyIter_rangeiter st h
end L2

namespace L2
open PySem PySem.Spec PyProof.Rows
section
variable {X : Cx} {tg : Expr}
def iList (K : PySem.W.Frag) (tl : TE) : TI := fun σ H R => tl σ H fun x H1 => ∃ a, x = .ref a ∧ (∃ xs, SqL K H1 a xs) ∧ R (Itl K a) H1
def iTup (K : PySem.W.Frag) (tl : TE) : TI := fun σ H R => tl σ H fun x H1 => ∃ a, x = .ref a ∧ (∃ xs, SqT K H1 a xs) ∧ R (Itt K a) H1
theorem pi_list {l : Expr} {tl : TE} (hl : PE X l tl) : PI X tg l (iList X.K tl) := by
  intro pins s σ H R I h
  refine thn (hl pins s σ H _ I h) fun v s1 ⟨x, H1, I1, r1, q1⟩ => ?_
  obtain ⟨a, e, ⟨xs, hq⟩, q⟩ := q1
  subst e
  cases r1
  obtain ⟨its, rv, p, hz⟩ := I1.list hq
  refine wpAny_pyIter_list p.isList ?_
  refine ⟨s1.heap.objs.size, [s1.heap.objs.size], _, _, H1, rfl, I1.kept (t' := s1.toks) fun b o e => Heap.get?_push_of_some _ e, turn_list a _, ⟨_, Heap.get?_push_size _ rfl, rfl, rfl⟩, fun b hb => ?_, q⟩
  have e : b = s1.heap.objs.size := by simpa using hb
  subst e
  exact I1.fpOk (Nat.le_refl _) (I1.hok.fresh (Nat.le_refl _))
theorem pi_tup {l : Expr} {tl : TE} (hl : PE X l tl) : PI X tg l (iTup X.K tl) := by
  intro pins s σ H R I h
  refine thn (hl pins s σ H _ I h) fun v s1 ⟨x, H1, I1, r1, q1⟩ => ?_
  obtain ⟨a, e, ⟨xs, hq⟩, q⟩ := q1
  subst e
  cases r1
  obtain ⟨its, rv, p, hz⟩ := I1.tuple hq
  refine wpAny_pyIter_tuple (show s1.heap.IsTuple a its.toArray from p) ?_
  refine ⟨s1.heap.objs.size, [s1.heap.objs.size], _, _, H1, rfl, I1.kept (t' := s1.toks) fun b o e => Heap.get?_push_of_some _ e, turn_tuple a _, ⟨_, Heap.get?_push_size _ rfl, rfl, rfl⟩, fun b hb => ?_, q⟩
  have e : b = s1.heap.objs.size := by simpa using hb
  subst e
  exact I1.fpOk (Nat.le_refl _) (I1.hok.fresh (Nat.le_refl _))
/-- a range object just made, walked -/
theorem range_it {pins : List (Addr × Obj)} {σ : St} {H : Hp} {s : Shared} {R : It → Hp → Prop} {E : Value → Shared → Prop} {lo hi : Int} {t u v : Tok} {tk : Nat} (I : Inv X pins σ H s) (h1 : -(2 ^ 62) ≤ lo) (h2 : lo < 2 ^ 62) (h3 : -(2 ^ 62) ≤ hi) (h4 : hi < 2 ^ 62)
    (q : R (Itr lo (hi - lo).toNat) H) : wpAny (model X.prog X.w) X.A (pyIter (.ref s.heap.objs.size)) (PIE X pins σ tg R) E { s with heap := s.heap.push { cls := .type "range", data := .fields #[.int lo t, .int hi u, .int 1 v] }, toks := tk } := by
  refine wpAny_pyIter_range (IsRange.new ..) (small_one h1 h2 h3 h4) ?_
  have I1 : Inv X pins σ H { s with heap := s.heap.push { cls := .type "range", data := .fields #[.int lo t, .int hi u, .int 1 v] }, toks := tk } := I.kept fun b o e => Heap.get?_push_of_some _ e
  refine ⟨(s.heap.push { cls := .type "range", data := .fields #[.int lo t, .int hi u, .int 1 v] }).objs.size, [(s.heap.push { cls := .type "range", data := .fields #[.int lo t, .int hi u, .int 1 v] }).objs.size], _, _, H, rfl,
    I1.kept (t' := tk) fun b o e => Heap.get?_push_of_some _ e, turn_range _ lo (hi - lo).toNat, ?_, fun b hb => ?_, q⟩
  · have e1 : lo + ((0 : Nat) : Int) * 1 = lo := by simp
    have e2 : (((hi - lo).toNat : Nat) : Int) - ((0 : Nat) : Int) = Builtin.Range.rangeSize lo hi 1 := by rw [rangeSize_one]; split <;> omega
    show IsRangeIter _ _ (lo + ((0 : Nat) : Int) * 1) ((((hi - lo).toNat : Nat) : Int) - ((0 : Nat) : Int)) 1
    rw [e1, e2]
    exact Heap.get?_push_size _ rfl
  · have e : b = (s.heap.push { cls := .type "range", data := .fields #[.int lo t, .int hi u, .int 1 v] }).objs.size := by simpa using hb
    subst e
    exact I1.fpOk (Nat.le_refl _) (I1.hok.fresh (Nat.le_refl _))
def iRng1 (ta : TA) : TI := fun σ H R => ta σ H fun vs H1 => ∃ j : Int, vs = [.int j] ∧ -(2 ^ 62) ≤ j ∧ j < 2 ^ 62 ∧ R (Itr 0 j.toNat) H1
def iRng2 (ta : TA) : TI := fun σ H R => ta σ H fun vs H1 => ∃ i j : Int, vs = [.int i, .int j] ∧ (-(2 ^ 62) ≤ i ∧ i < 2 ^ 62 ∧ -(2 ^ 62) ≤ j ∧ j < 2 ^ 62) ∧ R (Itr i (j - i).toNat) H1
theorem pi_range1 {a : Expr} {ta : TA} {p pos : Pos} (hg : Gl X "range") (hm : X.mg "range" = none) (ha : PA X [a] ta) (hs : starEach [a] X.env = [(false, eval a X.env)] := by rfl) : PI X tg (.Call (.Name "range" p) [a] [] pos) (iRng1 ta) := by
  intro pins s σ H R I h
  refine Call_ (ld_blt I hg hm boot_range (PyProof.Rows.callWith_type1 (thn (ha pos pins s σ H _ I h) fun us s1 ⟨vs, H1, I1, r1, q1⟩ => ?_) hs rfl))
  obtain ⟨j, e, q1, q2, q⟩ := q1
  subst e
  cases r1 with
  | cons r rr =>
    cases rr
    obtain ⟨t, rfl⟩ := r
    exact call_range_1 (range_it I1 (by omega) (by omega) q1 q2 (by simpa using q))
theorem pi_range2 {a b : Expr} {ta : TA} {p pos : Pos} (hg : Gl X "range") (hm : X.mg "range" = none) (ha : PA X [a, b] ta) (hs : starEach [a, b] X.env = [(false, eval a X.env), (false, eval b X.env)] := by rfl) (hs2 : starEach [b] X.env = [(false, eval b X.env)] := by rfl) :
    PI X tg (.Call (.Name "range" p) [a, b] [] pos) (iRng2 ta) := by
  intro pins s σ H R I h
  refine Call_ (ld_blt I hg hm boot_range (PyProof.Rows.callWith_type1 (thn (ha pos pins s σ H _ I h) fun us s1 ⟨vs, H1, I1, r1, q1⟩ => ?_) (by rw [hs, hs2]) (by rw [hs2]; rfl)))
  obtain ⟨i, j, e, ⟨q1, q2, q3, q4⟩, q⟩ := q1
  subst e
  cases r1 with
  | cons r rr =>
    cases rr with
    | cons r' rr =>
      cases rr
      obtain ⟨t, rfl⟩ := r
      obtain ⟨t', rfl⟩ := r'
      exact call_range_2 (range_it I1 q1 q2 q3 q4 q)

/-! ### for -/
/-- W: the invariant by the turn and a measure; N: what the body is to reach -/
def tFor (wi : TI) (g : TG) (tb : TS) : TS := fun D σ H => wi σ H fun J H1 => ∃ W : Nat → Nat → St → Hp → Prop, (∃ m, W 0 m σ H1) ∧ ∀ i m σ H, W i m σ H →
  (J.stop i H ∧ D.nx σ H) ∨ (J.go i H ∧ ∃ N : St → Hp → Prop, (∀ σ' H', N σ' H' → ∃ m', m' < m ∧ W (i + 1) m' σ' H') ∧ ∀ x H', J.yld i H x H' → g x σ H' fun σ2 H2 => tb { D with nx := N, ct := N, bk := D.nx } σ2 H2)
/-- the records at fp as they stand -/
def pinsAt (fp : List Addr) (h : Heap) : List (Addr × Obj) := fp.filterMap fun b => (h.get? b).map fun o => (b, o)
theorem mem_pinsAt {fp : List Addr} {h : Heap} {b : Addr} {o : Obj} (hb : b ∈ fp) (e : h.get? b = some o) : (b, o) ∈ pinsAt fp h := List.mem_filterMap.mpr ⟨b, hb, by rw [e]; rfl⟩
theorem of_pinsAt {fp : List Addr} {h : Heap} {p : Addr × Obj} (hp : p ∈ pinsAt fp h) : p.1 ∈ fp ∧ h.get? p.1 = some p.2 := by
  obtain ⟨b, hb, e⟩ := List.mem_filterMap.mp hp
  cases q : h.get? b with
  | none => rw [q] at e; cases e
  | some o =>
    rw [q] at e
    have e' : (b, o) = p := Option.some.inj e
    subst e'
    exact ⟨hb, q⟩
theorem Inv.pinned {pins : List (Addr × Obj)} {σ : St} {H : Hp} {s : Shared} {fp : List Addr} (I : Inv X pins σ H s) (hf : ∀ b ∈ fp, FpOk X pins H b) (ho : ∀ b ∈ fp, ∃ o, s.heap.get? b = some o ∧ ∀ v, o.data ≠ .cell v) : Inv X (pins ++ pinsAt fp s.heap) σ H s :=
  I.pins_of fun p hp => (List.mem_append.mp hp).elim (fun z => I.pin p (List.mem_append_right _ z)) fun z => by
    obtain ⟨hb, e⟩ := of_pinsAt z
    obtain ⟨f0, f1, f2, _⟩ := hf p.1 hb
    obtain ⟨o, e', d⟩ := ho p.1 hb
    rw [e] at e'; cases e'
    exact ⟨e, f0, f1, f2, d⟩
theorem Inv.unpinned {pins pl : List (Addr × Obj)} {σ : St} {H : Hp} {s : Shared} (I : Inv X (pins ++ pl) σ H s) : Inv X pins σ H s := I.pins_of fun p hp => I.pin p (List.mem_append_right _ (List.mem_append_left _ hp))
theorem ps_for {iter : Expr} {body : List Stmt} {wi : TI} {g : TG} {tb : TS} {pos : Pos} (hp : PassesOwn (model X.prog X.w) X.A X.env X.xe) (hc : X.calm = true) (hi : PI X tg iter wi) (hg : PG X tg g) (hb : PSs X body tb)
    (hs : ∀ x, foldedSetIterable iter X.env x = pure x := by intro _; rfl) : PS X (.For tg iter body [] pos) (tFor wi g tb) := by
  intro pins s σ H D I h
  refine wpAny_For (thn (hi pins s σ H _ I h) fun v s1 h1 => thn h1 fun itv s2 h2 => ?_) hs
  obtain ⟨it, fp, tn, J, H2, e, I2, T, st2, f2, W, ⟨m0, w0⟩, turn⟩ := h2
  subst e
  -- what stays true of the iterator's objects through the loop
  have stat : ∀ {H' : Hp}, (∀ b ∈ fp, H' b = none) → ∀ b ∈ fp, FpOk X pins H' b := fun hn b hb => ⟨hn b hb, (f2 b hb).2⟩
  refine codeAny_forLoop_any (fun n s' => ∃ i σ' H', Inv X pins σ' H' s' ∧ tn i s'.heap ∧ (∀ b ∈ fp, H' b = none) ∧ W i n σ' H') ?_ m0 ⟨0, σ, H2, I2, st2, fun b hb => (f2 b hb).1, w0⟩
  rintro n s3 ⟨i, σ3, H3, I3, st3, fr3, w3⟩
  rcases turn i n σ3 H3 w3 with ⟨stop, qn⟩ | ⟨go, N, hN, step⟩
  · refine wpAny_passesOwn hp (thn (T.done X rfl rfl rfl hc i pins s3 σ3 H3 X.xe I3 (stat fr3) st3 stop) fun r s4 ⟨hr, I4⟩ => ?_)
    subst hr
    exact wpAny_execs_nil ⟨σ3, H3, I4, qn⟩
  · refine wpAny_passesOwn hp (thn (T.item X rfl rfl rfl hc i pins s3 σ3 H3 X.xe I3 (stat fr3) st3 go) fun r s4 ⟨u, hr, h4⟩ => ?_)
    subst hr
    refine wpAny_passesOwn hp (thn h4 fun _ s5 ⟨x, H5, I5, r5, y5, st5, fr5⟩ => ?_)
    have I5' := I5.pinned (stat fr5) (T.obj _ _ st5)
    refine wpAny_passesOwn hp (thn (hg _ s5 σ3 H5 x u _ I5' r5 (step x H5 y5)) fun _ s6 ⟨σ6, H6, I6, q6⟩ => ?_)
    refine wpAny_passesOwn hp (thn (hb _ s6 σ6 H6 _ I6 q6) fun f s7 q7 => ?_)
    have again : ∀ {σ7 : St} {H7 : Hp}, Inv X (pins ++ pinsAt fp s5.heap) σ7 H7 s7 → N σ7 H7 → ∃ m, m < n ∧ ∃ i σ' H', Inv X pins σ' H' s7 ∧ tn i s7.heap ∧ (∀ b ∈ fp, H' b = none) ∧ W i m σ' H' := fun {σ7 H7} I7 n7 => by
      obtain ⟨m', hm, w7⟩ := hN σ7 H7 n7
      refine ⟨m', hm, i + 1, σ7, H7, I7.unpinned, T.keep _ _ _ st5 fun b hb o e => (I7.pin (b, o) (List.mem_append_right _ (List.mem_append_right _ (mem_pinsAt hb e)))).1, fun b hb => ?_, w7⟩
      obtain ⟨o, e, d⟩ := T.obj _ _ st5 b hb
      exact (I7.pin (b, o) (List.mem_append_right _ (List.mem_append_right _ (mem_pinsAt hb e)))).2.1
    cases f with
    | next => obtain ⟨σ7, H7, I7, n7⟩ := q7; exact again I7 n7
    | cont => obtain ⟨σ7, H7, I7, n7⟩ := q7; exact again I7 n7
    | brk => obtain ⟨σ7, H7, I7, q7⟩ := q7; exact ⟨σ7, H7, I7.unpinned, q7⟩
    | ret v => obtain ⟨x7, σ7, H7, I7, r7, q7⟩ := q7; exact ⟨x7, σ7, H7, I7.unpinned, r7, q7⟩
end

/-! ### the forms one uses -/
end L2

namespace L2
open PySem PySem.Spec PyProof.Rows

abbrev R2 := V → V → Hp → VK → Prop
/-- a two-place operation on values: f is binaryOp op, inplaceOp op or compareOp op -/
def OpR (X : Cx) (f : Value → Value → Sem Value) (r : R2) : Prop :=
  ∀ (pins : List (Addr × Obj)) (s : Shared) (σ : St) (H : Hp) (x y : V) (v u : Value) (Q : VK), Inv X pins σ H s → RelV x v → RelV y u → r x y H Q →
    wpAny (model X.prog X.w) X.A (f v u) (EP X pins σ Q) X.xe s
/-- a one-place operation -/
def UnR (X : Cx) (f : Value → Sem Value) (r : V → Hp → VK → Prop) : Prop :=
  ∀ (pins : List (Addr × Obj)) (s : Shared) (σ : St) (H : Hp) (x : V) (v : Value) (Q : VK), Inv X pins σ H s → RelV x v → r x H Q →
    wpAny (model X.prog X.w) X.A (f v) (EP X pins σ Q) X.xe s
/-- a call of a value that is known (a builtin, a type) with values -/
def CallR (X : Cx) (f : Value) (r : List V → Hp → VK → Prop) : Prop :=
  ∀ (pins : List (Addr × Obj)) (s : Shared) (σ : St) (H : Hp) (xs : List V) (us : List Value) (Q : VK), Inv X pins σ H s → Vals xs us → r xs H Q →
    wpAny (model X.prog X.w) X.A (call f us) (EP X pins σ Q) X.xe s
/-- a value's truth -/
def TruR (X : Cx) (r : V → Hp → (Bool → Hp → Prop) → Prop) : Prop :=
  ∀ (pins : List (Addr × Obj)) (s : Shared) (σ : St) (H : Hp) (x : V) (v : Value) (Q : Bool → Hp → Prop), Inv X pins σ H s → RelV x v → r x H Q →
    wpAny (model X.prog X.w) X.A (truthy v) (TP X pins σ Q) X.xe s

def tOp (r : R2) (ta tb : TE) : TE := fun σ H Q => ta σ H fun x H1 => tb σ H1 fun y H2 => r x y H2 Q
def tUn (r : V → Hp → VK → Prop) (ta : TE) : TE := fun σ H Q => ta σ H fun x H1 => r x H1 Q
/-- ints in, under C, and a value out -/
def rI (C : Int → Int → Prop) (g : Int → Int → V) : R2 := fun x y H Q => ∃ i j, x = .int i ∧ y = .int j ∧ C i j ∧ Q (g i j) H
def rI0 (g : Int → Int → V) : R2 := fun x y H Q => ∃ i j, x = .int i ∧ y = .int j ∧ Q (g i j) H
def rU (g : Int → V) : V → Hp → VK → Prop := fun x H Q => ∃ i, x = .int i ∧ Q (g i) H

section
variable {X : Cx} {a b c : Expr} {ta tb tc : TE} {pos : Pos}

theorem binT (ha : PE X a ta) (hb : PE X b tb) {pins : List (Addr × Obj)} {s : Shared} {σ : St} {H : Hp} {R : V → V → Hp → Prop} (I : Inv X pins σ H s)
    (h : ta σ H fun x H1 => tb σ H1 fun y H2 => R x y H2) {Q : Value → Shared → Prop} {f : Value → Value → Sem Value}
    (hf : ∀ v u s2 x y H2, Inv X pins σ H2 s2 → RelV x v → RelV y u → R x y H2 → wpAny (model X.prog X.w) X.A (f v u) Q X.xe s2) :
    wpAny (model X.prog X.w) X.A (eval a X.env) (fun v s₁ => wpAny (model X.prog X.w) X.A (eval b X.env) (fun u s₂ => wpAny (model X.prog X.w) X.A (f v u) Q X.xe s₂) X.xe s₁) X.xe s := by
  refine thn (ha pins s σ H _ I h) fun v s1 ⟨x, H1, I1, r1, q1⟩ => ?_
  refine thn (hb pins s1 σ H1 _ I1 q1) fun u s2 ⟨y, H2, I2, r2, q2⟩ => ?_
  exact hf v u s2 x y H2 I2 r1 r2 q2

theorem pe_op {op : Operator} {r : R2} (ho : OpR X (binaryOp op) r) (ha : PE X a ta) (hb : PE X b tb) : PE X (.BinOp a op b pos) (tOp r ta tb) := by
  intro pins s σ H Q I h
  exact wpAny_BinOp (binT ha hb I h fun v u s2 x y H2 I2 rx ry q => ho pins s2 σ H2 x y v u Q I2 rx ry q)
theorem pe_un {op : UnaryOp} {r : V → Hp → VK → Prop} (ho : UnR X (unaryOp op) r) (ha : PE X a ta) : PE X (.UnaryOp op a pos) (tUn r ta) := by
  intro pins s σ H Q I h
  exact UnaryOp_ (thn (ha pins s σ H _ I h) fun v s1 ⟨x, H1, I1, r1, q1⟩ => ho pins s1 σ H1 x v Q I1 r1 q1)
/-! ### ints -/
theorem opI {f : Value → Value → Sem Value} {C : Int → Int → Prop} {g : Int → Int → Int}
    (rule : ∀ (i j : Int) (t u : Tok) (s : Shared) (Q : Value → Shared → Prop) (E : Value → Shared → Prop), C i j → Q (.int (g i j) s.toks) { s with toks := s.toks + 1 } → wpAny (model X.prog X.w) X.A (f (.int i t) (.int j u)) Q E s) :
    OpR X f (rI C fun i j => .int (g i j)) := by
  intro pins s σ H x y v u Q I rx ry h
  obtain ⟨i, j, rfl, rfl, hc, q⟩ := h
  obtain ⟨t, rfl⟩ := rx
  obtain ⟨t', rfl⟩ := ry
  exact rule i j t t' s _ _ hc ⟨.int (g i j), H, I.tok _, ⟨_, rfl⟩, q⟩
theorem opI0 {f : Value → Value → Sem Value} {g : Int → Int → Int}
    (rule : ∀ (i j : Int) (t u : Tok) (s : Shared) (Q : Value → Shared → Prop) (E : Value → Shared → Prop), Q (.int (g i j) s.toks) { s with toks := s.toks + 1 } → wpAny (model X.prog X.w) X.A (f (.int i t) (.int j u)) Q E s) :
    OpR X f (rI0 fun i j => .int (g i j)) := by
  intro pins s σ H x y v u Q I rx ry h
  obtain ⟨i, j, rfl, rfl, q⟩ := h
  obtain ⟨t, rfl⟩ := rx
  obtain ⟨t', rfl⟩ := ry
  exact rule i j t t' s _ _ ⟨.int (g i j), H, I.tok _, ⟨_, rfl⟩, q⟩
theorem opB0 {f : Value → Value → Sem Value} {g : Int → Int → Bool}
    (rule : ∀ (i j : Int) (t u : Tok) (s : Shared) (Q : Value → Shared → Prop) (E : Value → Shared → Prop), Q (.bool (g i j)) s → wpAny (model X.prog X.w) X.A (f (.int i t) (.int j u)) Q E s) :
    OpR X f (rI0 fun i j => .bl (g i j)) := by
  intro pins s σ H x y v u Q I rx ry h
  obtain ⟨i, j, rfl, rfl, q⟩ := h
  obtain ⟨t, rfl⟩ := rx
  obtain ⟨t', rfl⟩ := ry
  exact rule i j t t' s _ _ ⟨.bl (g i j), H, I, rfl, q⟩

def CPow (i j : Int) : Prop := 0 ≤ j ∧ j ≤ 1000000 ∧ i.natAbs < 2 ^ 64
def CMul (i j : Int) : Prop := (-(2 ^ 64) < i ∧ i < 2 ^ 64) ∨ (-(2 ^ 64) < j ∧ j < 2 ^ 64)
theorem CMul.ok {i j : Int} (h : CMul i j) : IntMulOk i j := by
  rcases h with ⟨h1, h2⟩ | ⟨h1, h2⟩
  · exact .of_left (intBits_le_64 h1 h2)
  · exact .of_right (intBits_le_64 h1 h2)
theorem op_add : OpR X (binaryOp .Add) (rI0 fun i j => .int (i + j)) := opI0 fun _ _ _ _ _ _ _ q => add_int q
theorem op_sub : OpR X (binaryOp .Sub) (rI0 fun i j => .int (i - j)) := opI0 fun _ _ _ _ _ _ _ q => sub_int q
theorem op_mul : OpR X (binaryOp .Mult) (rI CMul fun i j => .int (i * j)) := opI fun _ _ _ _ _ _ _ hc q => mul_int q hc.ok
/-- % by a positive divisor of any size -/
theorem op_mod : OpR X (binaryOp .Mod) (rI (fun _ j => 0 < j) fun i j => .int (i % j)) := opI fun i j _ _ _ _ _ hc q => by
  have h1 : (0 : Int) < j := hc
  exact mod_int' (by omega) (by rw [Int.fmod_eq_emod_of_nonneg i (by omega)]; exact q)
theorem op_pow : OpR X (binaryOp .Pow) (rI CPow fun i j => .int (i ^ j.toNat)) := opI fun _ _ _ _ _ _ _ hc q => pow_int_small hc.1 hc.2.1 hc.2.2 q
theorem unI {f : Value → Sem Value} {g : Int → Int}
    (rule : ∀ (i : Int) (t : Tok) (s : Shared) (Q : Value → Shared → Prop) (E : Value → Shared → Prop), Q (.int (g i) s.toks) { s with toks := s.toks + 1 } → wpAny (model X.prog X.w) X.A (f (.int i t)) Q E s) :
    UnR X f (rU fun i => .int (g i)) := by
  intro pins s σ H x v Q I rx h
  obtain ⟨i, rfl, q⟩ := h
  obtain ⟨t, rfl⟩ := rx
  exact rule i t s _ _ ⟨.int (g i), H, I.tok _, ⟨_, rfl⟩, q⟩
theorem un_neg : UnR X (unaryOp .USub) (rU fun i => .int (-i)) := unI fun _ _ _ _ _ q => neg_int q
/-! ### bools among ints: n += (a < b) -/
end

/-! ### comparisons -/
section
variable {X : Cx} {a b c : Expr} {ta tb tc : TE} {pos : Pos}
theorem fin_bl {pins : List (Addr × Obj)} {σ : St} {H : Hp} {s : Shared} {Q : VK} {k k' : Bool} (I : Inv X pins σ H s) (q : Q (.bl k) H) (e : k = k') : EP X pins σ Q (.bool k') s := by
  subst e
  exact ⟨.bl k, H, I, rfl, q⟩
theorem op_lt : OpR X (compareOp .Lt) (rI0 fun i j => .bl (decide (i < j))) := opB0 fun _ _ _ _ _ _ _ q => lt_int q
theorem op_le : OpR X (compareOp .LtE) (rI0 fun i j => .bl (decide (i ≤ j))) := opB0 fun _ _ _ _ _ _ _ q => le_int q
theorem op_ge : OpR X (compareOp .GtE) (rI0 fun i j => .bl (decide (j ≤ i))) := opB0 fun _ _ _ _ _ _ _ q => ge_int q
/-- is None, is not None: the right side a value none -/
theorem op_isN : OpR X (compareOp .Is) (fun x y H Q => y = .non ∧ Q (.bl (decide (x = .non))) H) := by
  intro pins s σ H x y v u Q I rx ry h
  obtain ⟨rfl, q⟩ := h
  cases ry
  refine is_none_gen (fin_bl I q ?_)
  cases x <;> first
    | (cases rx; rfl)
    | (obtain ⟨t, rfl⟩ := rx; rfl)
/-- two rules for one operation: by cases -/
theorem OpR.or {f : Value → Value → Sem Value} {r r' : R2} (h : OpR X f r) (h' : OpR X f r') : OpR X f (fun x y H Q => r x y H Q ∨ r' x y H Q) := by
  intro pins s σ H x y v u Q I rx ry q
  rcases q with q | q
  · exact h pins s σ H x y v u Q I rx ry q
  · exact h' pins s σ H x y v u Q I rx ry q

theorem nomark (b : Expr) {op : CmpOp} (h : op ≠ .In := by decide) (h2 : op ≠ .NotIn := by decide) : behindInMarks op b = false := by
  have e1 : (op == CmpOp.In) = false := by cases op <;> first | rfl | exact absurd rfl h
  have e2 : (op == CmpOp.NotIn) = false := by cases op <;> first | rfl | exact absurd rfl h2
  cases b <;> simp [behindInMarks, e1, e2]
/-- a comparison as a value; hm: nomark b, or (for in, not in) by with_unfolding_all rfl -/
theorem pe_cmpR {op : CmpOp} {r : R2} (ho : OpR X (compareOp op) r) (ha : PE X a ta) (hb : PE X b tb) (hm : behindInMarks op b = false) : PE X (.Compare a [op] [b] pos) (tOp r ta tb) := by
  intro pins s σ H Q I h
  exact wpAny_Compare1 (binT ha hb I h fun v u s2 x y H2 I2 rx ry q => ho pins s2 σ H2 x y v u Q I2 rx ry q) hm
/-- a reading of a value as a test -/
def tTest (t : TE) : TT := fun σ H Q => t σ H fun x H' => ∃ k, x = .bl k ∧ Q k H'
theorem pt_cmpR {op : CmpOp} {r : R2} (ho : OpR X (compareOp op) r) (ha : PE X a ta) (hb : PE X b tb) (hm : behindInMarks op b = false) : PT X (.Compare a [op] [b] pos) (tTest (tOp r ta tb)) := by
  intro pins s σ H Q I h
  refine wpAny_isTrue_Compare1 (thn (ha pins s σ H _ I h) fun v s1 ⟨x, H1, I1, r1, q1⟩ => thn (hb pins s1 σ H1 _ I1 q1) fun u s2 ⟨y, H2, I2, r2, q2⟩ =>
    thn (ho pins s2 σ H2 x y v u _ I2 r1 r2 q2) fun c s3 ⟨z, H3, I3, r3, k, e, q3⟩ => ?_) hm
  subst e
  cases r3
  exact wpAny_truthy_bool ⟨H3, I3, q3⟩
/-- a op1 b op2 c -/
def tChain (r r' : R2) (ta tb tc : TE) : TE := fun σ H Q => ta σ H fun x H1 => tb σ H1 fun y H2 => r x y H2 fun z H3 => ∃ k, z = .bl k ∧
  (if k = true then tc σ H3 fun w' H4 => r' y w' H4 Q else Q (.bl false) H3)
theorem pt_chain {op op' : CmpOp} {r r' : R2} (ho : OpR X (compareOp op) r) (ho' : OpR X (compareOp op') r') (ha : PE X a ta) (hb : PE X b tb) (hc : PE X c tc)
    (hm : lastMarks [op, op'] [b, c] = false := by with_unfolding_all rfl) : PT X (.Compare a [op, op'] [b, c] pos) (tTest (tChain r r' ta tb tc)) := by
  intro pins s σ H Q I h
  refine isTrue_chain (thn (ha pins s σ H _ I h) fun v s1 ⟨x, H1, I1, r1, q1⟩ => test_link (thn (hb pins s1 σ H1 _ I1 q1) fun u s2 ⟨y, H2, I2, r2, q2⟩ =>
    thn (ho pins s2 σ H2 x y v u _ I2 r1 r2 q2) fun d s3 ⟨z, H3, I3, r3, k, e, q3⟩ => ?_)) hm
  subst e
  cases r3
  refine wpAny_truthy_bool ?_
  cases k with
  | false =>
    obtain ⟨k', e', q'⟩ := q3
    cases e'
    exact ite_ff ⟨H3, I3, q'⟩
  | true =>
    refine ite_tt (test_last (thn (hc pins s3 σ H3 _ I3 q3) fun w' s4 ⟨z', H4, I4, r4, q4⟩ => thn (ho' pins s4 σ H4 y z' u w' _ I4 r2 r4 q4) fun d' s5 ⟨z2, H5, I5, r5, k2, e2, q5⟩ => ?_))
    subst e2
    cases r5
    exact wpAny_truthy_bool ⟨H5, I5, q5⟩

/-! ### truth -/
/-- a value's truth by the abstract heap -/
def TruV (K : PySem.W.Frag) (x : V) (H : Hp) (k : Bool) : Prop :=
  match x with
  | .non => k = false
  | .bl b => k = b
  | .int i => k = (i != 0)
  | .str y => y.length ≤ sizeLine ∧ k = ((y.length : Int) != 0)
  | .byt y => y.size ≤ sizeLine ∧ k = ((y.size : Int) != 0)
  | .ref p => (∃ xs, SqL K H p xs ∧ k = !xs.isEmpty) ∨ (∃ xs, SqT K H p xs ∧ k = !xs.isEmpty) ∨ ∃ kvs, H p = some (.dK kvs) ∧ k = !kvs.isEmpty
  | _ => False
theorem isEmpty_kv {κ : Type} {kvs : List (κ × V)} {vs : List (κ × Value)} (r : KV kvs vs) : (!vs.isEmpty) = !kvs.isEmpty := by
  cases r <;> rfl
theorem isEmpty_of {xs : List V} {its : List Value} (r : Vals xs its) : (!its.toArray.isEmpty) = !xs.isEmpty := by
  cases r <;> simp
theorem line63 : (sizeLine : Nat) < 2 ^ 63 := by rw [sizeLine_eq]; decide
theorem tru_ok : TruR X (fun x H Q => ∃ k, TruV X.K x H k ∧ Q k H) := by
  intro pins s σ H x v Q I rx h
  obtain ⟨k, e, q⟩ := h
  have hl := line63
  have hs : sizeLine = 16777216 := sizeLine_eq
  cases x with
  | non =>
    cases rx
    have e' : k = false := e
    subst e'
    exact truthy_none ⟨H, I, q⟩
  | bl b =>
    cases rx
    have e' : k = b := e
    subst e'
    exact wpAny_truthy_bool ⟨H, I, q⟩
  | int i =>
    obtain ⟨t, rfl⟩ := rx
    have e' : k = (i != 0) := e
    subst e'
    exact PySem.P.truthy_int ⟨H, I, q⟩
  | str y =>
    obtain ⟨t, rfl⟩ := rx
    obtain ⟨hy, e'⟩ : y.length ≤ sizeLine ∧ k = ((y.length : Int) != 0) := e
    subst e'
    exact PySem.P.truthy_str (by omega) ⟨H, I.tok _, q⟩
  | byt y =>
    obtain ⟨t, rfl⟩ := rx
    obtain ⟨hy, e'⟩ : y.size ≤ sizeLine ∧ k = ((y.size : Int) != 0) := e
    subst e'
    exact PySem.W.truthy_bytes (by omega) ⟨H, I.tok _, q⟩
  | ref p =>
    cases rx
    have e' : (∃ xs, SqL X.K H p xs ∧ k = !xs.isEmpty) ∨ (∃ xs, SqT X.K H p xs ∧ k = !xs.isEmpty) ∨ ∃ kvs, H p = some (.dK kvs) ∧ k = !kvs.isEmpty := e
    rcases e' with ⟨xs, hx, e'⟩ | ⟨xs, hx, e'⟩ | ⟨kvs, hx, e'⟩
    · subst e'
      obtain ⟨its, r, pl, hz⟩ := I.list hx
      have hlen := r.length
      exact wpAny_truthy_list pl.isList (by simp only [List.size_toArray]; omega) ⟨H, I.tok _, by rw [isEmpty_of r]; exact q⟩
    · subst e'
      obtain ⟨its, r, pl, hz⟩ := I.tuple hx
      have hlen := r.length
      exact truthy_tuple pl (by simp only [List.size_toArray]; omega) ⟨H, I.tok _, by rw [isEmpty_of r]; exact q⟩
    · subst e'
      obtain ⟨hz, hS, vs, r, m⟩ : kvs.length ≤ sizeLine ∧ (p == sysModules) = false ∧ ∃ vs, KV kvs vs ∧ s.heap.DictOf (mixKind X.prog X.w) p vs := I.hok p _ hx
      have hlen : kvs.length = vs.length := Paired.length r
      exact wpAny_truthy_dict hS m (by omega) ⟨H, I.tok _, by rw [isEmpty_kv r]; exact q⟩
  | _ => exact (show False from e).elim
/-- any expression whose test is its value's truth (a name, a call, a subscript, a field ..: he by fun _ => rfl) -/
theorem pt_truth (ha : PE X a ta) (he : ∀ whole, isTrue a X.env whole = (do let v ← whole; standAt a.pos; holding [v] (truthy v))) :
    PT X a (fun σ H Q => ta σ H fun x H' => ∃ k, TruV X.K x H' k ∧ Q k H') := by
  intro pins s σ H Q I h
  exact isTrue_plain (thn (ha pins s σ H _ I h) fun v s1 ⟨x, H1, I1, r1, q1⟩ => tru_ok pins s1 σ H1 x v Q I1 r1 q1) (he _)

/-! ### strs and bytes -/
/-! ### scalar builtins, by CallR -/
theorem vals1 {x : V} {us : List Value} (r : Vals [x] us) : ∃ u, us = [u] ∧ RelV x u := by
  cases r with
  | cons r1 r2 => cases r2; exact ⟨_, rfl, r1⟩
theorem vals2 {x y : V} {us : List Value} (r : Vals [x, y] us) : ∃ u w', us = [u, w'] ∧ RelV x u ∧ RelV y w' := by
  cases r with
  | cons r1 r2 =>
    cases r2 with
    | cons r3 r4 => cases r4; exact ⟨_, _, rfl, r1, r3⟩
theorem call_abs : CallR X (.builtin "abs") (fun xs H Q => ∃ i, xs = [.int i] ∧ Q (.int (if i < 0 then -i else i)) H) := by
  intro pins s σ H xs us Q I r h
  obtain ⟨i, rfl, q⟩ := h
  obtain ⟨u, rfl, t, rfl⟩ := vals1 r
  exact call_abs_int fun u tk => ⟨.int (if i < 0 then -i else i), H, I.tok _, ⟨_, rfl⟩, q⟩
theorem call_max2 (hc : X.calm = true) : CallR X (.builtin "max") (fun xs H Q => ∃ i j, xs = [.int i, .int j] ∧ Q (.int (if j > i then j else i)) H) := by
  intro pins s σ H xs us Q I r h
  obtain ⟨i, j, rfl, q⟩ := h
  obtain ⟨u, w', rfl, ⟨t, rfl⟩, ⟨t', rfl⟩⟩ := vals2 r
  refine max_two_ints (I.ok.hd hc) fun h' tk k => ⟨_, H, I.kept k, ?_, q⟩
  by_cases hj : j > i
  · rw [if_pos hj, if_pos hj]; exact ⟨_, rfl⟩
  · rw [if_neg hj, if_neg hj]; exact ⟨_, rfl⟩
theorem call_min2 (hc : X.calm = true) : CallR X (.builtin "min") (fun xs H Q => ∃ i j, xs = [.int i, .int j] ∧ Q (.int (if j < i then j else i)) H) := by
  intro pins s σ H xs us Q I r h
  obtain ⟨i, j, rfl, q⟩ := h
  obtain ⟨u, w', rfl, ⟨t, rfl⟩, ⟨t', rfl⟩⟩ := vals2 r
  refine min_two_ints (I.ok.hd hc) fun h' tk k => ⟨_, H, I.kept k, ?_, q⟩
  by_cases hj : j < i
  · rw [if_pos hj, if_pos hj]; exact ⟨_, rfl⟩
  · rw [if_neg hj, if_neg hj]; exact ⟨_, rfl⟩
end
end L2

namespace L2
open PySem PySem.Spec PyProof.Rows

/-! ### an instance, its attributes a map -/
structure ObjM (h : Heap) (x dx C : Addr) (mA : Str → Option Value) : Prop where
  obj : h.get? x = some (PySem.W.instObj C dx)
  ns : h.Ns1 dx mA
  ne : dx ≠ x

theorem lookIn_ns {h : Heap} {dx : Addr} {mA : Str → Option Value} (n : h.Ns1 dx mA) : ∃ od, h.get? dx = some od ∧ ∀ name, PySem.W.lookIn name od = some (mA name) := by
  obtain ⟨o, es, ep, ho, hd, hk, _, hm⟩ := n
  refine ⟨o, ho, fun name => ?_⟩
  have e := hm name
  unfold nsFind findBy at e
  rw [← Array.find?_toList] at e
  unfold PySem.W.lookIn
  rw [hd]
  dsimp only
  split
  · rename_i y q
    rw [q] at e
    exact congrArg some e
  · rename_i q
    rw [q] at e
    have a : es.toList.any (·.refKey) = false := by
      rw [List.any_eq_false]
      intro y hy
      obtain ⟨z, t, hkey⟩ := hk y (Array.mem_toList_iff.mp hy)
      simp [DictEntry.refKey, hkey]
    have a' : ¬ es.toList.any (·.refKey) = true := by rw [a]; exact Bool.false_ne_true
    rw [if_neg a']
    exact congrArg some e

theorem ObjM.look {h : Heap} {x dx C : Addr} {mA : Str → Option Value} (I : ObjM h x dx C mA) : ∃ od, PySem.W.InstAt h x (PySem.W.instObj C dx) C (some od) ∧ ∀ name, PySem.W.lookIn name od = some (mA name) :=
  let ⟨od, ho, hl⟩ := lookIn_ns I.ns
  ⟨od, ⟨I.obj, rfl, rfl, ho⟩, hl⟩

section
variable {prog : Program} {w : World} {A : Around} {E : Value → Shared → Prop} {s : Shared} {K : PySem.W.Frag} {x dx C f : Addr} {mA : Str → Option Value} {name : Str} {v : Value}

end

/-! ### the attributes as a list of pairs -/
theorem RelO.none_of {o : Option Value} (r : RelO none o) : o = none := by
  cases o with
  | none => rfl
  | some u => exact (show False from r).elim
section
variable {P : Program} {w : World} {H H' : Hp} {h h' : Heap} {a C dx : Addr} {fs fs' : List (Str × V)}
end

/-! ### what of the text a class must have -/
structure Cls (K : PySem.W.Frag) (C : Addr) : Prop where
  pg : PySem.W.plainGet K C Str.empty = true
  hd : PySem.W.hasDictIn K C = true
  po : PySem.W.plainOver K C = true
  sa : PySem.W.findIn K (.ref C) "__setattr__" = some (some (.builtin "object.__setattr__"))
theorem Cls.get {K : PySem.W.Frag} {C : Addr} (c : Cls K C) (f : Str) : PySem.W.plainGet K C f = true := c.pg
section
variable {X : Cx} {pins : List (Addr × Obj)} {σ : St} {H : Hp} {s : Shared} {a C dx : Addr} {fs : List (Str × V)} {f : Str} {v : V} {A : Around} {E : Value → Shared → Prop}

/-- a new instance, tracked, without attributes -/
theorem Inv.made (I : Inv X pins σ H s) : Inv X pins σ (upd (upd H s.heap.objs.size (.own (s.heap.objs.size + 1))) (s.heap.objs.size + 1) (.ins C s.heap.objs.size []))
    { s with heap := (s.heap.push PySem.W.emptyDict).push (PySem.W.instObj C s.heap.objs.size) } := by
  have e1 : (s.heap.push PySem.W.emptyDict).get? s.heap.objs.size = some PySem.W.emptyDict := Heap.get?_push_size s.heap rfl
  have e2 : ((s.heap.push PySem.W.emptyDict).push (PySem.W.instObj C s.heap.objs.size)).get? (s.heap.objs.size + 1) = some (PySem.W.instObj C s.heap.objs.size) := by
    have := Heap.get?_push_size (s.heap.push PySem.W.emptyDict) (o := PySem.W.instObj C s.heap.objs.size) rfl
    rwa [Heap.size_push] at this
  have e3 : (s.heap.push PySem.W.emptyDict).Ns s.heap.objs.size (fun _ => none) := ⟨PySem.W.emptyDict, #[], _, e1, rfl, (fun e he => absurd he (by simp)), fun _ => rfl⟩
  have I1 := I.laid (a := s.heap.objs.size) (o := .own (s.heap.objs.size + 1)) (h' := s.heap.push PySem.W.emptyDict) (t' := s.toks) (fun b u q => Heap.get?_push_of_some _ q) (Nat.le_refl _) ⟨_, e1⟩
  refine I1.laid (a := s.heap.objs.size + 1) (o := .ins C s.heap.objs.size []) (t' := s.toks) (fun b u q => Heap.get?_push_of_some _ q) (Nat.le_of_eq (Heap.size_push _ _)) ?_
  have ne : s.heap.objs.size ≠ s.heap.objs.size + 1 := Nat.ne_of_lt (Nat.lt_succ_self _)
  refine ⟨by rw [upd_ne ne, upd_same], Nat.zero_le _, ne, e2, fun _ => none, (Heap.Ns1.of_empty e3).at fun o q => Heap.get?_push_of_some _ q, fun _ => True.intro, fun y hy => absurd rfl hy⟩

end

/-! ### readings and rules -/
section
variable {X : Cx} {o e value : Expr} {f : Str} {pos pos' tpos : Pos} {ta tv : TE}
end

/-! ### isinstance -/
section
variable {X : Cx} {pins : List (Addr × Obj)} {σ : St} {H : Hp} {s : Shared} {A : Around} {E : Value → Shared → Prop} {Q : Value → Shared → Prop} {c : Value} {b : Bool}
end
end L2

namespace L2
open PySem PySem.Spec PyProof.Rows

/-! ### room -/
structure Room (k : Nat) (A : Around) : Prop where
  hd : A.handled = none
  dp : A.depth + 3 * k + 5 < recursionLimit
  un : A.units + 16 * k + 200 < cLine
theorem Room.mono {j k : Nat} {A : Around} (r : Room k A) (h : j ≤ k) : Room j A := ⟨r.hd, by have := r.dp; omega, by have := r.un; omega⟩
theorem Room.deeper {k : Nat} {A : Around} (r : Room (k + 1) A) (env : Env) : Room k (A.deeper env) :=
  ⟨r.hd, by have := r.dp; show A.depth + 1 + 3 * k + 5 < _; omega, by have := r.un; show A.units + 3 + 16 * k + 200 < _; omega⟩
theorem Room.in1 {k : Nat} {A : Around} (r : Room (k + 1) A) : Room k A.in1 :=
  ⟨r.hd, by have := r.dp; show A.depth + 3 * k + 5 < _; omega, by have := r.un; show A.units + 1 + 16 * k + 200 < _; omega⟩
theorem Room.depth {k : Nat} {A : Around} (r : Room k A) : A.depth < recursionLimit := by have := r.dp; omega
theorem Room.units {k : Nat} {A : Around} (r : Room k A) : A.units + 64 < cLine := by have := r.un; omega
/-! ### argument lists and displays -/
def tNil : TA := fun _ H Q => Q [] H
def tCons (ta : TE) (tr : TA) : TA := fun σ H Q => ta σ H fun x H1 => tr σ H1 fun xs H2 => Q (x :: xs) H2
section
variable {X : Cx} {e : Expr} {es : List Expr} {te : TE} {t : TA} {pos : Pos}
theorem pa_nil : PA X [] tNil := fun _ _ _ _ H Q I h => Calls.spliced_nil ⟨[], H, I, .nil, h⟩
theorem pa_cons (ha : PE X e te) (hr : PA X es t) (hs : starEach (e :: es) X.env = (false, eval e X.env) :: starEach es X.env := by rfl) : PA X (e :: es) (tCons te t) := by
  intro pos pins s σ H Q I h
  rw [hs]
  show wpAny _ _ (spliced ((false, eval e X.env) :: backTo pos (starEach es X.env))) _ _ s
  refine Calls.spliced_cons (thn (ha pins s σ H _ I h) fun u s1 ⟨x, H1, I1, r1, q1⟩ => ?_)
  exact thn (hr pos pins s1 σ H1 _ I1 q1) fun us s2 ⟨xs, H2, I2, r2, q2⟩ => ⟨x :: xs, H2, I2, .cons r1 r2, q2⟩

/-- a tuple, a list of written items -/
def tTup (t : TA) : TE := fun σ H Q => t σ H fun xs H1 => xs.length ≤ sizeLine ∧ ∀ p, H1 p = none → Q (.ref p) (upd H1 p (.tup xs))
def tLst (t : TA) : TE := fun σ H Q => t σ H fun xs H1 => xs.length ≤ sizeLine ∧ ∀ p, H1 p = none → Q (.ref p) (upd H1 p (.lst xs))
theorem pe_tup {x1} (h : PA X es t) : PE X (.Tuple es x1 pos) (tTup t) := by
  intro pins s σ H Q I hq
  refine wpAny_Tuple_spliced (thn (h pos pins s σ H _ I hq) fun us s1 ⟨xs, H1, I1, r, z, q⟩ => ⟨by rw [← r.length]; exact z, ?_⟩)
  have hf : H1 s1.heap.objs.size = none := I1.hok.fresh (Nat.le_refl _)
  refine ⟨.ref s1.heap.objs.size, upd H1 s1.heap.objs.size (.tup xs), I1.laid (t' := s1.toks) (fun b u e => Heap.get?_push_of_some _ e) (Nat.le_refl _) ?_, rfl, q _ hf⟩
  exact ⟨z, us, r, ⟨_, Heap.get?_push_size _ rfl, rfl, rfl, _, rfl⟩⟩
theorem pe_lst (h : PA X es t) : PE X (.List es pos) (tLst t) := by
  intro pins s σ H Q I hq
  refine wpAny_List_spliced (thn (h pos pins s σ H _ I hq) fun us s1 ⟨xs, H1, I1, r, z, q⟩ => ⟨by rw [← r.length]; exact z, ?_⟩)
  have hf : H1 s1.heap.objs.size = none := I1.hok.fresh (Nat.le_refl _)
  refine ⟨.ref s1.heap.objs.size, upd H1 s1.heap.objs.size (.lst xs), I1.laid (t' := s1.toks) (fun b u e => Heap.get?_push_of_some _ e) (Nat.le_refl _) ?_, rfl, q _ hf⟩
  exact ⟨z, us, 0, r, Heap.get?_push_size _ rfl⟩
end

/-! ### what a def promises -/
/-- a def's promise: the bound arguments in the parameters' order, the heap, the wanted end, the wanted exception -/
abbrev Sp := List V → Hp → VK → XK → Prop
/-- how an exception lies behind a call (file 08 gives it): the callers' frames, abstract heap and state ahead of the call, the wish, the exception, the state -/
abbrev CXT := List Env → Hp → Shared → XK → Value → Shared → Prop

/-- the state at a call -/
structure Env0 (P : Program) (w : World) (K : PySem.W.Frag) (mg : Str → Option Value) (base : Heap) (A : Around) (outer : List Env) (s : Shared) (H : Hp) : Prop where
  frames : A.frames = some outer
  mod : Mod K mg base
  bs : ∀ b o, base.get? b = some o → s.heap.get? b = some o ∧ H b = none
  bsz : base.objs.size ≤ s.heap.objs.size
  funs : s.heap.FunFrames base outer
  frf : ∀ b ∈ frs outer, H b = none
  hok : HOk P w H s.heap
  bare : AllBare s.gens
/-- a call's end -/
def CE (outer : List Env) (P : Program) (w : World) (H : Hp) (s : Shared) (Q : VK) (u : Value) (s' : Shared) : Prop :=
  ∃ v H', s'.os = s.os ∧ AllBare s'.gens ∧ Un (frs outer) [] H H' s.heap s'.heap ∧ HOk P w H' s'.heap ∧ RelV v u ∧ Q v H'
def CR (CX : CXT) (outer : List Env) (P : Program) (w : World) (H : Hp) (s : Shared) (Q : VK) (E : XK) (r : Result) (s' : Shared) : Prop :=
  match r with
  | .ok (.ret u) => CE outer P w H s Q u s'
  | .ok _ => False
  | .error e => CX outer H s E e s'
structure FnOk (P : Program) (w : World) (K : PySem.W.Frag) (mg : Str → Option Value) (base : Heap) (CX : CXT) (k : Nat) (f : Addr) (fd : FuncData) (ps : List Str) (sp : Sp) : Prop where
  len : ∀ vs H Q E, sp vs H Q E → vs.length = ps.length
  run : ∀ (A : Around) (outer : List Env) (s : Shared) (H : Hp) (args : Args) (us : List Value) (vs : List V) (Q : VK) (E : XK), Room k A → Env0 P w K mg base A outer s H → BindsTo s fd args (ps.zip us) → Vals vs us → sp vs H Q E →
    codeAny (model P w) A (.call (.ref f) args) (CR CX outer P w H s Q E) s
theorem FnOk.mono {P : Program} {w : World} {K : PySem.W.Frag} {mg : Str → Option Value} {base : Heap} {CX : CXT} {j k : Nat} {f : Addr} {fd : FuncData} {ps : List Str} {sp : Sp} (F : FnOk P w K mg base CX j f fd ps sp) (h : j ≤ k) :
    FnOk P w K mg base CX k f fd ps sp := ⟨F.len, fun A outer s H args us vs Q E hr => F.run A outer s H args us vs Q E (hr.mono h)⟩
/-- a weaker promise -/
theorem FnOk.imp {P : Program} {w : World} {K : PySem.W.Frag} {mg : Str → Option Value} {base : Heap} {CX : CXT} {k : Nat} {f : Addr} {fd : FuncData} {ps : List Str} {sp sp' : Sp} (F : FnOk P w K mg base CX k f fd ps sp)
    (h : ∀ vs H Q E, sp' vs H Q E → sp vs H Q E) : FnOk P w K mg base CX k f fd ps sp' :=
  ⟨fun vs H Q E q => F.len vs H Q E (h _ _ _ _ q), fun A outer s H args us vs Q E hr he hb hv hs => F.run A outer s H args us vs Q E hr he hb hv (h _ _ _ _ hs)⟩

theorem Env0.in1 {P : Program} {w : World} {K : PySem.W.Frag} {mg : Str → Option Value} {base : Heap} {A : Around} {outer : List Env} {s : Shared} {H : Hp} (e : Env0 P w K mg base A outer s H) :
    Env0 P w K mg base A.in1 outer s H := ⟨e.frames, e.mod, e.bs, e.bsz, e.funs, e.frf, e.hok, e.bare⟩

section
variable {X : Cx} {pins : List (Addr × Obj)} {σ : St} {H : Hp} {s s' : Shared}
/-- from a body: what a callee wants -/
theorem Inv.env0 (I : Inv X pins σ H s) : Env0 X.prog X.w X.K X.mg X.base X.A X.stack s H :=
  ⟨I.ok.frames, I.ok.mod, I.bs, Nat.le_trans I.ok.bsz I.sz, I.stack, I.stkFree, I.hok, I.bare⟩
/-- behind a call -/
theorem Inv.after {Q : VK} {u : Value} (I : Inv X pins σ H s) (h : CE X.stack X.prog X.w H s Q u s') : EP X pins σ Q u s' := by
  obtain ⟨v, H', os, bare, un, hok, r, q⟩ := h
  obtain ⟨hh, g, d, t, os'⟩ := s'
  obtain rfl : os' = s.os := os
  exact ⟨v, H', I.call (h' := hh) (g' := g) (d' := d) (t' := t) (ch := []) un hok bare (fun b z => absurd z (by simp)), r, q⟩
end

/-! ### calls -/
/-- f(..): the written arguments, then the defaults dvs; E: what is wanted of an exception -/
def tCall (sp : Sp) (dvs : List V) (E : XK) (t : TA) : TE := fun σ H Q => t σ H fun vs H1 => sp (vs ++ dvs) H1 Q E
/-- how the parameters are bound: us the positional arguments, kw the keywords' values by name, ds the defaults that fill up -/
def Binds (K : PySem.W.Frag) (fd : FuncData) (ps : List Str) (ds : List Value) : Prop :=
  ∀ (s : Shared) (us : List Value), K.In s.heap → (us ++ ds).length = ps.length → BindsTo s fd ⟨us, []⟩ (ps.zip (us ++ ds))
/-- every parameter is given -/
theorem Binds.all {K : PySem.W.Frag} {fd : FuncData} {ps : List Str} (h : ∀ us : List Value, us.length = ps.length → bindArgs fd ⟨us, []⟩ = pure (ps.zip us)) : Binds K fd ps [] := fun s us _ hl => by
  rw [List.append_nil] at hl ⊢
  exact .of_eq (h us hl)

/-- an exception of a callee reaches what this body wants of exceptions -/
def Passes (CX : CXT) (X : Cx) (E : XK) : Prop := ∀ (pins : List (Addr × Obj)) (σ : St) (H : Hp) (s : Shared) (e : Value) (s' : Shared), Inv X pins σ H s → CX X.stack H s E e s' → X.xe e s'

section
variable {X : Cx} {CX : CXT} {k : Nat} {f C : Addr} {fd : FuncData} {ps : List Str} {sp : Sp} {dvs : List V} {ds : List Value} {E : XK} {x m : Str} {p pos apos : Pos} {e o : Expr} {es : List Expr} {ta : TE} {t : TA}

/-- the callee runs -/
theorem run_fn {pins : List (Addr × Obj)} {σ : St} {H : Hp} {s : Shared} {Q : VK} {us : List Value} {vs : List V} (F : FnOk X.prog X.w X.K X.mg X.base CX k f fd ps sp) (hr : Room k X.A) (hb : Binds X.K fd ps ds) (hd : Vals dvs ds) (hx : Passes CX X E)
    (I : Inv X pins σ H s) (r : Vals vs us) (h : sp (vs ++ dvs) H Q E) : wpAny (model X.prog X.w) X.A (call (.ref f) us) (EP X pins σ Q) X.xe s := by
  have r2 : Vals (vs ++ dvs) (us ++ ds) := r.append hd
  have hl : (us ++ ds).length = ps.length := by rw [← r2.length]; exact F.len _ _ _ _ h
  refine wpAny_call (codeAny_mono (F.run X.A X.stack s H ⟨us, []⟩ (us ++ ds) (vs ++ dvs) Q E hr I.env0 (hb s us I.kIn hl) r2 h) fun r s' hq => ?_)
  cases r with
  | error e => exact hx pins σ H s e s' I hq
  | ok fl =>
    cases fl with
    | ret u => exact I.after hq
    | next => exact False.elim hq
    | brk => exact False.elim hq
    | cont => exact False.elim hq

theorem pe_call (F : FnOk X.prog X.w X.K X.mg X.base CX k f fd ps sp) (hr : Room k X.A) (hg : Gl X x) (hm : X.mg x = some (.ref f)) (hk : PySem.W.keepIn X.K (.ref f) = true) (hb : Binds X.K fd ps ds) (hd : Vals dvs ds) (hx : Passes CX X E)
    (ha : PA X (e :: es) t) (hdb : (x == ("__debug__" : Str)) = false := by decide) (he : starEach (e :: es) X.env = (false, eval e X.env) :: starEach es X.env := by rfl) (hpl : (backTo pos (starEach es X.env)).any (·.1) = false := by rfl) :
    PE X (.Call (.Name x p) (e :: es) [] pos) (tCall sp dvs E t) := by
  intro pins s σ H Q I h
  refine wpAny_Call_Name_kw (ld_glob I hg hm ?_ hdb)
  refine PySem.W.callWith_K (h₀ := X.base) I.ok.mod.kin hk (thn (ha pos pins s σ H _ I h) fun us s1 ⟨vs, H1, I1, r, q⟩ => ⟨I1.kIn, ?_⟩) he hpl
  exact run_fn F hr hb hd hx I1 r q
end

/-! ### keywords -/
section
variable {X : Cx} {CX : CXT} {k : Nat} {f C : Addr} {fd : FuncData} {ps ks : List Str} {sp : Sp} {E : XK} {x m : Str} {p pos apos kpos : Pos} {e o : Expr} {es : List Expr} {kws : List Keyword} {te ta : TE} {t tk : TA} {nm : Option Str}
variable {g : List Value → List Value → List Value} {gV : List V → List V → List V}
end

/-! ### a def's body keeps its promise -/
/-- names: the parameters first -/
structure FnScope (N P : List Str) (sc : Scope) : Prop where
  kind : sc.kind = .function
  co : sc.isCoroutine = false
  gen : sc.isGenerator = false
  nd : N.Nodup
  pre : N.take P.length = P
  par : ∀ x ∈ P, sc.names.lookup x = some .local ∨ sc.names.lookup x = some .cell
  nofree : ∀ y ∈ sc.names, y.2 ≠ .free

theorem bindL_out {kindOf : Str → Option NameKind} {x : Str} : ∀ {binds : List (Str × Value)} {m : Str → Option Value}, (∀ v, (x, v) ∉ binds) → bindL kindOf binds m x = m x
  | [], _, _ => rfl
  | (n, v) :: r, m, h => by
    unfold bindL
    rw [bindL_out fun w hw => h w (List.mem_cons_of_mem _ hw)]
    split
    · have : x ≠ n := by rintro rfl; exact h v List.mem_cons_self
      simp [this]
    · rfl
theorem bindC_out {kindOf : Str → Option NameKind} {x : Str} : ∀ {binds : List (Str × Value)} {m : Str → Option Value}, (∀ v, (x, v) ∉ binds) → bindC kindOf binds m x = m x
  | [], _, _ => rfl
  | (n, v) :: r, m, h => by
    unfold bindC
    rw [bindC_out fun w hw => h w (List.mem_cons_of_mem _ hw)]
    split
    · rfl
    · have : x ≠ n := by rintro rfl; exact h v List.mem_cons_self
      simp [this]
theorem bindL_get {kindOf : Str → Option NameKind} {x : Str} {v : Value} : ∀ {P : List Str} {vs : List Value} {i : Nat} {m : Str → Option Value}, P.Nodup → P[i]? = some x → vs[i]? = some v → kindOf x = some .local →
    bindL kindOf (P.zip vs) m x = some v
  | [], _, _, _, _, h, _, _ => by simp at h
  | _ :: _, [], _, _, _, _, h, _ => by simp at h
  | p :: P, w :: vs, 0, m, nd, h1, h2, hk => by
    simp at h1 h2; subst h1; subst h2
    show bindL kindOf ((p, w) :: P.zip vs) m p = _
    unfold bindL
    rw [bindL_out fun v hv => (List.nodup_cons.mp nd).1 (List.of_mem_zip hv).1, if_pos hk]
    simp
  | p :: P, w :: vs, i + 1, m, nd, h1, h2, hk => by
    show bindL kindOf ((p, w) :: P.zip vs) m x = _
    unfold bindL
    exact bindL_get (i := i) (List.nodup_cons.mp nd).2 (by simpa using h1) (by simpa using h2) hk
theorem bindC_get {kindOf : Str → Option NameKind} {x : Str} {v : Value} : ∀ {P : List Str} {vs : List Value} {i : Nat} {m : Str → Option Value}, P.Nodup → P[i]? = some x → vs[i]? = some v → kindOf x ≠ some .local →
    bindC kindOf (P.zip vs) m x = some v
  | [], _, _, _, _, h, _, _ => by simp at h
  | _ :: _, [], _, _, _, _, h, _ => by simp at h
  | p :: P, w :: vs, 0, m, nd, h1, h2, hk => by
    simp at h1 h2; subst h1; subst h2
    show bindC kindOf ((p, w) :: P.zip vs) m p = _
    unfold bindC
    rw [bindC_out fun v hv => (List.nodup_cons.mp nd).1 (List.of_mem_zip hv).1, if_neg hk]
    simp
  | p :: P, w :: vs, i + 1, m, nd, h1, h2, hk => by
    show bindC kindOf ((p, w) :: P.zip vs) m x = _
    unfold bindC
    exact bindC_get (i := i) (List.nodup_cons.mp nd).2 (by simpa using h1) (by simpa using h2) hk

/-- the names' values at the entry -/
def start (N : List Str) (vs : List V) : St := vs.map some ++ List.replicate (N.length - vs.length) none

/-- the context of a def's body, at its entry; an exception leaves the frame, then lies as CX says -/
def cxOf (CX : CXT) (P : Program) (w : World) (K : PySem.W.Frag) (mg : Str → Option Value) (base : Heap) (N : List Str) (qual : Str) (scope : Scope) (f : Addr) (cd : Value) (A : Around) (outer : List Env) (s : Shared) (H : Hp) (E : XK) : Cx where
  prog := P
  w := w
  K := K
  mg := mg
  base := base
  A := A.deeper (envOfC qual scope s.heap.objs.size f cd)
  N := N
  s₀ := s
  H₀ := H
  env := envOfC qual scope s.heap.objs.size f cd
  outer := outer
  stack := envOfC qual scope s.heap.objs.size f cd :: outer
  ex := []
  calm := true
  fn := fun _ => true
  pn := []
  xe := fun e s' => wpAny (model P w) (A.deeper (envOfC qual scope s.heap.objs.size f cd)) (leaving (envOfC qual scope s.heap.objs.size f cd) e) (fun _ s'' => CX outer H s E e s'') (fun e' s'' => CX outer H s E e' s'') s'

theorem cell_has {sc : Scope} {n : Nat} {x : Str} (h : sc.names.lookup x = some .cell) : ∃ c, (cellsFrom n sc.names []).lookup x = some c := by
  have q := PySem.W.cellsFrom_some sc.names n [] (.inl h)
  exact Option.isSome_iff_exists.mp q

theorem inv_start {CX : CXT} {P : Program} {w : World} {K : PySem.W.Frag} {mg : Str → Option Value} {base : Heap} {N ps : List Str} {qual : Str} {scope : Scope} {f : Addr} {cd : Value} {A : Around} {outer : List Env} {s s1 : Shared} {H : Hp} {E : XK} {us : List Value} {vs : List V}
    (S : FnScope N ps scope) (hd : A.handled = none) (e0 : Env0 P w K mg base A outer s H) (hl : vs.length = ps.length) (r : Vals vs us)
    (x : InCallC s s.heap.objs.size (bindL (envOfC qual scope s.heap.objs.size f cd).kindOf (ps.zip us) fun _ => none) (cellsFrom (s.heap.objs.size + 1) scope.names []) (bindC (envOfC qual scope s.heap.objs.size f cd).kindOf (ps.zip us) fun _ => none) s1) :
    Inv (cxOf CX P w K mg base N qual scope f cd A outer s H E) [] (start N vs) H s1 := by
  have hpl : ps.length ≤ N.length := by have := congrArg List.length S.pre; rw [List.length_take] at this; omega
  obtain ⟨h1, tk, rfl, hk⟩ := x.done
  have noA : ∀ b : Addr, b ∉ (cxOf CX P w K mg base N qual scope f cd A outer s H E).ex := fun b z => absurd (show b ∈ ([] : List Addr) from z) (by simp)
  refine ⟨⟨e0.mod, S.kind, rfl, rfl, Nat.le_refl _, fun y z c h1 h2 => ?_, fun y hy => ?_, fun y c _ h => ?_, fun _ => hd, Around.frames_deeper e0.frames, .inr ⟨rfl, rfl⟩, fun b z => absurd z (noA b), e0.bs, e0.bsz, fun b _ _ => noA b, fun b z => absurd z (noA b), e0.funs, e0.frf⟩,
    rfl, e0.bare, Un.kept hk, ⟨_, x.toInCall.ns, fun i y v h1 h2 h3 => ?_⟩, fun y c h => ⟨_, x.cell y c h⟩, e0.hok.fresh (Nat.le_refl _), fun y c h => ?_, fun p hp => absurd (show p ∈ ([] : List (Addr × Obj)) from hp) (by simp), e0.hok.kept hk, ?_⟩
  · exact name_of_addr x.apart (PySem.mem_of_lookup h1) (PySem.mem_of_lookup h2)
  · have hy : scope.names.lookup y = some .cell ∨ scope.names.lookup y = some .free := hy
    rcases hy with hy | hy
    · exact cell_has hy
    · exact absurd rfl (S.nofree _ (PySem.mem_of_lookup hy))
  · exact Nat.le_of_lt (x.above y c (PySem.mem_of_lookup h))
  · have hi : i < vs.length := by
      unfold start at h2
      by_cases hi : i < vs.length
      · exact hi
      · rw [List.getElem?_append_right (by simpa using hi)] at h2
        rw [List.getElem?_replicate] at h2
        split at h2 <;> cases h2
    have ha : vs[i]? = some v := by
      unfold start at h2
      rw [List.getElem?_append_left (by simpa using hi), List.getElem?_map] at h2
      cases e : vs[i]? with
      | none => rw [e] at h2; cases h2
      | some a => rw [e] at h2; cases h2; rfl
    obtain ⟨u, hu, rv⟩ := r.get ha
    have hp : ps[i]? = some y := by
      rw [← S.pre, List.getElem?_take_of_lt (by omega)]; exact h1
    have ndP : ps.Nodup := by rw [← S.pre]; exact S.nd.sublist (List.take_sublist _ _)
    refine ⟨u, rv, ?_⟩
    rcases S.par y (List.mem_of_getElem? hp) with k | k
    · exact .inl ⟨k, bindL_get ndP hp hu k⟩
    · obtain ⟨c, e⟩ := cell_has (n := s.heap.objs.size + 1) k
      refine .inr ⟨.inl k, c, e, ?_⟩
      have q := x.cell y c e
      rw [bindC_get ndP hp hu (by show scope.names.lookup y ≠ _; rw [k]; decide)] at q
      exact q
  · exact e0.hok.fresh (Nat.le_of_lt (x.above y c (PySem.mem_of_lookup h)))
  · unfold start
    show _ = N.length
    rw [List.length_append, List.length_map, List.length_replicate]
    omega

/-- THE RULE: a def (or a method) of the text, by its body. The body's reading t is chosen for each entry; it is run at the parameters' values -/
theorem fn_of {CX : CXT} {P : Program} {w : World} {K : PySem.W.Frag} {mg : Str → Option Value} {base : Heap} {k : Nat} {f : Addr} {name qual : Str} {params : Arguments} {body : List Stmt} {scope : Scope} {dV kV doc pm cdv ct oc : Value} {an od : Option Addr}
    {osl : Array (Option Value)} {N ps : List Str} {sp : Sp} (lk : K.lookup f = some ⟨oc, od, .func (PySem.W.fnOf name qual params body scope dV kV doc pm an cdv ct), osl⟩) (hcd : PySem.W.codeIn K cdv qual = true) (S : FnScope N ps scope)
    (len : ∀ vs H Q E, sp vs H Q E → vs.length = ps.length)
    (hbody : ∀ (A : Around) (outer : List Env) (s : Shared) (H : Hp) (vs : List V) (Q : VK) (E : XK), Room k (A.deeper (envOfC qual scope s.heap.objs.size f cdv)) → sp vs H Q E →
      ∃ t, PSs (cxOf CX P w K mg base N qual scope f cdv A outer s H E) body t ∧ t { nx := fun _ H' => Q .non H', rt := Q } (start N vs) H) :
    FnOk P w K mg base CX (k + 1) f (PySem.W.fnOf name qual params body scope dV kV doc pm an cdv ct) ps sp := by
  refine ⟨len, fun A outer s H args us vs Q E hr e0 hb r hsp => ?_⟩
  have hl := len _ _ _ _ hsp
  have KX : K.In s.heap := e0.mod.kin.keeps fun b o e => (e0.bs b o e).1
  have lim : s.heap.NoLimit := e0.mod.nolimit.keeps fun b o e => (e0.bs b o e).1
  have hkind : ∀ y ∈ ps.zip us, scope.names.lookup y.1 = some .local ∨ (scope.names.lookup y.1 = some .cell ∧ ((cellsFrom (s.heap.objs.size + 1) scope.names []).lookup y.1).isSome = true) := fun ⟨n, v⟩ hy => by
    rcases S.par n (List.of_mem_zip hy).1 with q | q
    · exact .inl q
    · exact .inr ⟨q, PySem.W.cellsFrom_some _ _ _ (.inl q)⟩
  refine codeAny_call_function hr.depth (KX _ _ lk) rfl S.co S.gen rfl (PySem.W.codeRec_of KX hcd) (hb _ _ _ _ ?_)
  refine wpAny_newFunctionEnv_cells S.kind hkind fun env he s1 x => ?_
  subst he
  refine ⟨lim.keeps x.toInCall.keep, codeAny_func ?_⟩
  obtain ⟨t, ht, hq⟩ := hbody A outer s H vs Q E (hr.deeper _) hsp
  have I : Inv (cxOf CX P w K mg base N qual scope f cdv A outer s H E) [] (start N vs) H s1 := inv_start S hr.hd e0 hl r x
  refine wpAny_mono (ht [] s1 (start N vs) H _ I hq) (fun fl s' hs => ?_) fun e s' hs => hs
  have fin : ∀ {σ' : St} {H' : Hp} {v : V} {u : Value}, Inv (cxOf CX P w K mg base N qual scope f cdv A outer s H E) [] σ' H' s' → RelV v u → Q v H' → CE outer P w H s Q u s' :=
    fun {σ' H' v u} J rv q => ⟨v, H', J.os, J.bare, J.base, J.hok, rv, q⟩
  cases fl with
  | ret u =>
    obtain ⟨v, σ', H', J, rv, q⟩ := hs
    exact fin J rv q
  | next =>
    obtain ⟨σ', H', J, q⟩ := hs
    exact fin (v := V.non) (u := Value.none) J rfl q
  | brk =>
    obtain ⟨_, _, _, q⟩ := hs
    exact False.elim q
  | cont =>
    obtain ⟨_, _, _, q⟩ := hs
    exact False.elim q
end L2

namespace L2
open PySem PySem.Spec PyProof.Rows
section
variable {X : Cx} {x : Str} {p pos : Pos} {e : Expr} {es : List Expr} {t : TA} {id T : String} {r : List V → Hp → VK → Prop}

def tCB (r : List V → Hp → VK → Prop) (t : TA) : TE := fun σ H Q => t σ H fun vs H1 => r vs H1 Q
/-- f(e, ..), f a built-in function -/
theorem pe_callB (hc : CallR X (.builtin id) r) (hg : Gl X x) (hm : X.mg x = none) (hv : bootBuiltins x = some (.builtin id)) (ha : PA X (e :: es) t) (hn : x ≠ "__name__" := by decide) (hdb : (x == ("__debug__" : Str)) = false := by decide)
    (he : starEach (e :: es) X.env = (false, eval e X.env) :: starEach es X.env := by rfl) (hpl : (backTo pos (starEach es X.env)).any (·.1) = false := by rfl) : PE X (.Call (.Name x p) (e :: es) [] pos) (tCB r t) := by
  intro pins s σ H Q I h
  refine wpAny_Call_Name_kw (ld_blt I hg hm hv ?_ hn hdb)
  exact PyProof.Rows.callWith_builtin1 (thn (ha pos pins s σ H _ I h) fun us s1 ⟨vs, H1, I1, r1, q1⟩ => hc pins s1 σ H1 vs us Q I1 r1 q1) he hpl
/-- T(e, ..), T a built-in type -/
theorem pe_callTy (hc : CallR X (.type T) r) (hg : Gl X x) (hm : X.mg x = none) (hv : bootBuiltins x = some (.type T)) (ha : PA X (e :: es) t) (hn : x ≠ "__name__" := by decide) (hdb : (x == ("__debug__" : Str)) = false := by decide)
    (he : starEach (e :: es) X.env = (false, eval e X.env) :: starEach es X.env := by rfl) (hpl : (backTo pos (starEach es X.env)).any (·.1) = false := by rfl) : PE X (.Call (.Name x p) (e :: es) [] pos) (tCB r t) := by
  intro pins s σ H Q I h
  refine wpAny_Call_Name_kw (ld_blt I hg hm hv ?_ hn hdb)
  exact PyProof.Rows.callWith_type1 (thn (ha pos pins s σ H _ I h) fun us s1 ⟨vs, H1, I1, r1, q1⟩ => hc pins s1 σ H1 vs us Q I1 r1 q1) he hpl
end
end L2

namespace HT
open PySem PyProof.Rows

section
open PySem.SeqAt
open PySem.AutoSeq1 (wpAny_loadPart')
open PySem.MeetsSeq PySem.MeetsSeq2 PySem.MeetsSeq3

end

section
variable {prog : Program} {w : World} {A : Around} {E : Value → Shared → Prop} {s : Shared}

/-- t + u, t not empty -/
theorem cat_tup {t b : Addr} {vs ws : List Value} {Q : Value → Shared → Prop} (ht : IsTup s.heap t vs.toArray) (hb : IsTup s.heap b ws.toArray) (hv : vs ≠ [])
    (h1 : ws = [] → Q (.ref t) s) (h2 : ws ≠ [] → Q (.ref s.heap.objs.size) { s with heap := s.heap.push { cls := .type "tuple", data := .seq (vs ++ ws).toArray } })
    (hsz : vs.length + ws.length ≤ sizeLine) : wpAny (model prog w) A (binaryOp .Add (.ref t) (.ref b)) Q E s := by
  obtain ⟨⟨cls, dd, data, sl⟩, ho, hc, n, hd⟩ := id ht
  obtain ⟨⟨cls2, dd2, data2, sl2⟩, ho2, hc2, n2, hd2⟩ := id hb
  simp only at hc hd hc2 hd2
  subst hc hd hc2 hd2
  have e : vs.toArray ++ ws.toArray = (vs ++ ws).toArray := by simp
  by_cases hw : ws = []
  · exact concat_meets ⟨_, ho, rfl⟩ ⟨_, ho2, rfl⟩ noFill_tuple_add seq_tuple_add PySem.F.slot_tuple_add PySem.F.entry_tuple_add (PySem.F.args_tuple_add_2 _ _)
      (tuple_addW1 t b vs.toArray ws.toArray n n2 dd dd2 sl sl2 (by simpa using hv) (by simp [hw])) ⟨ho, ho2, h1 hw⟩
  · refine concat_meets ⟨_, ho, rfl⟩ ⟨_, ho2, rfl⟩ noFill_tuple_add seq_tuple_add PySem.F.slot_tuple_add PySem.F.entry_tuple_add (PySem.F.args_tuple_add_2 _ _)
      (tuple_addW2 t b vs.toArray ws.toArray n n2 dd dd2 sl sl2 (by simpa using hv) (by simpa using hw) (by rw [List.size_toArray, List.size_toArray]; exact hsz)) ⟨ho, ho2, ?_⟩
    rw [e]
    exact h2 hw

/-! ### t[a:b], not the whole -/
/-- a slice's bound as a place among n (d where it is left out) -/
def sIx (n d : Nat) : Option Int → Nat
  | none => d
  | some v => if v < 0 then (v + (n : Int)).toNat else min v.toNat n
theorem sIx_none (n d : Nat) : sIx n d none = d := rfl
theorem sIx_le (n d : Nat) (hd : d ≤ n) (o : Option Int) : sIx n d o ≤ n := by
  cases o with
  | none => exact hd
  | some v =>
    show (if v < 0 then (v + (n : Int)).toNat else min v.toNat n) ≤ n
    by_cases hv : v < 0
    · rw [if_pos hv]; omega
    · rw [if_neg hv]; exact Nat.min_le_right _ _
theorem clip_eq (v : Int) (n d : Nat) : (if v < 0 then max (v + (n : Int)) 0 else min v (n : Int)) = ((sIx n d (some v) : Nat) : Int) := by
  show (if v < 0 then max (v + (n : Int)) 0 else min v (n : Int)) = (((if v < 0 then (v + (n : Int)).toNat else min v.toNat n) : Nat) : Int)
  by_cases hv : v < 0
  · simp only [if_pos hv]; omega
  · simp only [if_neg hv]; omega
theorem adjust_gen (lo hi : Option Int) (n : Nat) : Builtin.Slice.sliceAdjust lo hi 1 (n : Int) = (((sIx n 0 lo : Nat) : Int), ((sIx n n hi : Nat) : Int)) := by
  have h1 : ¬ ((1 : Int) < 0) := by omega
  unfold Builtin.Slice.sliceAdjust
  simp only [h1, if_false]
  refine Prod.ext ?_ ?_
  · cases lo with
    | none => rfl
    | some v => exact clip_eq v n 0
  · cases hi with
    | none => rfl
    | some v => exact clip_eq v n n
theorem places_gen (i j : Nat) : Builtin.Slice.slicePlaces (i : Int) (j : Int) 1 = j - i := by
  unfold Builtin.Slice.slicePlaces
  have h1 : (1 : Int) > 0 := by omega
  simp only [h1, if_true, Int.ediv_one]
  split <;> omega
theorem slicePart_ {v : Value} {o : Option Int} {Q : Option Int → Shared → Prop} (p : IsPart v o) (h : Q o s) : wpAny (model prog w) A (Builtin.Slice.slicePartIndex v) Q E s := by
  cases p with
  | none => exact slicePart_none h
  | int i t => exact slicePart_int h
theorem sliceApplied_gen {sl : Addr} {vl vu : Value} {lo hi : Option Int} {n : Nat} {Q : Int × Int × Nat → Shared → Prop} (hs : s.heap.IsSliceOf sl vl vu .none) (pl : IsPart vl lo) (pu : IsPart vu hi)
    (h : Q (((sIx n 0 lo : Nat) : Int), 1, sIx n n hi - sIx n 0 lo) s) : wpAny (model prog w) A (Builtin.Slice.sliceApplied (.ref sl) (pure (n : Int))) Q E s := by
  obtain ⟨os, hos, hcs, hds⟩ := id hs
  unfold Builtin.Slice.sliceApplied Builtin.Slice.sliceFields
  refine wpAny_bind (wpAny_bind (wpAny_field hos hds (x := vl) rfl (wpAny_bind (wpAny_field hos hds (x := vu) rfl (wpAny_bind (wpAny_field hos hds (x := .none) rfl (wpAny_pure ?_)))))))
  refine wpAny_bind (slicePart_none ?_)
  show wpAny _ _ (if ((1 : Int) == 0) = true then _ else _) _ _ s
  rw [if_neg (by decide)]
  refine wpAny_bind (slicePart_ pl (wpAny_bind (slicePart_ pu (wpAny_bind (wpAny_pure ?_)))))
  show wpAny _ _ (match Builtin.Slice.sliceAdjust lo hi 1 (n : Int) with | (lo, hi) => pure (lo, (1 : Int), Builtin.Slice.slicePlaces lo hi 1)) _ _ s
  rw [adjust_gen lo hi n]
  show wpAny _ _ (pure (((sIx n 0 lo : Nat) : Int), (1 : Int), Builtin.Slice.slicePlaces ((sIx n 0 lo : Nat) : Int) ((sIx n n hi : Nat) : Int) 1)) _ _ s
  rw [places_gen]
  exact wpAny_pure h
theorem pick_gen (xs : Array Value) (i k : Nat) : ((List.range k).filterMap fun (m : Nat) => xs[((i : Int) + (m : Int) * 1).toNat]?).toArray = ((xs.toList.drop i).take k).toArray := by
  have e : (fun (m : Nat) => xs[((i : Int) + (m : Int) * 1).toNat]?) = fun m => xs[i + m]? := by
    funext m
    have : ((i : Int) + (m : Int) * 1).toNat = i + m := by omega
    rw [this]
  rw [e]
  have := pick_run xs i k
  rw [List.filterMap_map] at this
  have e2 : ((fun x => xs[x]?) ∘ fun x => i + x) = fun m => xs[i + m]? := rfl
  rw [e2] at this
  rw [this]

theorem getItem_tuple_cut {t sl : Addr} {items : Array Value} {vl vu : Value} {lo hi : Option Int} {Q : Value → Shared → Prop} (ht : IsTup s.heap t items) (hs : s.heap.IsSliceOf sl vl vu .none) (pl : IsPart vl lo) (pu : IsPart vu hi)
    (hw : ¬ (sIx items.size 0 lo = 0 ∧ sIx items.size items.size hi = items.size))
    (h : Q (.ref s.heap.objs.size) { s with heap := s.heap.push { cls := .type "tuple", data := .seq ((items.toList.drop (sIx items.size 0 lo)).take (sIx items.size items.size hi - sIx items.size 0 lo)).toArray } })
    (hsz : items.size ≤ sizeLine) : wpAny (model prog w) A (getItem (.ref t) (.ref sl)) Q E s := by
  have htake : sizeOk (.seq ((items.toList.drop (sIx items.size 0 lo)).take (sIx items.size items.size hi - sIx items.size 0 lo)).toArray) := by
    show ((items.toList.drop (sIx items.size 0 lo)).take (sIx items.size items.size hi - sIx items.size 0 lo)).toArray.size ≤ sizeLine
    rw [List.size_toArray, List.length_take, List.length_drop, Array.length_toList]
    omega
  have hj : sIx items.size items.size hi ≤ items.size := sIx_le _ _ (Nat.le_refl _) hi
  obtain ⟨os, hos, hcs, hds⟩ := id hs
  have hTs : s.TypeIs (.ref sl) "slice" := ⟨os, hos, hcs⟩
  unfold getItem
  try with_reducible refine wpAny_holding ?_
  first | refine wpAny_bind (wpAny_pure ?_) | skip
  refine wpAny_bind (wpAny_sequenceKey ht.typeIs (by decide) ?_)
  refine wpAny_bind (wpAny_callSpecial?_slot (name := Str.ofString "__getitem__") ht.typeIs PyProof.Rows.slot_tuple_getitem
    (wpAny_call_entry PyProof.Rows.slot_tuple_getitem ht.typeIs entry_tuple_getitem ?_ (args_tuple_getitem _ _)))
  show wpAny _ _ (Builtin.Tuple.tupleItemsOf (.ref t) >>= _) _ _ s
  refine wpAny_bind (tupleItemsOf_ ht ?_)
  refine wpAny_bind (wpAny_typeOf hTs ?_)
  rw [if_pos (by decide)]
  refine wpAny_bind (sliceApplied_gen hs pl pu ?_)
  have hno : ¬ ((((sIx items.size 0 lo : Nat) : Int) == 0 && (1 : Int) == 1 && (sIx items.size items.size hi - sIx items.size 0 lo) == items.size) = true) := by
    intro q
    rw [Bool.and_eq_true, Bool.and_eq_true] at q
    have q1 : ((sIx items.size 0 lo : Nat) : Int) = 0 := eq_of_beq q.1.1
    have q2 : sIx items.size items.size hi - sIx items.size 0 lo = items.size := eq_of_beq q.2
    exact hw ⟨by omega, by omega⟩
  show wpAny _ _ (if (((sIx items.size 0 lo : Nat) : Int) == 0 && (1 : Int) == 1 && (sIx items.size items.size hi - sIx items.size 0 lo) == items.size) = true then _ else _) _ _ s
  rw [if_neg hno, pick_gen]
  first
    | exact wpAny_bind (m := Builtin.Tuple.tupleExact _) (wpAny_newObj_type (wpAny_pure ⟨_, rfl, wpAny_pure h⟩) htake)
    | exact wpAny_bind (m := Builtin.Tuple.tupleExact _) (wpAny_newObj_type (wpAny_bind (wpAny_pure (wpAny_pure ⟨_, rfl, wpAny_pure h⟩))) htake)
    | exact wpAny_bind (wpAny_bind (m := Builtin.Tuple.tupleExact _) (wpAny_newObj_type (wpAny_pure (wpAny_pure ⟨_, rfl, wpAny_pure h⟩)) htake))
    | exact wpAny_bind (wpAny_bind (m := Builtin.Tuple.tupleExact _) (wpAny_newObj_type (wpAny_pure ⟨_, rfl, wpAny_pure h⟩) htake))
end
end HT

namespace L2
open PySem PySem.Spec PyProof.Rows

/-! ### the parts of a slice -/
abbrev TO := St → Hp → (Option Int → Hp → Prop) → Prop
/-- a slice's part (left out, or an int) -/
def PO (X : Cx) (e : Option Expr) (t : TO) : Prop :=
  ∀ (pins : List (Addr × Obj)) (s : Shared) (σ : St) (H : Hp) (Q : Option Int → Hp → Prop), Inv X pins σ H s → t σ H Q →
    wpAny (model X.prog X.w) X.A (evalPart e X.env) (fun u s' => ∃ o H', Inv X pins σ H' s' ∧ IsPart u o ∧ Q o H') X.xe s
def tNoPart : TO := fun _ H Q => Q none H
def tPart (t : TE) : TO := fun σ H Q => t σ H fun x H1 => ∃ i, x = .int i ∧ Q (some i) H1

section
variable {X : Cx} {e : Expr} {te : TE} {lo hi : Option Expr} {tl th : TO} {pos p2 : Pos}

theorem po_none : PO X none tNoPart := by
  intro pins s σ H Q I h
  rw [evalPart_none]
  exact wpAny_pure ⟨none, H, I, .none, h⟩
theorem po_some (h : PE X e te) : PO X (some e) (tPart te) := by
  intro pins s σ H Q I hw
  rw [evalPart_some]
  refine thn (h pins s σ H _ I hw) fun u s1 ⟨x, H1, I1, r1, q1⟩ => ?_
  obtain ⟨i, rfl, q⟩ := q1
  obtain ⟨t, rfl⟩ := r1
  exact ⟨some i, H1, I1, .int i t, q⟩

/-- what a slice of a value is, by values: the slice object stands at sl -/
def SlR (X : Cx) (r : V → Option Int → Option Int → Hp → VK → Prop) : Prop :=
  ∀ (pins : List (Addr × Obj)) (s : Shared) (σ : St) (H : Hp) (x : V) (v vl vu : Value) (lo hi : Option Int) (sl : Addr) (Q : VK), Inv X pins σ H s → RelV x v → s.heap.IsSliceOf sl vl vu .none → IsPart vl lo → IsPart vu hi → r x lo hi H Q →
    ∃ T id, typeLookup (.type T) "__getitem__" = pure (some (.builtin id)) ∧ s.TypeIs v T ∧ wpAny (model X.prog X.w) X.A (getItem v (.ref sl)) (EP X pins σ Q) X.xe s
theorem SlR.or {r r' : V → Option Int → Option Int → Hp → VK → Prop} (h : SlR X r) (h' : SlR X r') : SlR X (fun x lo hi H Q => r x lo hi H Q ∨ r' x lo hi H Q) := by
  intro pins s σ H x v vl vu lo hi sl Q I rx hs pl pu q
  rcases q with q | q
  · exact h pins s σ H x v vl vu lo hi sl Q I rx hs pl pu q
  · exact h' pins s σ H x v vl vu lo hi sl Q I rx hs pl pu q
def tSl (r : V → Option Int → Option Int → Hp → VK → Prop) (te : TE) (tl th : TO) : TE := fun σ H Q => te σ H fun x H1 => tl σ H1 fun l H2 => th σ H2 fun u H3 => r x l u H3 Q
/-- a[lo:hi], any a -/
theorem pe_slice {r : V → Option Int → Option Int → Hp → VK → Prop} (hr : SlR X r) (he : PE X e te) (hl : PO X lo tl) (hu : PO X hi th) : PE X (.Subscript e (.Slice lo hi none p2) pos) (tSl r te tl th) := by
  intro pins s σ H Q I h
  refine Subscript_ (thn (he pins s σ H _ I h) fun v s1 ⟨x, H1, I1, r1, q1⟩ => ?_)
  refine wpAny_Slice (thn (hl pins s1 σ H1 _ I1 q1) fun vl s2 ⟨l, H2, I2, pl, q2⟩ => thn (hu pins s2 σ H2 _ I2 q2) fun vu s3 ⟨u, H3, I3, pu, q3⟩ => ?_)
  rw [evalPart_none]
  refine wpAny_pure ?_
  have I4 : Inv X pins σ H3 { s3 with heap := s3.heap.push { cls := .type "slice", data := .fields #[vl, vu, .none] } } := I3.kept (t' := s3.toks) fun b ob q => Heap.get?_push_of_some _ q
  obtain ⟨T, id, hT, ht, hg⟩ := hr pins { s3 with heap := s3.heap.push { cls := .type "slice", data := .fields #[vl, vu, .none] } } σ H3 x v vl vu l u s3.heap.objs.size Q I4 r1 (Heap.IsSliceOf.new ..) pl pu q3
  show wpAny (model X.prog X.w) X.A (subscriptTail e (.Slice lo hi none p2) v (.ref s3.heap.objs.size)) (EP X pins σ Q) X.xe { s3 with heap := s3.heap.push { cls := .type "slice", data := .fields #[vl, vu, .none] } }
  exact tail_any (ops := [.ref s3.heap.objs.size, v]) ht hT hg (by with_unfolding_all rfl)

/-- the items of xs[lo:hi] -/
def cutV (xs : List V) (lo hi : Option Int) : List V := (xs.drop (HT.sIx xs.length 0 lo)).take (HT.sIx xs.length xs.length hi - HT.sIx xs.length 0 lo)
theorem cutV_length (xs : List V) (lo hi : Option Int) : (cutV xs lo hi).length ≤ xs.length := by
  unfold cutV
  rw [List.length_take, List.length_drop]
  omega
/-- t[lo:hi], not the whole of it (the whole would be t itself) -/
def rSlT (K : PySem.W.Frag) : V → Option Int → Option Int → Hp → VK → Prop := fun x lo hi H Q => ∃ a xs, x = .ref a ∧ SqT K H a xs ∧
  ¬ (HT.sIx xs.length 0 lo = 0 ∧ HT.sIx xs.length xs.length hi = xs.length) ∧ ∀ p, H p = none → Q (.ref p) (upd H p (.tup (cutV xs lo hi)))
theorem sl_tup : SlR X (rSlT X.K) := by
  intro pins s σ H x v vl vu lo hi sl Q I rx hs pl pu h
  obtain ⟨a, xs, rfl, hx, hw, q⟩ := h
  cases rx
  obtain ⟨its, r, ht, hz⟩ := I.tuple hx
  have hlen : its.toArray.size = xs.length := by rw [List.size_toArray]; exact r.length.symm
  refine ⟨"tuple", _, PyProof.Rows.slot_tuple_getitem.lookup, ht.typeIs, ?_⟩
  refine HT.getItem_tuple_cut ht hs pl pu (by rw [hlen]; exact hw) ?_ (by rw [hlen]; exact hz)
  rw [hlen]
  refine ⟨.ref s.heap.objs.size, _, I.laid (t' := s.toks) (o := .tup (cutV xs lo hi)) (fun b ob q => Heap.get?_push_of_some _ q) (Nat.le_refl _) ?_, rfl, q _ (I.hok.fresh (Nat.le_refl _))⟩
  exact ⟨Nat.le_trans (cutV_length xs lo hi) hz, _, (r.drop (HT.sIx xs.length 0 lo)).take (HT.sIx xs.length xs.length hi - HT.sIx xs.length 0 lo), IsTupX.new _ _⟩

/-! ### t < u, t + u -/
/-- t + u, t not empty: u empty gives t itself -/
def rCatT (K : PySem.W.Frag) : R2 := fun x y H Q => ∃ a b xs ys, x = .ref a ∧ y = .ref b ∧ SqT K H a xs ∧ SqT K H b ys ∧ xs ≠ [] ∧ xs.length + ys.length ≤ sizeLine ∧
  (ys = [] → Q (.ref a) H) ∧ (ys ≠ [] → ∀ p, H p = none → Q (.ref p) (upd H p (.tup (xs ++ ys))))
theorem Vals.nil_iff {xs : List V} {us : List Value} (r : Vals xs us) : us = [] ↔ xs = [] := by
  cases r with
  | nil => simp
  | cons _ _ => simp
theorem op_catT : OpR X (binaryOp .Add) (rCatT X.K) := by
  intro pins s σ H x y v u Q I rx ry h
  obtain ⟨a, b, xs, ys, rfl, rfl, ha, hb, hx, hz, q1, q2⟩ := h
  cases rx
  cases ry
  obtain ⟨its, r1, p1, _⟩ := I.tuple ha
  obtain ⟨its2, r2, p2, _⟩ := I.tuple hb
  refine HT.cat_tup p1 p2 (fun z => hx (r1.nil_iff.mp z)) (fun z => ⟨.ref a, H, I, rfl, q1 (r2.nil_iff.mp z)⟩) (fun z => ?_) (by rw [← r1.length, ← r2.length]; exact hz)
  refine ⟨.ref s.heap.objs.size, _, I.laid (t' := s.toks) (o := .tup (xs ++ ys)) (fun b ob q => Heap.get?_push_of_some _ q) (Nat.le_refl _) ?_, rfl, q2 (fun w => z (r2.nil_iff.mpr w)) _ (I.hok.fresh (Nat.le_refl _))⟩
  exact ⟨by rw [List.length_append]; exact hz, _, r1.append r2, IsTupX.new _ _⟩
end
end L2

namespace L2
open PySem PySem.Spec PyProof.Rows

/-! ### places -/
/-- the place that an index of any sign means -/
def ixN (n : Nat) (i : Int) : Option Nat := if 0 ≤ i then (if i < n then some i.toNat else none) else if -(n : Int) ≤ i then some (i + n).toNat else none
def atI {α : Type} (xs : List α) (i : Int) : Option α := (ixN xs.length i).bind fun j => xs[j]?
theorem ixN_seq {n : Nat} {i : Int} {j : Nat} (h : ixN n i = some j) : seqIndex? i n = some j ∧ j < n ∧ -(n : Int) ≤ i ∧ i < n := by
  unfold ixN at h
  by_cases h0 : 0 ≤ i
  · rw [if_pos h0] at h
    by_cases h1 : i < n
    · rw [if_pos h1] at h
      have e : i.toNat = j := Option.some.inj h
      exact ⟨by rw [seqIndex_of h0 h1, e], by omega, by omega, h1⟩
    · rw [if_neg h1] at h; cases h
  · rw [if_neg h0] at h
    by_cases h1 : -(n : Int) ≤ i
    · rw [if_pos h1] at h
      have e : (i + n).toNat = j := Option.some.inj h
      exact ⟨by rw [seqIndex_neg (by omega) h1, e], by omega, h1, by omega⟩
    · rw [if_neg h1] at h; cases h
theorem atI_get {α : Type} {xs : List α} {i : Int} {v : α} (h : atI xs i = some v) : ∃ j, seqIndex? i xs.length = some j ∧ xs[j]? = some v ∧ j < xs.length ∧ -(xs.length : Int) ≤ i ∧ i < xs.length := by
  unfold atI at h
  cases e : ixN xs.length i with
  | none => rw [e] at h; cases h
  | some j =>
    rw [e] at h
    obtain ⟨h1, h2, h3, h4⟩ := ixN_seq e
    exact ⟨j, h1, h, h2, h3, h4⟩
/-! ### what may be subscripted -/
/-- what stands as an index of a plain subscript -/
def PlainIx (b : Expr) : Prop := ∀ o i, subscripted b false o i = operate [o, i] (getItem o i)
/-- a subscript by values -/
def IxR (X : Cx) (r : R2) : Prop :=
  ∀ (value slice : Expr) (pins : List (Addr × Obj)) (s : Shared) (σ : St) (H : Hp) (x y : V) (v u : Value) (Q : VK), Inv X pins σ H s → RelV x v → RelV y u → r x y H Q →
    subscripted slice false v u = operate [v, u] (getItem v u) → wpAny (model X.prog X.w) X.A (subscriptTail value slice v u) (EP X pins σ Q) X.xe s
/-- a call of a builtin's method by values: the receiver, the arguments -/
def MtR (X : Cx) (id : String) (r : V → List V → Hp → VK → Prop) : Prop :=
  ∀ (pins : List (Addr × Obj)) (s : Shared) (σ : St) (H : Hp) (x : V) (xs : List V) (v : Value) (us : List Value) (Q : VK), Inv X pins σ H s → RelV x v → Vals xs us → r x xs H Q →
    wpAny (model X.prog X.w) X.A (call (.builtin id) (v :: us)) (EP X pins σ Q) X.xe s
section
variable {X : Cx} {a b : Expr} {ta tb : TE} {pos : Pos}
theorem IxR.or {r r' : R2} (h : IxR X r) (h' : IxR X r') : IxR X (fun x y H Q => r x y H Q ∨ r' x y H Q) := by
  intro value slice pins s σ H x y v u Q I rx ry q hs
  rcases q with q | q
  · exact h value slice pins s σ H x y v u Q I rx ry q hs
  · exact h' value slice pins s σ H x y v u Q I rx ry q hs
theorem MtR.or {id : String} {r r' : V → List V → Hp → VK → Prop} (h : MtR X id r) (h' : MtR X id r') : MtR X id (fun x xs H Q => r x xs H Q ∨ r' x xs H Q) := by
  intro pins s σ H x xs v us Q I rx rs q
  rcases q with q | q
  · exact h pins s σ H x xs v us Q I rx rs q
  · exact h' pins s σ H x xs v us Q I rx rs q
/-- a[b] -/
theorem pe_ix {r : R2} (hr : IxR X r) (ha : PE X a ta) (hb : PE X b tb) (hs : PlainIx b) : PE X (.Subscript a b pos) (tOp r ta tb) := by
  intro pins s σ H Q I h
  exact Subscript_ (binT ha hb I h fun v u s2 x y H2 I2 rx ry q => hr a b pins s2 σ H2 x y v u Q I2 rx ry q (hs _ _))

def rIxL (K : PySem.W.Frag) : R2 := fun x y H Q => ∃ p xs i v, x = .ref p ∧ y = .int i ∧ SqL K H p xs ∧ atI xs i = some v ∧ Q v H
def rIxT (K : PySem.W.Frag) : R2 := fun x y H Q => ∃ p xs i v, x = .ref p ∧ y = .int i ∧ SqT K H p xs ∧ atI xs i = some v ∧ Q v H
def rIxS : R2 := fun x y H Q => ∃ z i c, x = .str z ∧ y = .int i ∧ z.length ≤ sizeLine ∧ atI z.cps.toList i = some c ∧ Q (.str ⟨#[c]⟩) H
theorem ix_list : IxR X (rIxL X.K) := by
  intro value slice pins s σ H x y v u Q I rx ry h hs
  obtain ⟨p, xs, i, z, rfl, rfl, hq, he, q⟩ := h
  cases rx
  obtain ⟨t, rfl⟩ := ry
  obtain ⟨its, r, pl, hz⟩ := I.list hq
  obtain ⟨j, h1, h2, h3, h4, h5⟩ := atI_get he
  obtain ⟨w, ew, rw'⟩ := r.get h2
  have hl := r.length
  have hn := line63
  have fin : EP X pins σ Q w s := ⟨z, H, I, rw', q⟩
  by_cases h0 : 0 ≤ i
  · have hj : i.toNat = j := by
      rw [seqIndex_of h0 h5] at h1
      exact Option.some.inj h1
    exact item_listR pl.isList h0 (by omega) (by rw [hj]; simpa using ew) fin hs
  · have hj : (i + (its.toArray.size : Int)).toNat = j := by
      rw [seqIndex_neg (by omega) h4] at h1
      rw [List.size_toArray, ← hl]
      exact Option.some.inj h1
    exact subscriptTail_builtinR (x := w) pl.isList.typeIs slot_list_getitem.lookup
      (wpAny_getItem_list_neg (Q := fun r s' => r = w ∧ EP X pins σ Q r s') pl.isList (by omega) (by rw [List.size_toArray] <;> omega) (by omega) (by rw [hj]; simpa using ew) ⟨rfl, fin⟩) hs
theorem ix_tup : IxR X (rIxT X.K) := by
  intro value slice pins s σ H x y v u Q I rx ry h hs
  obtain ⟨p, xs, i, z, rfl, rfl, hq, he, q⟩ := h
  cases rx
  obtain ⟨t, rfl⟩ := ry
  obtain ⟨its, r, pl, hz⟩ := I.tuple hq
  obtain ⟨j, h1, h2, h3, h4, h5⟩ := atI_get he
  obtain ⟨w, ew, rw'⟩ := r.get h2
  have hl := r.length
  have hn := line63
  have fin : EP X pins σ Q w s := ⟨z, H, I, rw', q⟩
  exact subscriptTail_builtinR (x := w) pl.typeIs slot_tuple_getitem.lookup
    (getItem_tuple (j := j) (Q := fun r s' => r = w ∧ EP X pins σ Q r s') pl (by omega) (by omega) (by rw [List.size_toArray, ← hl]; exact h1) (by simpa using ew) ⟨rfl, fin⟩) hs
theorem ix_str : IxR X rIxS := by
  intro value slice pins s σ H x y v u Q I rx ry h hs
  obtain ⟨z, i, c, rfl, rfl, hz, he, q⟩ := h
  obtain ⟨t, rfl⟩ := rx
  obtain ⟨t', rfl⟩ := ry
  obtain ⟨j, h1, h2, h3, h4, h5⟩ := atI_get he
  have hl : z.cps.toList.length = z.length := by simp [Str.length]
  rw [hl] at h1 h4 h5
  have hn := line63
  exact tail_any (typeIs_str s z t) slot_str_getitem.lookup (getItem_str (c := c) (by
    have e1 : decide (i < -(2 ^ 63 : Int)) = false := decide_eq_false (by omega)
    have e2 : decide (i ≥ 2 ^ 63) = false := decide_eq_false (by omega)
    rw [e1, e2, Bool.or_false]) (by rw [h1]; simpa using h2) ⟨.str ⟨#[c]⟩, H, I.tok _, ⟨_, rfl⟩, q⟩) hs
/-- list, tuple or str -/
def rIx (K : PySem.W.Frag) : R2 := fun x y H Q => rIxL K x y H Q ∨ rIxT K x y H Q ∨ rIxS x y H Q
theorem ix_seq : IxR X (rIx X.K) := ix_list.or (ix_tup.or ix_str)

/-! ### xs[i] = v, any sign -/
/-- the list's object behind a store -/
theorem mapSeq_set (its : List Value) (n j : Nat) (u : Value) : Obj.mapSeq (·.setIfInBounds j u) { cls := .type "list", data := .seq its.toArray n } = { cls := .type "list", data := .seq (its.set j u).toArray n } := by
  simp [Obj.mapSeq]
theorem Inv.lst {pins : List (Addr × Obj)} {σ : St} {H : Hp} {s : Shared} {p : Addr} {xs : List V} (I : Inv X pins σ H s) (h : H p = some (.lst xs)) :
    ∃ (its : List Value) (n : Nat), Vals xs its ∧ s.heap.get? p = some { cls := .type "list", data := .seq its.toArray n } ∧ xs.length ≤ sizeLine := by
  obtain ⟨z, its, n, r, e⟩ := I.hok p _ h
  exact ⟨its, n, r, e, z⟩
/-- the list at p is written by an update of its object -/
theorem Inv.lstUpd {pins : List (Addr × Obj)} {σ : St} {H : Hp} {s : Shared} {p : Addr} {xs ys : List V} {its its' : List Value} {n n' : Nat} {f : Obj → Obj} (I : Inv X pins σ H s) (h : H p = some (.lst xs))
    (ho : s.heap.get? p = some { cls := .type "list", data := .seq its.toArray n }) (hf : f { cls := .type "list", data := .seq its.toArray n } = { cls := .type "list", data := .seq its'.toArray n' }) (r : Vals ys its') (hz : ys.length ≤ sizeLine) (t : Nat) :
    Inv X pins σ (upd H p (.lst ys)) { s with heap := s.heap.update p f, toks := t } := by
  have e : (s.heap.update p f).get? p = some { cls := .type "list", data := .seq its'.toArray n' } := by
    rw [Heap.get?_update_self f ho (by rw [hf] <;> rfl), hf]
  refine I.write (x := p) (e := p) (by rw [h]; trivial) (.inl rfl) (fun b u hb q => (Heap.get?_update_other _ _ (Ne.symm hb)).trans q) ⟨_, e⟩ ?_
  exact ⟨hz, its', n', r, e⟩
def rSetL : V → V → V → Hp → (Hp → Prop) → Prop := fun o i v H Q => ∃ p xs k j, o = .ref p ∧ i = .int k ∧ H p = some (.lst xs) ∧ ixN xs.length k = some j ∧ Q (upd H p (.lst (xs.set j v)))
theorem set_list : PSet X rSetL := by
  intro pins s σ H o i v ov iv u Q I ro ri rv h
  obtain ⟨p, xs, k, j, rfl, rfl, hp, hj, q⟩ := h
  cases ro
  obtain ⟨t, rfl⟩ := ri
  obtain ⟨its, n, r, ho, hz⟩ := I.lst hp
  obtain ⟨h1, h2, h3, h4⟩ := ixN_seq hj
  have hl := r.length
  have hn := line63
  have I' : Inv X pins σ (upd H p (.lst (xs.set j v))) { s with heap := s.heap.update p (Obj.mapSeq (·.setIfInBounds j u)) } :=
    I.lstUpd hp ho (mapSeq_set its n j u) (r.set rv j) (by rw [List.length_set]; exact hz) s.toks
  by_cases h0 : 0 ≤ k
  · have hk : k.toNat = j := by
      rw [seqIndex_of h0 h4] at h1
      exact Option.some.inj h1
    exact PySem.W.ki_setAt ho h0 (by omega) (by rw [List.size_toArray, ← hl]; exact h4) (by rw [hk]; exact ⟨_, I', q⟩)
  · have hk : (k + (its.toArray.size : Int)).toNat = j := by
      rw [seqIndex_neg (by omega) h3] at h1
      rw [List.size_toArray, ← hl]
      exact Option.some.inj h1
    exact PySem.W.ki_setBack ho (by omega) (by rw [List.size_toArray, ← hl]; exact h3) (by omega) (by rw [hk]; exact ⟨_, I', q⟩)

/-! ### slices -/
theorem slice_bounds (lo hi : Option Int) (n : Nat) : (sliceBounds lo hi none n).1 = ((HT.sIx n 0 lo : Nat) : Int) ∧ (sliceBounds lo hi none n).2.1 = ((HT.sIx n n hi : Nat) : Int) ∧ (sliceBounds lo hi none n).2.2 = 1 := by
  refine ⟨?_, ?_, rfl⟩
  · cases lo with
    | none => simp [sliceBounds, HT.sIx]
    | some i =>
      simp only [sliceBounds, HT.sIx, Option.getD_none, show (1 : Int) > 0 by decide, if_true]
      by_cases h : i < 0
      · simp only [h, if_true] <;> omega
      · simp only [h, if_false] <;> omega
  · cases hi with
    | none => simp [sliceBounds, HT.sIx]
    | some i =>
      simp only [sliceBounds, HT.sIx, Option.getD_none, show (1 : Int) > 0 by decide, if_true]
      by_cases h : i < 0
      · simp only [h, if_true] <;> omega
      · simp only [h, if_false] <;> omega
theorem slicePick_cut (its : List Value) (lo hi : Option Int) : slicePick its.toArray lo hi none = ((its.drop (HT.sIx its.length 0 lo)).take (HT.sIx its.length its.length hi - HT.sIx its.length 0 lo)).toArray := by
  obtain ⟨h1, h2, h3⟩ := slice_bounds lo hi its.toArray.size
  unfold slicePick
  rw [h1, h2, h3]
  simp only [sliceRange_one, pick_run, List.size_toArray] <;> rfl
/-- xs[lo:hi] of a list: a new list -/
def rSlL (K : PySem.W.Frag) : V → Option Int → Option Int → Hp → VK → Prop := fun x lo hi H Q => ∃ a xs, x = .ref a ∧ SqL K H a xs ∧ ∀ p, H p = none → Q (.ref p) (upd H p (.lst (cutV xs lo hi)))
theorem sl_list : SlR X (rSlL X.K) := by
  intro pins s σ H x v vl vu lo hi sl Q I rx hs pl pu h
  obtain ⟨a, xs, rfl, hx, q⟩ := h
  cases rx
  obtain ⟨its, r, ht, hz⟩ := I.list hx
  have hlen := r.length
  refine ⟨"list", _, slot_list_getitem.lookup, ht.isList.typeIs, ?_⟩
  refine wpAny_getItem_list_slice ht.isList hs pl pu .none (by simp) ?_ (by rw [List.size_toArray] <;> omega)
  rw [slicePick_cut, ← hlen]
  refine ⟨.ref s.heap.objs.size, _, I.laid (t' := s.toks) (o := .lst (cutV xs lo hi)) (fun b ob q => Heap.get?_push_of_some _ q) (Nat.le_refl _) ?_, rfl, q _ (I.hok.fresh (Nat.le_refl _))⟩
  exact ⟨Nat.le_trans (cutV_length xs lo hi) hz, _, 0, (r.drop (HT.sIx xs.length 0 lo)).take (HT.sIx xs.length xs.length hi - HT.sIx xs.length 0 lo), Heap.get?_push_size _ rfl⟩

/-! ### in, not in: flat items -/
/-! ### len, list(x), tuple(x) of any list or tuple that is read -/
theorem call_len_seq : CallR X (.builtin "len") (fun xs H Q => ∃ p ys, xs = [.ref p] ∧ (SqL X.K H p ys ∨ SqT X.K H p ys) ∧ Q (.int ys.length) H) := by
  intro pins s σ H xs us Q I r h
  obtain ⟨p, ys, rfl, hq, q⟩ := h
  obtain ⟨u, rfl, rx⟩ := vals1 r
  cases rx
  have hn := line63
  rcases hq with hq | hq
  · obtain ⟨its, r', pl, hz⟩ := I.list hq
    have hlen := r'.length
    exact Calls.call_len_list pl.isList (by simp only [List.size_toArray] <;> omega) ⟨.int ys.length, H, I.tok _, ⟨s.toks + 1, by rw [List.size_toArray, hlen]⟩, q⟩
  · obtain ⟨its, r', pl, hz⟩ := I.tuple hq
    have hlen := r'.length
    exact len_tuple pl (by simp only [List.size_toArray] <;> omega) ⟨.int ys.length, H, I.tok _, ⟨s.toks + 1, by rw [List.size_toArray, hlen]⟩, q⟩
theorem CallR.or {f : Value} {r r' : List V → Hp → VK → Prop} (h : CallR X f r) (h' : CallR X f r') : CallR X f (fun xs H Q => r xs H Q ∨ r' xs H Q) := by
  intro pins s σ H xs us Q I rs q
  rcases q with q | q
  · exact h pins s σ H xs us Q I rs q
  · exact h' pins s σ H xs us Q I rs q
theorem call_list_of : CallR X (.type "list") (fun xs H Q => ∃ p ys, xs = [.ref p] ∧ (SqL X.K H p ys ∨ SqT X.K H p ys) ∧ ∀ l, H l = none → Q (.ref l) (upd H l (.lst ys))) := by
  intro pins s σ H xs us Q I r h
  obtain ⟨p, ys, rfl, hq, q⟩ := h
  obtain ⟨u, rfl, rx⟩ := vals1 r
  cases rx
  have fin : ∀ (its : List Value), Vals ys its → ys.length ≤ sizeLine → ∀ (h' : Heap) (c' : Nat), (∀ b o', s.heap.get? b = some o' → h'.get? b = some o') →
      h'.get? s.heap.objs.size = some { cls := .type "list", dict := none, data := .seq its.toArray c', slots := #[] } → EP X pins σ Q (.ref s.heap.objs.size) { s with heap := h' } := fun its r' hz h' c' kp e =>
    ⟨.ref s.heap.objs.size, _, I.laid (t' := s.toks) kp (Nat.le_refl _) (show ObjOk X.prog X.w _ h' _ (.lst ys) from ⟨hz, its, c', r', e⟩), rfl, q _ (I.hok.fresh (Nat.le_refl _))⟩
  rcases hq with hq | hq
  · obtain ⟨its, r', pl, hz⟩ := I.list hq
    have hlen := r'.length
    obtain ⟨o, ho, hc, n, hd⟩ := pl.isList
    exact call_list_seq p (.inl rfl) ho hc hd (fun h' c' kp e => fin its r' hz h' c' kp e) (by simp only [List.size_toArray] <;> omega)
  · obtain ⟨its, r', pl, hz⟩ := I.tuple hq
    have hlen := r'.length
    obtain ⟨o, ho, hc, n, hd⟩ := pl
    exact call_list_seq p (.inr rfl) ho hc hd (fun h' c' kp e => fin its r' hz h' c' kp e) (by simp only [List.size_toArray] <;> omega)
theorem call_tuple_of : CallR X (.type "tuple") (fun xs H Q => ∃ p ys, xs = [.ref p] ∧ ((SqL X.K H p ys ∧ ∀ l, H l = none → Q (.ref l) (upd H l (.tup ys))) ∨ (SqT X.K H p ys ∧ Q (.ref p) H))) := by
  intro pins s σ H xs us Q I r h
  obtain ⟨p, ys, rfl, h⟩ := h
  obtain ⟨u, rfl, rx⟩ := vals1 r
  cases rx
  rcases h with ⟨hq, q⟩ | ⟨hq, q⟩
  · obtain ⟨its, r', pl, hz⟩ := I.list hq
    have hlen := r'.length
    refine call_tuple_list pl.isList (fun h' kp => ?_) (by simp only [List.size_toArray] <;> omega)
    have I1 : Inv X pins σ H { s with heap := h' } := I.kept (t' := s.toks) kp
    have I2 : Inv X pins σ (upd H h'.objs.size (.tup ys)) { s with heap := h'.push { cls := .type "tuple", data := .seq its.toArray } } :=
      I1.laid (t' := s.toks) (fun b o e => Heap.get?_push_of_some _ e) (Nat.le_refl _) (show ObjOk X.prog X.w _ _ _ (.tup ys) from ⟨hz, its, r', IsTupX.new _ _⟩)
    exact ⟨.ref h'.objs.size, _, I2, rfl, q _ (I1.hok.fresh (Nat.le_refl _))⟩
  · obtain ⟨its, r', pl, hz⟩ := I.tuple hq
    exact call_tuple_same pl ⟨.ref p, H, I, rfl, q⟩

/-! ### the call of a builtin's method: o.m(..) -/
/-- the value is of that builtin type -/
def tyV (K : PySem.W.Frag) (T : String) (x : V) (H : Hp) : Prop := match x with
  | .str _ => T = "str"
  | .int _ => T = "int"
  | .ref p => (T = "list" ∧ ∃ xs, SqL K H p xs) ∨ (T = "tuple" ∧ ∃ o, K.lookup p = some o ∧ o.cls = .type "tuple" ∧ o.dict = none) ∨
      (T = "dict" ∧ ((∃ kvs, H p = some (.dK kvs)) ∨ ∃ kvs, H p = some (.dT kvs))) ∨ (T = "set" ∧ ∃ S n, H p = some (.set S n))
  | _ => False
theorem tyV_is {pins : List (Addr × Obj)} {σ : St} {H : Hp} {s : Shared} {T : String} {x : V} {v : Value} (I : Inv X pins σ H s) (r : RelV x v) (ty : tyV X.K T x H) :
    s.TypeIs v T ∧ ∀ a, v = .ref a → ∃ ob, s.heap.get? a = some ob ∧ ob.dict = none := by
  cases x with
  | str z =>
    obtain ⟨t, rfl⟩ := r
    cases (show T = "str" from ty)
    exact ⟨typeIs_str s z t, fun _ e => nomatch e⟩
  | int i =>
    obtain ⟨t, rfl⟩ := r
    cases (show T = "int" from ty)
    exact ⟨typeIs_int s i t, fun _ e => nomatch e⟩
  | ref p =>
    cases r
    rcases ty with ⟨rfl, xs, hq⟩ | ⟨rfl, o, hk, hc, hd⟩ | ⟨rfl, hk⟩ | ⟨rfl, S, n, hk⟩
    · obtain ⟨its, _, pl, _⟩ := I.list hq
      refine ⟨pl.isList.typeIs, fun a e => ?_⟩
      cases e
      obtain ⟨o, n, e, c, hd, _⟩ := pl
      exact ⟨o, e, hd⟩
    · refine ⟨⟨o, I.kIn p o hk, hc⟩, fun a e => ?_⟩
      cases e
      exact ⟨o, I.kIn _ o hk, hd⟩
    · have z : ∃ o, s.heap.get? p = some o ∧ o.ExactDict := by
        rcases hk with ⟨kvs, hk⟩ | ⟨kvs, hk⟩
        · obtain ⟨_, _, _, _, o, _, _, e, ex, _⟩ := I.hok p _ hk
          exact ⟨o, e, ex⟩
        · obtain ⟨_, _, _, _, o, _, _, e, ex, _⟩ := I.hok p _ hk
          exact ⟨o, e, ex⟩
      obtain ⟨o, e, ex⟩ := z
      refine ⟨⟨o, e, ex.1⟩, fun a e2 => ?_⟩
      cases e2
      exact ⟨o, e, ex.2.1⟩
    · obtain ⟨o, _, _, _, e, ex, _⟩ := I.hok p _ hk
      refine ⟨⟨o, e, ex.1⟩, fun a e2 => ?_⟩
      cases e2
      exact ⟨o, e, ex.2.1⟩
  | _ => exact False.elim ty
def tBM (K : PySem.W.Frag) (T : String) (r : V → List V → Hp → VK → Prop) (to : TE) (t : TA) : TE := fun σ H Q => to σ H fun x H1 => tyV K T x H1 ∧ t σ H1 fun xs H2 => r x xs H2 Q
variable {o e : Expr} {es : List Expr} {to : TE} {t : TA} {name : Str} {apos cpos : Pos} {T id : String} {r : V → List V → Hp → VK → Prop}
theorem pe_bm (pa : PlainAttrs T) (slot : Slot T name id) (hty : typeOf (.builtin id) = pure (.type "method_descriptor")) (hm : MtR X id r) (ho : PE X o to) (ha : PA X (e :: es) t)
    (hbase : attributeBase o name X.env (eval o X.env) = eval o X.env := by rfl)
    (hfew : ((backTo cpos (starEach (e :: es) X.env)).all (fun x => !x.1) && (backToKw cpos (keywordEach [] X.env)).all (fun x => x.1.isSome)
      && decide ((e :: es).length + ([] : List Keyword).length + (if ([] : List Keyword).isEmpty then 0 else 1) < 30)) = true := by rfl)
    (hline : (apos.endLine == cpos.line) = true := by rfl) (hs : starEach (e :: es) X.env = (false, eval e X.env) :: starEach es X.env := by rfl) (hplain : (backTo cpos (starEach es X.env)).any (·.1) = false := by rfl) :
    PE X (.Call (.Attribute o name apos) (e :: es) [] cpos) (tBM X.K T r to t) := by
  intro pins s σ H Q I h
  refine wpAny_Call_method_late hbase hfew hline rfl (thn (ho pins s σ H _ I h) fun v s1 ⟨x, H1, I1, r1, ty, q1⟩ => ?_)
  obtain ⟨h1, h2⟩ := tyV_is I1 r1 ty
  refine ⟨T, id, pa, slot, hty, h1, h2, ?_⟩
  have hA := ha cpos pins s1 σ H1 _ I1 q1
  rw [hs] at hA ⊢
  refine Calls.callWith_builtin (by show (false || (backTo cpos (starEach es X.env)).any (·.1)) = false; rw [hplain] <;> rfl) (Calls.evalArgs_plain ?_)
  exact thn hA fun us s2 ⟨vs, H2, I2, r2, q2⟩ => hm pins s2 σ H2 x vs v us Q I2 r1 r2 q2
/- xs.append(e), list.index on a module's tuple .. are MtR facts of 06m -/
end
end L2

namespace L2
open PySem PySem.Spec PyProof.Rows

def MtM (X : Cx) (id : String) (r : V → List V → Hp → VK → Prop) : Prop :=
  ∀ (pins : List (Addr × Obj)) (s : Shared) (σ : St) (H : Hp) (x : V) (xs : List V) (v : Value) (us : List Value) (Q : VK), Inv X pins σ H s → RelV x v → Vals xs us → r x xs H Q →
    wpAny (model X.prog X.w) X.A (call (.builtin id) (v :: us)) (EP X pins σ Q) X.xe s

/-! ### lists of values -/
theorem Vals.one : ∀ {x : V} {us : List Value}, Vals [x] us → ∃ u, us = [u] ∧ RelV x u
  | _, _, .cons r .nil => ⟨_, rfl, r⟩
theorem Vals.two : ∀ {x y : V} {us : List Value}, Vals [x, y] us → ∃ u v, us = [u, v] ∧ RelV x u ∧ RelV y v
  | _, _, _, .cons r (.cons q .nil) => ⟨_, _, rfl, r, q⟩
theorem Vals.zero : ∀ {us : List Value}, Vals [] us → us = []
  | _, .nil => rfl
theorem Vals.rep {xs : List V} {us : List Value} (h : Vals xs us) : ∀ k : Nat, Vals (List.replicate k xs).flatten (List.replicate k us).flatten
  | 0 => .nil
  | k + 1 => by
    rw [List.replicate_succ, List.replicate_succ, List.flatten_cons, List.flatten_cons]
    exact Vals.append h (Vals.rep h k)
theorem foldl_rep (its : List Value) : ∀ (k : Nat) (acc : List Value),
    List.foldl (fun x1 x2 => x1 ++ x2) acc.toArray (List.replicate k its.toArray) = (acc ++ (List.replicate k its).flatten).toArray
  | 0, acc => by simp
  | k + 1, acc => by
    have e : acc.toArray ++ its.toArray = (acc ++ its).toArray := by simp
    have e2 : (acc ++ its) ++ (List.replicate k its).flatten = acc ++ (List.replicate (k + 1) its).flatten := by
      rw [List.replicate_succ, List.flatten_cons, List.append_assoc]
    rw [← e2, ← foldl_rep its k (acc ++ its), ← e, List.replicate_succ, List.foldl_cons]

section
variable {X : Cx} {pins : List (Addr × Obj)} {σ : St} {H : Hp} {s : Shared} {l b : Addr} {xs ys zs : List V}

/-! ### the two steps: a tracked list is rewritten, a new list is laid -/
theorem Inv.lset {its its' : List Value} {n : Nat} {f : Array Value → Array Value} {t' : Nat} (I : Inv X pins σ H s) (hH : H l = some (.lst xs))
    (e : s.heap.get? l = some { cls := .type "list", data := .seq its.toArray n }) (hf : f its.toArray = its'.toArray) (hv : Vals ys its') (hz : ys.length ≤ sizeLine) :
    Inv X pins σ (upd H l (.lst ys)) { s with heap := s.heap.update l (Obj.mapSeq f), toks := t' } := by
  have q := PySem.IsL.update e f
  rw [hf] at q
  refine I.write (x := l) (e := l) (by rw [hH]; exact trivial) (.inl rfl) (fun b' u hb hu => (Heap.get?_update_other s.heap (Obj.mapSeq f) (Ne.symm hb)).trans hu) ⟨_, q⟩ ?_
  exact ⟨hz, its', _, hv, q⟩
theorem Inv.lnew {its : List Value} {t' : Nat} (I : Inv X pins σ H s) (hv : Vals ys its) (hz : ys.length ≤ sizeLine) :
    Inv X pins σ (upd H s.heap.objs.size (.lst ys)) { s with heap := s.heap.push { cls := .type "list", data := .seq its.toArray }, toks := t' } :=
  I.laid (fun _ _ q => Heap.get?_push_of_some _ q) (Nat.le_refl _) ⟨hz, its, 0, hv, Heap.get?_push_size _ rfl⟩
theorem Inv.fresh (I : Inv X pins σ H s) : H s.heap.objs.size = none := I.hok.fresh (Nat.le_refl _)
theorem Inv.lstM (I : Inv X pins σ H s) (hH : H l = some (.lst xs)) : xs.length ≤ sizeLine ∧ ∃ (its : List Value) (n : Nat), Vals xs its ∧ xs.length = its.length ∧ s.heap.get? l = some { cls := .type "list", data := .seq its.toArray n } := by
  obtain ⟨z, its, n, r, e⟩ := I.hok l _ hH
  exact ⟨z, its, n, r, r.length, e⟩

theorem notLongL {n : Nat} (h : n ≤ sizeLine) : Builtin.List.listTooLong n = false := by
  unfold Builtin.List.listTooLong
  exact decide_eq_false (by omega)
end

section
variable {X : Cx}

/-! ### methods -/
def rAppend : V → List V → Hp → VK → Prop := fun x vs H Q => ∃ l xs y, x = .ref l ∧ vs = [y] ∧ H l = some (.lst xs) ∧ xs.length < sizeLine ∧ Q .non (upd H l (.lst (xs ++ [y])))
theorem mt_append : MtM X "list.append" rAppend := by
  intro pins s σ H x vs v us Q I rx rv h
  obtain ⟨l, xs, y, rfl, rfl, hH, hz, q⟩ := h
  cases rx
  obtain ⟨u, rfl, ru⟩ := rv.one
  obtain ⟨z, its, n, r, hl, e⟩ := I.lstM hH
  refine call_meets F.slot_list_append ⟨_, e, rfl⟩ F.entry_list_append (F.args_list_append_2 _ _) (PySem.list_append l its.toArray n u (by rw [List.size_toArray]; omega)) ⟨e, ?_⟩
  refine ⟨.non, _, I.lset (its' := its ++ [u]) hH e (by simp) (r.append (.cons ru .nil)) ?_, rfl, q⟩
  rw [List.length_append, List.length_singleton]
  omega

/-! ### list + list, list += list, list * int -/
def rCat : R2 := fun x y H Q => ∃ l b xs zs, x = .ref l ∧ y = .ref b ∧ H l = some (.lst xs) ∧ H b = some (.lst zs) ∧ xs.length + zs.length ≤ sizeLine ∧ ∀ p, H p = none → Q (.ref p) (upd H p (.lst (xs ++ zs)))
theorem op_cat : OpR X (binaryOp .Add) rCat := by
  intro pins s σ H x y v u Q I rx ry h
  obtain ⟨l, b, xs, zs, rfl, rfl, hH, hB, hz, q⟩ := h
  cases rx
  cases ry
  obtain ⟨z, its, n, r, hl, e⟩ := I.lstM hH
  obtain ⟨z2, its2, n2, r2, hl2, e2⟩ := I.lstM hB
  refine PySem.P.add_list e e2 ?_ (by rw [List.size_toArray, List.size_toArray]; omega)
  have ea : its.toArray ++ its2.toArray = (its ++ its2).toArray := by simp
  rw [ea]
  exact ⟨.ref _, _, I.lnew (t' := s.toks) (r.append r2) (by rw [List.length_append]; omega), rfl, q _ I.fresh⟩
/-- a list times an int (a negative one is nothing) -/
def rRep : R2 := fun x y H Q => ∃ l k xs, x = .ref l ∧ y = .int k ∧ H l = some (.lst xs) ∧ -(2 ^ 63) ≤ k ∧ k < 2 ^ 63 ∧ xs.length * k.toNat ≤ sizeLine ∧
  ∀ p, H p = none → Q (.ref p) (upd H p (.lst (List.replicate k.toNat xs).flatten))
theorem len_rep {α : Type} (xs : List α) (k : Nat) : (List.replicate k xs).flatten.length = k * xs.length := by
  induction k with
  | zero => simp
  | succ k ih => rw [List.replicate_succ, List.flatten_cons, List.length_append, ih, Nat.succ_mul, Nat.add_comm]
theorem op_rep : OpR X (binaryOp .Mult) rRep := by
  intro pins s σ H x y v u Q I rx ry h
  obtain ⟨l, k, xs, rfl, rfl, hH, h1, h2, hz, q⟩ := h
  cases rx
  obtain ⟨t, rfl⟩ := ry
  obtain ⟨z, its, n, r, hl, e⟩ := I.lstM hH
  have hlen : its.toArray.size * k.toNat ≤ sizeLine := by rw [List.size_toArray, ← hl]; exact hz
  have hcap : ¬ its.toArray.size * k.toNat > (2 ^ 63 - 1) / 8 := by
    have : (sizeLine : Nat) ≤ (2 ^ 63 - 1) / 8 := by decide
    omega
  have hfit : ¬ (!Builtin.List.listFitsIndex k) = true := by
    rw [fitsIndex_both h1 h2]
    exact Bool.false_ne_true
  have hlong : ¬ Builtin.List.listTooLong (its.toArray.size * k.toNat) = true := by
    rw [notLongL hlen]
    exact Bool.false_ne_true
  have hnew : List.foldl (fun x1 x2 => x1 ++ x2) #[] (List.replicate (if its.toArray.isEmpty = true then 0 else k.toNat) its.toArray) = (List.replicate k.toNat its).flatten.toArray := by
    have f0 : ∀ m : Nat, List.foldl (fun x1 x2 => x1 ++ x2) #[] (List.replicate m its.toArray) = (List.replicate m its).flatten.toArray := fun m => by
      have := foldl_rep its m []
      rw [List.nil_append] at this
      exact this
    rw [f0]
    cases its with
    | nil => simp
    | cons a r' => rw [if_neg (by simp)]
  refine wpAny_binaryOp_repeat_ref (T := "list") (U := "int") (by decide) ⟨_, e, rfl⟩ (fun s' => typeIs_int s' k t) noFill_list_mul F.fills_int_mul F.slot_int_rmul repeat_list F.slot_int_index.lookup
    (call_meets F.slot_int_rmul (typeIs_int s k t) F.entry_int_rmul (F.args_int_rmul_2 _ _) (int___rmul___int_list k t l its.toArray n)
      ⟨e, rfl, ⟨_, e, rfl⟩, call_meets F.slot_list_mul ⟨_, e, rfl⟩ F.entry_list_mul (F.args_list_mul_2 _ _) (AutoListH.list___mul___list_int_3 l its.toArray n k t hfit hcap hlong) ⟨e, ?_⟩⟩)
  rw [hnew]
  exact ⟨.ref _, _, I.lnew (t' := s.toks) (r.rep k.toNat) (by rw [len_rep, Nat.mul_comm]; exact hz), rfl, q _ I.fresh⟩

/-! ### del xs[i] -/
end

/-! ### xs[a:b] = ys -/
section
variable {prog : Program} {w : World} {A : Around} {E : Value → Shared → Prop} {s : Shared}
set_option maxRecDepth 100000 in
end

section
variable {X : Cx}
end
end L2

namespace Att
open PySem PySem.W PySem.Calls PyProof.Rows

/-! ### the script -/
theorem ints_of_wellAll {P : Params} {h : Heap} : ∀ (ns : List Int) (vs : List Value), WellAll P h vs (ns.map WData.int) → IntsAre vs ns := by
  intro ns
  induction ns with
  | nil =>
    intro vs w
    rw [List.map_nil] at w
    cases w
    exact .nil
  | cons n ns ih =>
    intro vs w
    rw [List.map_cons] at w
    cases w with
    | cons a b =>
      cases a
      exact .cons _ _ (ih _ b)

theorem script_of {l : OpenLaw} {n : Nat} (hn : l.most = some n) {P : Params} {h : Heap} {args : List WData} {vals : List Value}
    (hpre : l.row.toRowW.claim.pre args = true) (hwl : WellAll P h vals args) :
    ∃ a vs ns, vals = [Value.ref a] ∧ args = [WData.list (ns.map WData.int)] ∧ h.get? a = some { cls := .type "list", data := .seq vs.toArray } ∧ IntsAre vs ns ∧ ns.length ≤ n := by
  have hsh : WShape.hasAll [] args [.list .int] = true := (pre_splitW hpre).1
  have hc : l.pre.holds [] { args := args } = true := (pre_splitW hpre).2
  obtain ⟨d, r, rfl, h1, h2⟩ := hasAllW_cons hsh
  obtain rfl := hasAllW_nil h2
  obtain ⟨xs, rfl, h3⟩ := hasW_list h1
  obtain ⟨ns, rfl⟩ := items_int h3
  have hlen : ns.length ≤ n := by
    unfold OpenLaw.pre at hc
    have h4 : (WTm.not (.lt (.lit (.int (n : Int))) (.len (.arg 0)))).holds [] { args := [.list (ns.map .int)] } = true := by
      have h4 := (holds_andW hc).1
      rw [hn] at h4
      exact h4
    have h5 := condW_of h4 (w_not (w_lt w_lit (w_len_list (w_arg rfl))))
    rw [List.length_map] at h5
    refine Nat.le_of_not_lt fun q => ?_
    have q' : (n : Int) < ((ns.length : Nat) : Int) := by omega
    first
      | (rw [decide_eq_true q'] at h5; exact absurd h5 (by decide))
      | (simp at h5; omega)
  cases hwl with
  | cons w1 w2 =>
    cases w2
    cases w1 with
    | list ho hall => exact ⟨_, _, ns, rfl, rfl, ho, ints_of_wellAll ns _ hall, hlen⟩

theorem post_true (l : OpenLaw) (args : List WData) : l.row.toRowW.claim.post args (.bool true) args = true :=
  postW_of (r := l.row.toRowW) (X := (true == true))
    (show WShape.has [] (.bool true) .bool = true by first | rfl | decide | simp [WShape.has, WShape.arms, WShape.armsAll])
    (show (WTm.eq .res (.lit (.bool true))).value [] { args := args, res := some (.bool true), after := args } = some (.bool (true == true)) from w_eq_bool (w_res rfl) w_lit) rfl

/-! ### the attachment: holds_open's last premise (the goal 'hc' behind k_head) from a wpAny of the law's body -/
/-- the same from a codeAny of the CALL (for a layer whose function contracts speak of calls) -/
theorem attach_call {l : OpenLaw} {n : Nat} {q : Program} {loose : List Str} {XP : (Str → Option Value) → Heap → Prop} {YP : World → Heap → Prop} {d : DefRec}
    (hn : l.most = some n) (hdf : d.params.defaults = [])
    (call : ∀ (w : World) (s₀ s₁ : Shared) (mg mb : Str → Option Value) (fa : Addr) (o : Obj) (pm cd doc : Value) (a : Addr) (vs : List Value) (ns : List Int),
      Ground q loose [] XP w s₀ mg mb s₁.heap → YP w s₁.heap →
      s₁.heap.get? fa = some o → o.data = .func (docDef d.name d.params d.body d.scope pm cd doc) → s₁.heap.CodeRec cd d.name → mg d.name = some (.ref fa) →
      s₁.heap.get? a = some { cls := .type "list", data := .seq vs.toArray } → IntsAre vs ns → ns.length ≤ n → s₁.gens = #[] →
      codeAny (model l.prog w) callerA (.call (.ref fa) ⟨[.ref a], []⟩) (fun r s' => r = .ok (.ret (.bool true)) ∧ OldK s₁.heap s'.heap ∧ s'.os = s₁.os ∧ AllBare s'.gens) s₁) :
    WalkO q loose XP YP l.row.toRowW d [] (fun f vs => PySem.call f vs) := by
  intro w s₀ s₁ mg mb G Y fa o pm cd doc dV kV ho hd hcd hD hmg hg args vals as hpre hlay hrd hwl hlo
  obtain rfl : dV = .none := Dflts.none hD hdf
  obtain rfl : kV = .none := Dflts.noKw hD
  obtain ⟨a, vs, ns, rfl, rfl, hobj, hints, hlen⟩ := script_of hn hpre hwl
  refine enter_call (codeAny_mono (call w s₀ s₁ mg mb fa o pm cd doc a vs ns G Y ho (fd_plain hd) hcd hmg hobj hints hlen hg) fun r s' hq => ?_)
  obtain ⟨rfl, h2, h3, h4⟩ := hq
  exact ⟨.inl ⟨.bool true, .bool true, [], rfl, fun _ => rfl, .bool true, post_true l _, fun _ => ⟨List.Pairwise.nil, fun _ hm => (nomatch hm)⟩⟩, h2, h3, h4⟩

/-! ### rules over ANY heap (no ledger) from facts about the written part K: the library's own take a ledger (News) for what they write -/
section
variable {prog : Program} {w : World} {A : Around} {E : Value → Shared → Prop} {s : Shared} {K : Frag}

/-! the whole heap as the ledger: makes every rule that writes through a ledger a rule over any heap -/
def ledger (h : Heap) (L d : Addr) : List (Addr × Obj) := (List.range h.objs.size).filterMap fun a => if a = L ∨ a = d then none else (h.get? a).map fun o => (a, o)
end
end Att

namespace L2
open PySem PySem.Spec PyProof.Rows

theorem vals_ints : ∀ {vs : List Value} {ns : List Int}, IntsAre vs ns → Vals (ns.map V.int) vs
  | _, _, .nil => .nil
  | _, _, .cons n t h => .cons ⟨t, rfl⟩ (vals_ints h)

end L2

namespace L2
open PySem PySem.Spec PyProof.Rows

end L2



/-! SHORT WORDS over the layer: a def of the text, its body, what a loop and a test want. -/
namespace L2
open PySem PySem.Spec PyProof.Rows

/-! ### the text by places -/
def defArgs (s : Stmt) : Arguments := match s with
  | .FunctionDef _ a _ _ _ _ _ _ _ _ => a
  | _ => { posonlyargs := [], args := [], vararg := none, kwonlyargs := [], kw_defaults := [], kwarg := none, defaults := [] }
def defBody (s : Stmt) : List Stmt := match s with
  | .FunctionDef _ _ b _ _ _ _ _ _ _ => b
  | _ => []
def defScope (s : Stmt) : Scope := match s with
  | .FunctionDef _ _ _ _ _ _ sc _ _ _ => sc
  | _ => { kind := .function, names := [], isGenerator := false, isCoroutine := false }

/-! ### no exception leaves a def -/
abbrev CX0 : CXT := fun _ _ _ _ _ _ => False
abbrev E0 : XK := fun _ _ _ => False
/-! ### a def (or method) of the text as it stands behind the top -/
structure Fun (K : PySem.W.Frag) (x qual : Str) (st : Stmt) (f : Addr) (fd : FuncData) : Prop where
  ex : ∃ (oc : Value) (od : Option Addr) (kV doc pm : Value) (an : Option Addr) (cdv ct : Value) (osl : Array (Option Value)),
    fd = PySem.W.fnOf x qual (defArgs st) (defBody st) (defScope st) .none kV doc pm an cdv ct ∧ K.lookup f = some ⟨oc, od, .func fd, osl⟩ ∧ PySem.W.codeIn K cdv qual = true
  kp : PySem.W.keepIn K (.ref f) = true
section
variable {P : Program} {w : World} {K : PySem.W.Frag} {mg : Str → Option Value} {base : Heap}
/-- THE RULE for a def: its body as a term of rules, and the reading of that term -/
theorem Fun.ok {x qual : Str} {st : Stmt} {f : Addr} {fd : FuncData} {N ps : List Str} {k : Nat} {sp : Sp} (F : Fun K x qual st f fd) (S : FnScope N ps (defScope st)) (len : ∀ vs H Q E, sp vs H Q E → vs.length = ps.length)
    (hbody : ∀ (cdv : Value) (A : Around) (outer : List Env) (s : Shared) (H : Hp) (vs : List V) (Q : VK) (E : XK), Room k (A.deeper (envOfC qual (defScope st) s.heap.objs.size f cdv)) → sp vs H Q E →
      ∃ t, PSs (cxOf CX0 P w K mg base N qual (defScope st) f cdv A outer s H E).nox (defBody st) t ∧ t { nx := fun _ H' => Q .non H', rt := Q } (start N vs) H) : FnOk P w K mg base CX0 (k + 1) f fd ps sp := by
  obtain ⟨oc, od, kV, doc, pm, an, cdv, ct, osl, rfl, lk, hcd⟩ := F.ex
  refine fn_of lk hcd S len fun A outer s H vs Q E hr hsp => ?_
  obtain ⟨t, h, q⟩ := hbody cdv A outer s H vs Q E hr hsp
  exact ⟨t, h.nox, q⟩
/-- how its arguments bind (no defaults): h is «fun _ _ _ _ _ _ us hl => match us, hl with | [_, _], _ => rfl», one _ a parameter -/
theorem Fun.binds {x qual : Str} {st : Stmt} {f : Addr} {fd : FuncData} {ps : List Str} (F : Fun K x qual st f fd)
    (h : ∀ (kV doc pm : Value) (an : Option Addr) (cdv ct : Value) (us : List Value), us.length = ps.length → bindArgs (PySem.W.fnOf x qual (defArgs st) (defBody st) (defScope st) .none kV doc pm an cdv ct) ⟨us, []⟩ = pure (ps.zip us)) : Binds K fd ps [] := by
  obtain ⟨oc, od, kV, doc, pm, an, cdv, ct, osl, rfl, lk, hcd⟩ := F.ex
  exact .all (h kV doc pm an cdv ct)
theorem fun_mk {x qual : Str} {st : Stmt} {f : Addr} {oc : Value} {od an : Option Addr} {osl : Array (Option Value)} {kV doc pm cdv ct : Value} (l : K.lookup f = some ⟨oc, od, .func (PySem.W.fnOf x qual (defArgs st) (defBody st) (defScope st) .none kV doc pm an cdv ct), osl⟩)
    (c : PySem.W.codeIn K cdv qual = true) (k : PySem.W.keepIn K (.ref f) = true) : Fun K x qual st f (PySem.W.fnOf x qual (defArgs st) (defBody st) (defScope st) .none kV doc pm an cdv ct) := ⟨⟨oc, od, kV, doc, pm, an, cdv, ct, osl, rfl, l, c⟩, k⟩
end
/-! ### expressions in short: the name that stands in the i-th slot -/
section
variable {X : Cx}
end

/-! ### tests -/
theorem iteF {A B : Prop} (h : B) : if false = true then A else B := by
  rw [if_neg Bool.false_ne_true]
  exact h
theorem iteT {A B : Prop} (h : A) : if true = true then A else B := by
  rw [if_pos rfl]
  exact h
/-! ### heaps -/
/-- all that was tracked is as it was -/
def Same (H H' : Hp) : Prop := ∀ b o, H b = some o → H' b = some o
theorem Same.refl (H : Hp) : Same H H := fun _ _ h => h
theorem Same.trans {H H1 H2 : Hp} (a : Same H H1) (b : Same H1 H2) : Same H H2 := fun c o h => b c o (a c o h)
theorem Same.free {H H' : Hp} (e : Same H H') {l : Addr} (h : H' l = Option.none) : H l = Option.none := by
  cases q : H l with
  | none => rfl
  | some o =>
    rw [e l o q] at h
    cases h
theorem Same.seq {K : PySem.W.Frag} {H H' : Hp} {a : Addr} {xs : List V} (e : Same H H') (h : SqL K H a xs) : SqL K H' a xs := by
  rcases h with (h | ⟨o, h⟩) | h
  · exact .inl (.inl (e _ _ h))
  · exact .inl (.inr ⟨o, e _ _ h⟩)
  · exact .inr h

end L2
/-! A comprehension's block over the layer: its cells, its context, the entry and the end. -/
namespace L2
open PySem PySem.Spec PyProof.Rows

/-! ### the cells that a block takes over, and its own -/
theorem look_cons {β : Type} (x y : Str) (c : β) (acc : List (Str × β)) : ((y, c) :: acc).lookup x = if x = y then some c else acc.lookup x := by
  rw [List.lookup_cons]
  by_cases e : x = y
  · have hb : (x == y) = true := beq_iff_eq.mpr e
    rw [hb, if_pos e]
  · have hb : (x == y) = false := beq_eq_false_iff_ne.mpr e
    rw [hb, if_neg e]
def closL (env : Env) : List (Str × NameKind) → List (Str × Addr) → List (Str × Addr)
  | [], acc => acc
  | (x, k) :: r, acc => closL env r (if k == .free then (x, (env.cells.lookup x).getD 0) :: acc else acc)
theorem closL_go {env : Env} : ∀ (l : List (Str × NameKind)) (acc : List (Str × Addr)), (∀ x, (x, NameKind.free) ∈ l → ∃ c, env.cells.lookup x = some c) →
    (forIn l acc (fun (x : Str × NameKind) (r : List (Str × Addr)) => match x with
      | (name, kind) => if (kind == NameKind.free) = true then (do let a ← cellOf env name; pure (ForInStep.yield ((name, a) :: r))) else (pure (ForInStep.yield r) : Sem (ForInStep (List (Str × Addr)))))) = (pure (closL env l acc) : Sem (List (Str × Addr)))
  | [], acc, _ => rfl
  | (x, k) :: l, acc, h => by
    rw [List.forIn_cons]
    dsimp only
    cases hk : k == NameKind.free with
    | true =>
      have e : k = .free := by cases k <;> first | rfl | cases hk
      subst e
      obtain ⟨c, hc⟩ := h x (List.mem_cons_self ..)
      rw [if_pos rfl, show closL env ((x, NameKind.free) :: l) acc = closL env l ((x, c) :: acc) by rw [closL, if_pos hk, hc]; rfl, ← closL_go l ((x, c) :: acc) fun y hy => h y (List.mem_cons_of_mem _ hy)]
      unfold cellOf
      rw [hc]
      rfl
    | false =>
      rw [if_neg (by simp), show closL env ((x, k) :: l) acc = closL env l acc by rw [closL, hk]; rfl, ← closL_go l acc fun y hy => h y (List.mem_cons_of_mem _ hy)]
      rfl
theorem closureFor_eq {env : Env} {scope : Scope} (h : ∀ x, (x, NameKind.free) ∈ scope.names → ∃ c, env.cells.lookup x = some c) : closureFor scope env = pure (closL env scope.names []) := by
  unfold closureFor
  have := closL_go (env := env) scope.names [] h
  show (forIn scope.names [] _ >>= fun cs => pure cs) = _
  exact (congrArg (fun (m : Sem (List (Str × Addr))) => m >>= fun cs => pure cs) this)
theorem closL_mem {env : Env} {x : Str} : ∀ (l : List (Str × NameKind)) (acc : List (Str × Addr)), ((x, NameKind.free) ∈ l ∨ acc.lookup x = some ((env.cells.lookup x).getD 0)) → (closL env l acc).lookup x = some ((env.cells.lookup x).getD 0)
  | [], acc, h => h.elim (fun z => nomatch z) id
  | (y, k) :: l, acc, h => by
    rw [closL]
    cases hk : k == NameKind.free with
    | true =>
      refine closL_mem l _ ?_
      rw [if_pos rfl]
      by_cases e : x = y
      · subst e
        right
        rw [look_cons, if_pos rfl]
      · rcases h with h | h
        · rcases List.mem_cons.mp h with h | h
          · cases h; exact absurd rfl e
          · exact .inl h
        · right
          rw [look_cons, if_neg e]
          exact h
    | false =>
      refine closL_mem l _ ?_
      rcases h with h | h
      · rcases List.mem_cons.mp h with h | h
        · cases h; simp at hk
        · exact .inl h
      · exact .inr h
/-- what a block's cells are -/
structure BlkCells (h h' : Heap) (names : List (Str × NameKind)) (acc cs : List (Str × Addr)) : Prop where
  cases : ∀ x c, cs.lookup x = some c → acc.lookup x = some c ∨ (h.objs.size ≤ c ∧ h'.IsCell c none ∧ (x, NameKind.cell) ∈ names)
  own : ∀ x, (x, NameKind.cell) ∈ names → ∃ c, cs.lookup x = some c
  old : ∀ x, (x, NameKind.cell) ∉ names → cs.lookup x = acc.lookup x
  inj : (∀ x y c, acc.lookup x = some c → acc.lookup y = some c → x = y) → (∀ x c, acc.lookup x = some c → c < h.objs.size) → ∀ x y c, cs.lookup x = some c → cs.lookup y = some c → x = y
theorem blkCells : ∀ (names : List (Str × NameKind)) (h : Heap) (acc : List (Str × Addr)), BlkCells h (pushCells h names) names acc (cellsFrom h.objs.size names acc)
  | [], h, acc => { cases := fun _ _ e => .inl e, own := fun _ z => (nomatch z), old := fun _ _ => rfl, inj := fun a _ => a }
  | (y, k) :: r, h, acc => by
    cases hk : k == NameKind.cell with
    | true =>
      have ek : k = .cell := by cases k <;> first | rfl | cases hk
      subst ek
      have ih := blkCells r (h.push { cls := .type "cell", data := .cell none }) ((y, h.objs.size) :: acc)
      have e1 : pushCells h ((y, NameKind.cell) :: r) = pushCells (h.push { cls := .type "cell", data := .cell none }) r := rfl
      have e2 : cellsFrom h.objs.size ((y, NameKind.cell) :: r) acc = cellsFrom (h.push { cls := .type "cell", data := .cell none }).objs.size r ((y, h.objs.size) :: acc) := by
        rw [Heap.size_push]; rfl
      rw [e1, e2]
      have look : ∀ x, ((y, h.objs.size) :: acc).lookup x = if x = y then some h.objs.size else acc.lookup x := fun x => look_cons ..
      refine ⟨fun x c e => ?_, fun x hx => ?_, fun x hx => ?_, fun h1 h2 x z c ex ez => ?_⟩
      · rcases ih.cases x c e with q | ⟨q1, q2, q3⟩
        · rw [look] at q
          by_cases exy : x = y
          · rw [if_pos exy] at q
            cases q
            refine .inr ⟨Nat.le_refl _, ⟨_, pushCells_keeps r _ _ _ (Heap.get?_push_size _ rfl), rfl⟩, by rw [exy]; exact List.mem_cons_self ..⟩
          · rw [if_neg exy] at q
            exact .inl q
        · rw [Heap.size_push] at q1
          exact .inr ⟨Nat.le_of_succ_le q1, q2, List.mem_cons_of_mem _ q3⟩
      · by_cases hr : (x, NameKind.cell) ∈ r
        · exact ih.own x hr
        · rw [ih.old x hr, look]
          rcases List.mem_cons.mp hx with z | z
          · cases z; exact ⟨_, if_pos rfl⟩
          · exact absurd z hr
      · rw [ih.old x fun z => hx (List.mem_cons_of_mem _ z), look, if_neg]
        rintro rfl
        exact hx (List.mem_cons_self ..)
      · refine ih.inj ?_ ?_ x z c ex ez
        · intro a b c ea eb
          rw [look] at ea eb
          by_cases qa : a = y
          · rw [if_pos qa] at ea
            cases ea
            by_cases qb : b = y
            · exact qa.trans qb.symm
            · rw [if_neg qb] at eb
              exact absurd (h2 b _ eb) (Nat.lt_irrefl _)
          · rw [if_neg qa] at ea
            by_cases qb : b = y
            · rw [if_pos qb] at eb
              cases eb
              exact absurd (h2 a _ ea) (Nat.lt_irrefl _)
            · rw [if_neg qb] at eb
              exact h1 a b c ea eb
        · intro a c ea
          rw [Heap.size_push]
          rw [look] at ea
          by_cases qa : a = y
          · rw [if_pos qa] at ea; cases ea; exact Nat.lt_succ_self _
          · rw [if_neg qa] at ea
            exact Nat.lt_succ_of_lt (h2 a c ea)
    | false =>
      have ih := blkCells r h acc
      have e1 : pushCells h ((y, k) :: r) = pushCells h r := by rw [pushCells, hk]; rfl
      have e2 : cellsFrom h.objs.size ((y, k) :: r) acc = cellsFrom h.objs.size r acc := by rw [cellsFrom, hk]; rfl
      rw [e1, e2]
      have nk : ∀ x, (x, NameKind.cell) ∈ (y, k) :: r → (x, NameKind.cell) ∈ r := fun x z => by
        rcases List.mem_cons.mp z with z | z
        · cases z; simp at hk
        · exact z
      exact ⟨fun x c e => (ih.cases x c e).imp id fun ⟨a, b, c⟩ => ⟨a, b, List.mem_cons_of_mem _ c⟩, fun x hx => ih.own x (nk x hx), fun x hx => ih.old x fun z => hx (List.mem_cons_of_mem _ z), ih.inj⟩

/-- the block's environment, its locals at L -/
def blkEnv (scope : Scope) (env : Env) (L : Addr) : Env :=
  { scope := relabel scope env, locals := L, globals := env.globals, cells := cellsFrom (L + 1) scope.names (closL env scope.names []), qual := env.qual, func := none, code := env.code, frame := env.frame, builtins := env.builtins }
theorem newEnv_blk {M : Model} {A : Around} {E : Value → Shared → Prop} {s : Shared} {scope : Scope} {env : Env} {cl : List (Str × Addr)} {qual : Str} {g : Addr} {Q : Env → Shared → Prop}
    (h : Q { scope := scope, locals := s.heap.objs.size, globals := g, cells := cellsFrom (s.heap.objs.size + 1) scope.names cl, qual := qual, func := none, code := env.code, frame := env.frame, builtins := env.builtins }
      { s with heap := pushCells (s.heap.push { cls := .type "dict", data := .dict #[] }) scope.names }) :
    wpAny M A (newFunctionEnv scope g cl [] qual none .none (some env)) Q E s := by
  simp only [newFunctionEnv, Option.isSome_some, if_true]
  refine wpAny_bind (wpAny_alloc ?_)
  refine wpAny_bind (wpAny_layCells _ (fun name kind cells => by cases hkc : kind == NameKind.cell <;> simp [hkc]) _ _ _ _ ?_)
  rw [show ({ s with heap := s.heap.push { cls := .type "dict", data := .dict #[] } } : Shared).heap.objs.size = s.heap.objs.size + 1 from Heap.size_push ..]
  exact wpAny_bind (wpAny_pure (wpAny_pure h))

/-! ### the block's context -/
def blk (X : Cx) (scope : Scope) (N : List Str) (s : Shared) (H : Hp) (ex : List Addr) : Cx :=
  { X with N := N, s₀ := s, H₀ := H, env := blkEnv scope X.env s.heap.objs.size, outer := X.stack, stack := X.stack, ex := ex, fn := fun x => scope.names.lookup x == some .cell, xe := fun _ _ => False }
/-- the names that a block takes over: where they stand in the outer list -/
def capSt (cap : List (Option Nat)) (σ : St) : St := cap.map fun o => match o with | some j => (σ[j]?).getD none | none => none
structure CapOk (X : Cx) (scope : Scope) (N : List Str) (cap : List (Option Nat)) : Prop where
  kind : scope.kind = .function
  nd : ∀ x ∈ scope.names, x.2 = .local → scope.names.lookup x.1 = some .local
  len : cap.length = N.length
  free : ∀ x, (x, NameKind.free) ∈ scope.names → X.env.kindOf x = some .cell ∨ X.env.kindOf x = some .free
  apart : ∀ x, (x, NameKind.free) ∈ scope.names → (x, NameKind.cell) ∉ scope.names
  cap : ∀ (i j : Nat) (x : Str), cap[i]? = some (some j) → N[i]? = some x → X.N[j]? = some x ∧ (x, NameKind.free) ∈ scope.names ∧ (relabel scope X.env).names.lookup x ≠ some .local
theorem relabel_lookup {scope : Scope} {env : Env} {x : Str} : ∀ {l : List (Str × NameKind)} {k : NameKind}, (l.map fun (n, k) => if (k == NameKind.free && env.scope.kind == .function && env.kindOf n == some .cell) then (n, NameKind.cell) else (n, k)).lookup x = some k →
    (x, k) ∈ l ∨ (k = .cell ∧ (x, NameKind.free) ∈ l)
  | [], _, h => by simp at h
  | (n, q) :: r, k, h => by
    have ih := @relabel_lookup scope env x r k
    rw [List.map_cons] at h
    by_cases hc : (q == NameKind.free && env.scope.kind == .function && env.kindOf n == some .cell) = true
    · have hq : q = .free := by
        have : (q == NameKind.free) = true := by
          cases z : q == NameKind.free with
          | true => rfl
          | false => rw [z] at hc; simp at hc
        cases q <;> first | rfl | cases this
      dsimp only at h
      rw [if_pos hc, List.lookup_cons] at h
      cases e : x == n with
      | true =>
        rw [e] at h
        have h' : NameKind.cell = k := Option.some.inj h
        subst h'
        have ex := beq_iff_eq.mp e
        subst ex; subst hq
        exact .inr ⟨rfl, List.mem_cons_self ..⟩
      | false =>
        rw [e] at h
        exact (ih h).imp (List.mem_cons_of_mem _) fun ⟨a, b⟩ => ⟨a, List.mem_cons_of_mem _ b⟩
    · dsimp only at h
      rw [if_neg hc, List.lookup_cons] at h
      cases e : x == n with
      | true =>
        rw [e] at h
        have h' : q = k := Option.some.inj h
        subst h'
        have ex := beq_iff_eq.mp e
        subst ex
        exact .inl (List.mem_cons_self ..)
      | false =>
        rw [e] at h
        exact (ih h).imp (List.mem_cons_of_mem _) fun ⟨a, b⟩ => ⟨a, List.mem_cons_of_mem _ b⟩
end L2
namespace L2
open PySem PySem.Spec PyProof.Rows
theorem closL_case {env : Env} {x : Str} {c : Addr} : ∀ (l : List (Str × NameKind)) (acc : List (Str × Addr)), (closL env l acc).lookup x = some c → acc.lookup x = some c ∨ ((x, NameKind.free) ∈ l ∧ c = (env.cells.lookup x).getD 0)
  | [], acc, h => .inl h
  | (y, k) :: l, acc, h => by
    rw [closL] at h
    cases hk : k == NameKind.free with
    | true =>
      have ek : k = .free := by cases k <;> first | rfl | cases hk
      subst ek
      rw [if_pos hk] at h
      rcases closL_case l _ h with q | ⟨q1, q2⟩
      · rw [look_cons] at q
        by_cases e : x = y
        · rw [if_pos e] at q
          subst e
          exact .inr ⟨List.mem_cons_self .., (Option.some.inj q).symm⟩
        · rw [if_neg e] at q
          exact .inl q
      · exact .inr ⟨List.mem_cons_of_mem _ q1, q2⟩
    | false =>
      rw [if_neg (by rw [hk]; exact Bool.false_ne_true)] at h
      exact (closL_case l _ h).imp id fun ⟨a, b⟩ => ⟨List.mem_cons_of_mem _ a, b⟩
section
variable {X : Cx} {pins : List (Addr × Obj)} {σ : St} {H : Hp} {s : Shared} {scope : Scope} {N : List Str} {cap : List (Option Nat)} {ex : List Addr}
theorem clos_old (I : Inv X pins σ H s) (C : CapOk X scope N cap) {x : Str} {c : Addr} (e : (closL X.env scope.names []).lookup x = some c) : (x, NameKind.free) ∈ scope.names ∧ X.env.cells.lookup x = some c := by
  rcases closL_case _ _ e with q | ⟨q1, q2⟩
  · cases q
  · obtain ⟨c', h'⟩ := I.ok.has x (C.free x q1)
    rw [h'] at q2
    subst q2
    exact ⟨q1, h'⟩
/-- a block's cell: one of the outer frame's, or a new one -/
theorem blk_cell (I : Inv X pins σ H s) (C : CapOk X scope N cap) {x : Str} {c : Addr} (e : (blkEnv scope X.env s.heap.objs.size).cells.lookup x = some c) :
    (X.env.cells.lookup x = some c ∧ (x, NameKind.free) ∈ scope.names) ∨ (s.heap.objs.size < c ∧ (pushCells (s.heap.push { cls := .type "dict", data := .dict #[] }) scope.names).IsCell c none ∧ (x, NameKind.cell) ∈ scope.names) := by
  have B := blkCells scope.names (s.heap.push { cls := .type "dict", data := .dict #[] }) (closL X.env scope.names [])
  rw [Heap.size_push] at B
  rcases B.cases x c e with q | ⟨q1, q2, q3⟩
  · obtain ⟨a, b⟩ := clos_old I C q
    exact .inl ⟨b, a⟩
  · rw [Heap.size_push] at q1
    exact .inr ⟨q1, q2, q3⟩
theorem blk_ok (I : Inv X pins σ H s) (C : CapOk X scope N cap) (hex : ∀ b ∈ ex, FpOk X pins H b ∧ b < s.heap.objs.size) : (blk X scope N s H ex).Ok := by
  have B := blkCells scope.names (s.heap.push { cls := .type "dict", data := .dict #[] }) (closL X.env scope.names [])
  rw [Heap.size_push] at B
  have kf : ∀ x, (x, NameKind.free) ∈ scope.names → ∃ c, X.env.cells.lookup x = some c := fun x hx => I.ok.has x (C.free x hx)
  refine ⟨I.ok.mod, C.kind, I.ok.glob, I.ok.blt, Nat.le_refl _, ?_, ?_, ?_, I.ok.hd, I.ok.frames, .inl rfl, ?_, I.bs, Nat.le_trans I.ok.bsz I.sz, ?_, ?_, I.stack, I.stkFree⟩
  · refine B.inj (fun x y c e1 e2 => ?_) fun x c e => ?_
    · exact I.ok.inj x y c (clos_old I C e1).2 (clos_old I C e2).2
    · obtain ⟨v, q⟩ := I.cell x c (clos_old I C e).2
      rw [Heap.size_push]
      exact Nat.lt_succ_of_lt q.lt
  · intro x hx
    have hx' : (relabel scope X.env).names.lookup x = some .cell ∨ (relabel scope X.env).names.lookup x = some .free := hx
    have mem : (x, NameKind.cell) ∈ scope.names ∨ (x, NameKind.free) ∈ scope.names := by
      rcases hx' with h | h
      · rcases relabel_lookup (scope := scope) h with q | ⟨_, q⟩
        · exact .inl q
        · exact .inr q
      · rcases relabel_lookup (scope := scope) h with q | ⟨z, q⟩
        · exact .inr q
        · exact .inr q
    by_cases hc : (x, NameKind.cell) ∈ scope.names
    · exact B.own x hc
    · rcases mem with h | h
      · exact absurd h hc
      · exact ⟨_, (B.old x hc).trans (closL_mem _ _ (.inl h))⟩
  · intro x c hf e
    have hf' : (scope.names.lookup x == some .cell) = true := hf
    have hm : (x, NameKind.cell) ∈ scope.names := PySem.mem_of_lookup (eq_of_beq hf')
    rcases blk_cell I C e with ⟨_, q⟩ | ⟨q, _⟩
    · exact absurd hm (C.apart x q)
    · exact Nat.le_of_lt q
  · intro b hb
    obtain ⟨⟨f0, f1, f2, f3, f4, f5⟩, hlt⟩ := hex b hb
    refine ⟨Nat.ne_of_lt hlt, fun x c e z => ?_⟩
    rcases blk_cell I C e with ⟨q, _⟩ | ⟨q, _⟩
    · exact f4 x c q z
    · subst z; exact Nat.lt_irrefl _ (Nat.lt_trans q hlt)
  · intro b o e hb
    obtain ⟨⟨f0, f1, f2, f3, f4, f5⟩, hlt⟩ := hex b hb
    rcases f3 with q | q
    · exact I.ok.noex b o e q
    · exact Nat.lt_irrefl _ (Nat.lt_of_lt_of_le (Heap.lt_size e) (Nat.le_trans I.ok.bsz q))
  · intro b hb z
    obtain ⟨⟨f0, f1, f2, f3, f4, f5⟩, hlt⟩ := hex b hb
    rcases List.mem_cons.mp (I.stkSub b z) with q | q
    · exact f1 q
    · exact f2 q
theorem blk_inv (I : Inv X pins σ H s) (C : CapOk X scope N cap) (hex : ∀ b ∈ ex, FpOk X pins H b ∧ b < s.heap.objs.size) :
    Inv (blk X scope N s H ex) pins (capSt cap σ) H { s with heap := pushCells (s.heap.push { cls := .type "dict", data := .dict #[] }) scope.names } := by
  have B := blkCells scope.names (s.heap.push { cls := .type "dict", data := .dict #[] }) (closL X.env scope.names [])
  rw [Heap.size_push] at B
  have kp : ∀ b o, s.heap.get? b = some o → (pushCells (s.heap.push { cls := .type "dict", data := .dict #[] }) scope.names).get? b = some o := fun b o e => pushCells_keeps _ _ _ _ (Heap.get?_push_of_some _ e)
  have ns : (pushCells (s.heap.push { cls := .type "dict", data := .dict #[] }) scope.names).Ns s.heap.objs.size (fun _ => none) :=
    ⟨_, #[], _, pushCells_keeps _ _ _ _ (Heap.get?_push_size _ rfl), rfl, (fun e he => absurd he (by simp)), fun _ => rfl⟩
  obtain ⟨m, hn, hl⟩ := I.loc
  refine ⟨blk_ok I C hex, rfl, I.bare, Un.kept kp, ⟨_, ns, fun i x v h1 h2 h3 => ?_⟩, fun x c e => ?_, I.hok.fresh (Nat.le_refl _), fun x c e => ?_, fun p hp => ?_, I.hok.kept kp, ?_⟩
  · have h2' : (cap.map fun o => match o with | some j => (σ[j]?).getD none | none => none)[i]? = some (some v) := h2
    rw [List.getElem?_map] at h2'
    cases q : cap[i]? with
    | none => rw [q] at h2'; cases h2'
    | some o =>
      rw [q] at h2'
      cases o with
      | none => cases h2'
      | some j =>
        have e1 : (σ[j]?).getD none = some v := Option.some.inj h2'
        have e2 : σ[j]? = some (some v) := by
          cases z : σ[j]? with
          | none => rw [z] at e1; cases e1
          | some w => rw [z] at e1; exact congrArg some e1
        obtain ⟨c1, c2, c3⟩ := C.cap i j x q h1
        have vis : Vis X.env.scope x := by
          rcases C.free x c2 with z | z
          · exact .inr (.inl z)
          · exact .inr (.inr z)
        obtain ⟨u, r, l⟩ := hl j x v c1 e2 vis
        refine ⟨u, r, ?_⟩
        rcases l with ⟨hk, hm⟩ | ⟨hk, c, hc, hcell⟩
        · rcases C.free x c2 with z | z
          · rw [z] at hk; cases hk
          · rw [z] at hk; cases hk
        · refine .inr ⟨?_, c, ?_, ?_⟩
          · have h3' : Vis (relabel scope X.env) x := h3
            rcases h3' with z | z | z
            · exact absurd z c3
            · exact .inl z
            · exact .inr z
          · have := (B.old x (C.apart x c2)).trans (closL_mem _ _ (.inl c2))
            rw [hc] at this
            exact this
          · obtain ⟨o, ho, hd⟩ := hcell
            exact ⟨o, kp _ _ ho, hd⟩
  · rcases blk_cell I C e with ⟨q, _⟩ | ⟨_, q, _⟩
    · obtain ⟨v, o, ho, hd⟩ := I.cell x c q
      exact ⟨v, o, kp _ _ ho, hd⟩
    · exact ⟨none, q⟩
  · rcases blk_cell I C e with ⟨q, _⟩ | ⟨q, _⟩
    · exact I.freeC x c q
    · exact I.hok.fresh (Nat.le_of_lt q)
  · obtain ⟨a1, a2, a3, a4, a5⟩ := I.pin p hp
    refine ⟨kp _ _ a1, a2, Nat.ne_of_lt (Heap.lt_size a1), fun z => ?_, a5⟩
    rcases List.mem_cons.mp (I.stkSub _ z) with q | q
    · exact a3 q
    · exact a4 q
  · show (cap.map _).length = N.length
    rw [List.length_map]; exact C.len
theorem blk_fp (I : Inv X pins σ H s) (C : CapOk X scope N cap) (hex : ∀ b ∈ ex, FpOk X pins H b ∧ b < s.heap.objs.size) : ∀ b ∈ ex, FpOk (blk X scope N s H ex) pins H b := by
  intro b hb
  obtain ⟨⟨f0, f1, f2, f3, f4, f5⟩, hlt⟩ := hex b hb
  have ok := blk_ok (N := N) I C hex
  exact ⟨f0, (ok.exf b hb).1, ok.exfs b hb, .inl hb, (ok.exf b hb).2, f5⟩
/-- behind the block, its names let go -/
theorem blk_out {σ' : St} {H' : Hp} {s' : Shared} {h' : Heap} (I : Inv X pins σ H s) (hex : ∀ b ∈ ex, FpOk X pins H b ∧ b < s.heap.objs.size) (I' : Inv (blk X scope N s H ex) pins σ' H' s') (hh : Heap.SameBut s.heap.objs.size s'.heap h') :
    Inv X pins σ H' { s' with heap := h' } := by
  have u : Un (frs X.stack) ex H H' s.heap s'.heap := I'.base
  have up : ∀ b o o', s.heap.get? b = some o → s'.heap.get? b = some o' → h'.get? b = some o' := fun b o o' e e' => (hh.2 b (Nat.ne_of_lt (Heap.lt_size e))).trans e'
  have hL : H' s.heap.objs.size = none := I'.free
  refine I.call' (s' := { s' with heap := h' }) (ch := ex) I'.os ⟨fun b o q n hb hx => up b o o q (u.keep b o q n hb hx), fun b o q n hb hx => ?_, u.free, fun b o q hx => ?_, u.tups, u.frzs, u.tbls⟩ (fun b o e => ?_) I'.bare fun b hb => ?_
  · obtain ⟨sl, e⟩ := u.slot b o q n hb hx
    exact ⟨sl, up b o _ q e⟩
  · obtain ⟨o', e⟩ := u.there b o q hx
    exact ⟨o', up b o _ q e⟩
  · refine (I'.hok b o e).stay (fun c v hc q => (hh.2 c ?_).trans q) (fun _ q => q) fun _ _ q => q
    rcases hc with z | z
    · rw [z]; rintro rfl; rw [hL] at e; cases e
    · rintro rfl; rw [hL] at z; cases z
  · obtain ⟨⟨f0, f1, f2, f3, f4, f5⟩, hlt⟩ := hex b hb
    exact ⟨f3, f1, f4, f5⟩
/-- an untracked object of ours is tracked from here on -/
theorem Inv.adopt {a : Addr} {o : HO} (I : Inv X pins σ H s) (f : FpOk X pins H a) (ha : X.s₀.heap.objs.size ≤ a) (new : ObjOk X.prog X.w (upd H a o) s.heap a o) : Inv X pins σ (upd H a o) s := by
  obtain ⟨f0, f1, f2, f3, f4, f5⟩ := f
  have ne0 : ∀ b ob, X.s₀.heap.get? b = some ob → b ≠ a := fun b ob e z => by subst z; exact Nat.lt_irrefl _ (Nat.lt_of_lt_of_le (Heap.lt_size e) ha)
  refine ⟨I.ok, I.os, I.bare, ⟨I.base.keep, I.base.slot, fun b ob e n hx => by rw [upd_ne (ne0 b ob e)]; exact I.base.free b ob e n hx, I.base.there, fun b xs e => ?_, fun b ob u e => ?_, fun b ps e => ?_⟩, I.loc, I.cell, by rw [upd_ne (Ne.symm f1)]; exact I.free,
    fun x c e => by rw [upd_ne (f4 x c e)]; exact I.freeC x c e, fun p hp => ?_, fun b u e => ?_, I.len⟩
  · have := I.base.tups b xs e
    rw [upd_ne (ne_of_none this f0)]; exact this
  · have := I.base.frzs b ob u e
    rw [upd_ne (ne_of_none this f0)]; exact this
  · obtain ⟨more, this⟩ := I.base.tbls b ps e
    exact ⟨more, by rw [upd_ne (ne_of_none this f0)]; exact this⟩
  · obtain ⟨a1, a2, a3, a4, a5⟩ := I.pin p hp
    exact ⟨a1, by rw [upd_ne (f5 p hp)]; exact a2, a3, a4, a5⟩
  · by_cases hb : b = a
    · subst hb; rw [upd_same] at e; cases e; exact new
    · rw [upd_ne hb] at e
      exact (I.hok b u e).stay (fun _ _ _ q => q) (fun c q => by rw [upd_ne (ne_of_none q f0)]; exact q) fun c xs q => by rw [upd_ne (ne_of_none q f0)]; exact q
end
end L2
namespace L2
open PySem PySem.Spec PyProof.Rows
/-! ### the list that a comprehension fills: not tracked until it is told -/
def AccAt (s : Shared) (D : Addr) (xs : List V) : Prop := xs.length ≤ sizeLine ∧ ∃ (its : List Value) (n : Nat), Vals xs its ∧ s.heap.get? D = some { cls := .type "list", data := .seq its.toArray n }
/-- a clause's reading: names, heap, what has been told so far; what is wanted behind -/
abbrev TC := St → Hp → List V → (St → Hp → List V → Prop) → Prop
def PCl (X : Cx) (D : Addr) (m : Sem Unit) (t : TC) : Prop :=
  ∀ (pins : List (Addr × Obj)) (s : Shared) (σ : St) (H : Hp) (xs : List V) (K : St → Hp → List V → Prop), Inv X pins σ H s → AccAt s D xs → FpOk X pins H D → t σ H xs K →
    wpAny (model X.prog X.w) X.A m (fun _ s' => ∃ σ' H' xs', Inv X pins σ' H' s' ∧ AccAt s' D xs' ∧ H' D = none ∧ K σ' H' xs') X.xe s
section
variable {X : Cx} {D : Addr}
theorem AccAt.obj {s : Shared} {xs : List V} (a : AccAt s D xs) : ∃ o, s.heap.get? D = some o ∧ ∀ v, o.data ≠ .cell v := by
  obtain ⟨_, its, n, _, e⟩ := a
  exact ⟨_, e, fun v z => nomatch z⟩
theorem Inv.pinD {pins : List (Addr × Obj)} {s : Shared} {σ : St} {H : Hp} {xs : List V} (I : Inv X pins σ H s) (a : AccAt s D xs) (f : FpOk X pins H D) : Inv X (pins ++ pinsAt [D] s.heap) σ H s :=
  I.pinned (fun b hb => by have e : b = D := by simpa using hb
                           subst e; exact f) fun b hb => by
    have e : b = D := by simpa using hb
    subst e
    exact a.obj
theorem Inv.atD {pins : List (Addr × Obj)} {s s' : Shared} {σ' : St} {H' : Hp} {xs : List V} (a : AccAt s D xs) (I : Inv X (pins ++ pinsAt [D] s.heap) σ' H' s') : AccAt s' D xs ∧ H' D = none := by
  obtain ⟨z, its, n, r, e⟩ := a
  have := I.pin (D, _) (List.mem_append_right _ (List.mem_append_right _ (mem_pinsAt (by simp) e)))
  exact ⟨⟨z, its, n, r, this.1⟩, this.2.1⟩
/-- the element is told -/
def tEmit (te : TE) : TC := fun σ H xs K => te σ H fun v H1 => xs.length < sizeLine ∧ K σ H1 (xs ++ [v])
theorem pcl_emit {elt : Expr} {te : TE} (he : PE X elt te) : PCl X D (do let x ← eval elt X.env; let _ ← call (.builtin "list.append") [.ref D, x]; pure ()) (tEmit te) := by
  intro pins s σ H xs K I a f h
  refine wpAny_bind (thn (he _ s σ H _ (I.pinD a f) h) fun u s1 ⟨v, H1, I1, r1, hz, q1⟩ => ?_)
  obtain ⟨a1, n1⟩ := Inv.atD a I1
  have I1' := I1.unpinned
  obtain ⟨z, its, n, r, e⟩ := a1
  have hl := r.length
  refine wpAny_bind (call_meets F.slot_list_append ⟨_, e, rfl⟩ F.entry_list_append (F.args_list_append_2 _ _) (PySem.list_append D its.toArray n u (by rw [List.size_toArray]; omega)) ⟨e, ?_⟩)
  have q := PySem.IsL.update e (·.push u)
  have e2 : its.toArray.push u = (its ++ [u]).toArray := by simp
  rw [e2] at q
  refine wpAny_pure ⟨σ, H1, xs ++ [v], ?_, ⟨by rw [List.length_append, List.length_singleton]; omega, its ++ [u], _, r.append (.cons r1 .nil), q⟩, n1, q1⟩
  obtain ⟨f0, f1, f2, f3, f4, f5⟩ := f
  exact I1'.turned (t' := s1.toks) (fun b o hb z => (Heap.get?_update_other s1.heap _ (Ne.symm hb)).trans z) n1 f1 f3 f4 f5
/-- the tests of a clause -/
def semTests (ifs : List Expr) (env : Env) : Sem Bool := forIn ifs true fun c r => if r = true then do let ok ← isTrue c env (eval c env); pure (ForInStep.yield ok) else pure (ForInStep.yield r)
def PTs (X : Cx) (ifs : List Expr) (t : TT) : Prop :=
  ∀ (pins : List (Addr × Obj)) (s : Shared) (σ : St) (H : Hp) (Q : Bool → Hp → Prop), Inv X pins σ H s → t σ H Q → wpAny (model X.prog X.w) X.A (semTests ifs X.env) (TP X pins σ Q) X.xe s
def tNoTest : TT := fun _ H Q => Q true H
theorem pts_nil : PTs X [] tNoTest := fun pins s σ H Q I h => wpAny_tests_nil ⟨H, I, h⟩
theorem pts_one {c : Expr} {t : TT} (h : PT X c t) : PTs X [c] t := fun pins s σ H Q I q => wpAny_tests_one (h pins s σ H Q I q)

/-- a turn of a clause -/
def compTurnOf (p : Pos) (it : Value) (tg : Expr) (ifs : List Expr) (env : Env) (inner : Sem Unit) (c : Code) : Sem PySem.Fin := do
  standAt p
  match ← pyNext it with
  | none => pure (.done .next)
  | some v => do
    letOwnedTupleGo tg it v
    assign tg env v
    let ok ← semTests ifs env
    if ok = true then do inner; again c
    else again c
/-- W: the invariant by the turn and a measure -/
def clLoop (J : It) (g : TG) (tt : TT) (inner : TC) (K : St → Hp → List V → Prop) (σ : St) (H : Hp) (xs : List V) : Prop :=
  ∃ W : Nat → Nat → St → Hp → List V → Prop, (∃ m, W 0 m σ H xs) ∧ ∀ i m σ H xs, W i m σ H xs →
    (J.stop i H ∧ K σ H xs) ∨ (J.go i H ∧ ∃ N : St → Hp → List V → Prop, (∀ σ' H' xs', N σ' H' xs' → ∃ m', m' < m ∧ W (i + 1) m' σ' H' xs') ∧
      ∀ x H', J.yld i H x H' → g x σ H' fun σ2 H2 => tt σ2 H2 fun b H3 => if b = true then inner σ2 H3 xs N else N σ2 H3 xs)
theorem comp_loop {elt : Expr} {gens : List Comprehension} {sc : Scope} {ps : Pos} {d : Nat} {it : Addr} {tg : Expr} {ifs : List Expr} {p : Pos} {inner : Sem Unit} {g : TG} {tt : TT} {ti : TC} {J : It} {fp : List Addr} {tn : Nat → Heap → Prop}
    (hx : X.xe = fun _ _ => False) (hc : X.calm = true)
    (ht : compTurn (.ListComp elt gens sc ps) d (.ref it) (.ref D) X.env = compTurnOf p (.ref it) tg ifs X.env inner (.compLoop (.ListComp elt gens sc ps) d (.ref it) (.ref D) X.env))
    (hg : PG X tg g) (htt : PTs X ifs tt) (hi : PCl X D inner ti) (T : Turn X.prog X.w X.K tg J fp it tn)
    {pins : List (Addr × Obj)} {s : Shared} {σ : St} {H : Hp} {xs : List V} {K : St → Hp → List V → Prop} {R : Result → Shared → Prop} (I : Inv X pins σ H s) (a : AccAt s D xs) (f : FpOk X pins H D) (st : tn 0 s.heap) (hf : ∀ b ∈ fp, FpOk X pins H b) (hD : D ∉ fp)
    (h : clLoop J g tt ti K σ H xs) (hR : ∀ σ' H' xs' s', Inv X pins σ' H' s' → AccAt s' D xs' → H' D = none → K σ' H' xs' → R (.ok .next) s') :
    codeAny (model X.prog X.w) X.A (.compLoop (.ListComp elt gens sc ps) d (.ref it) (.ref D) X.env) R s := by
  obtain ⟨W, ⟨m0, w0⟩, turn⟩ := h
  have stat : ∀ {H' : Hp}, (∀ b ∈ fp, H' b = none) → ∀ b ∈ fp, FpOk X pins H' b := fun hn b hb => ⟨hn b hb, (hf b hb).2⟩
  have statD : ∀ {H' : Hp}, H' D = none → FpOk X pins H' D := fun hn => ⟨hn, f.2⟩
  refine codeAny_loop rfl (fun n s' => ∃ i σ' H' xs', Inv X pins σ' H' s' ∧ AccAt s' D xs' ∧ H' D = none ∧ tn i s'.heap ∧ (∀ b ∈ fp, H' b = none) ∧ W i n σ' H' xs') ?_ m0 ⟨0, σ, H, xs, I, a, f.1, st, fun b hb => (hf b hb).1, w0⟩
  rintro n s3 ⟨i, σ3, H3, xs3, I3, a3, n3, st3, fr3, w3⟩
  show wpAny _ X.A ((compTurn (.ListComp elt gens sc ps) d (.ref it) (.ref D) X.env).onRaise (fun x => do noteFrame x X.env; theTreesLotGoes x)) _ _ s3
  rw [ht]
  refine wpAny_onRaise (wpAny_mono (Q := fun fin s' => match fin with | .done f => R (.ok f) s' | .again c' => c' = .compLoop (.ListComp elt gens sc ps) d (.ref it) (.ref D) X.env ∧ ∃ m, m < n ∧ ∃ i σ' H' xs', Inv X pins σ' H' s' ∧ AccAt s' D xs' ∧ H' D = none ∧ tn i s'.heap ∧ (∀ b ∈ fp, H' b = none) ∧ W i m σ' H' xs') (E := fun _ _ => False) ?_ (fun _ _ z => z) fun _ _ z => z.elim)
  unfold compTurnOf
  refine wpAny_bind (wpAny_standAt (wpAny_bind ?_))
  have xe' : ∀ {α : Type} {m : Sem α} {Q : α → Shared → Prop} {s : Shared}, wpAny (model X.prog X.w) X.A m Q X.xe s → wpAny (model X.prog X.w) X.A m Q (fun _ _ => False) s := fun {α m Q s} z => by rw [hx] at z; exact z
  have I3' := I3.pinD a3 (statD n3)
  have fr3' : ∀ b ∈ fp, FpOk X (pins ++ pinsAt [D] s3.heap) H3 b := fun b hb => by
    obtain ⟨g0, g1, g2, g3, g4, g5⟩ := stat fr3 b hb
    refine ⟨g0, g1, g2, g3, g4, fun p hp => ?_⟩
    rcases List.mem_append.mp hp with z | z
    · exact g5 p (List.mem_append_left _ z)
    · rcases List.mem_append.mp z with z | z
      · exact g5 p (List.mem_append_right _ z)
      · have := (of_pinsAt z).1
        have e : p.1 = D := by simpa using this
        rw [e]; rintro rfl; exact hD hb
  rcases turn i n σ3 H3 xs3 w3 with ⟨stop, qn⟩ | ⟨go, N, hN, step⟩
  · refine thn (T.done X rfl rfl rfl hc i _ s3 σ3 H3 (fun _ _ => False) I3' fr3' st3 stop) fun r s4 ⟨hr, I4⟩ => ?_
    subst hr
    obtain ⟨a4, n4⟩ := Inv.atD a3 I4
    exact wpAny_pure (hR σ3 H3 xs3 s4 I4.unpinned a4 n4 qn)
  · refine thn (T.item X rfl rfl rfl hc i _ s3 σ3 H3 (fun _ _ => False) I3' fr3' st3 go) fun r s4 ⟨u, hr, h4⟩ => ?_
    subst hr
    refine wpAny_bind (thn h4 fun _ s5 ⟨x, H5, I5, r5, y5, st5, fr5⟩ => ?_)
    obtain ⟨a5, n5⟩ := Inv.atD a3 I5
    have I5u := I5.unpinned
    have I5p := I5u.pinned (stat fr5) (T.obj _ _ st5)
    have fD5 : FpOk X (pins ++ pinsAt fp s5.heap) H5 D := by
      obtain ⟨g0, g1, g2, g3, g4, g5⟩ := statD n5
      refine ⟨g0, g1, g2, g3, g4, fun p hp => ?_⟩
      rcases List.mem_append.mp hp with z | z
      · exact g5 p (List.mem_append_left _ z)
      · rcases List.mem_append.mp z with z | z
        · exact g5 p (List.mem_append_right _ z)
        · rintro rfl; exact hD (of_pinsAt z).1
    have I5' := I5p.pinD a5 fD5
    refine wpAny_bind (xe' (thn (hg _ s5 σ3 H5 x u _ I5' r5 (step x H5 y5)) fun _ s6 ⟨σ6, H6, I6, q6⟩ => ?_))
    obtain ⟨a6, n6⟩ := Inv.atD a5 I6
    have pin' : ∀ {s σ H}, Inv X (pins ++ pinsAt fp s5.heap) σ H s → tn (i + 1) s.heap ∧ ∀ b ∈ fp, H b = none := fun {s σ H} J => by
      refine ⟨T.keep _ _ _ st5 fun b hb o e => (J.pin (b, o) (List.mem_append_right _ (List.mem_append_right _ (mem_pinsAt hb e)))).1, fun b hb => ?_⟩
      obtain ⟨o, e, d⟩ := T.obj _ _ st5 b hb
      exact (J.pin (b, o) (List.mem_append_right _ (List.mem_append_right _ (mem_pinsAt hb e)))).2.1
    have fD6 : FpOk X (pins ++ pinsAt fp s5.heap) H6 D := ⟨n6, fD5.2⟩
    have I6u := I6.unpinned
    have I6p := I6u.pinD a6 fD6
    refine wpAny_bind (xe' (thn (htt _ s6 σ6 H6 _ I6p q6) fun b s7 ⟨H7, I7, q7⟩ => ?_))
    obtain ⟨a7, n7⟩ := Inv.atD a6 I7
    have I7u := I7.unpinned
    have fin : ∀ {s8 σ8 H8 xs8}, Inv X (pins ++ pinsAt fp s5.heap) σ8 H8 s8 → AccAt s8 D xs8 → H8 D = none → N σ8 H8 xs8 →
        ∃ m, m < n ∧ ∃ i σ' H' xs', Inv X pins σ' H' s8 ∧ AccAt s8 D xs' ∧ H' D = none ∧ tn i s8.heap ∧ (∀ b ∈ fp, H' b = none) ∧ W i m σ' H' xs' := fun {s8 σ8 H8 xs8} J a8 n8 q8 => by
      obtain ⟨m', hm, w8⟩ := hN σ8 H8 xs8 q8
      obtain ⟨t8, fr8⟩ := pin' J
      exact ⟨m', hm, i + 1, σ8, H8, xs8, J.unpinned, a8, n8, t8, fr8, w8⟩
    cases b with
    | true =>
      rw [if_pos rfl] at q7 ⊢
      have fD7 : FpOk X (pins ++ pinsAt fp s5.heap) H7 D := ⟨n7, fD5.2⟩
      refine wpAny_bind (xe' (thn (hi _ s7 σ6 H7 xs3 N I7u a7 fD7 q7) fun _ s8 ⟨σ8, H8, xs8, I8, a8, n8, q8⟩ => ?_))
      exact wpAny_pure ⟨rfl, fin I8 a8 n8 q8⟩
    | false =>
      rw [if_neg Bool.false_ne_true] at q7 ⊢
      exact wpAny_pure ⟨rfl, fin I7u a7 n7 q7⟩
end
end L2
namespace L2
open PySem PySem.Spec PyProof.Rows
/-! ### the turn of a comprehension, by its clauses -/
theorem turn_1 (elt tg iter : Expr) (ifs : List Expr) (sc : Scope) (ps : Pos) (it : Value) (D : Addr) (env : Env) :
    compTurn (.ListComp elt [⟨tg, iter, ifs, 0⟩] sc ps) 0 it (.ref D) env =
      compTurnOf iter.pos it tg ifs env (do let x ← eval elt env; let _ ← call (.builtin "list.append") [.ref D, x]; pure ()) (.compLoop (.ListComp elt [⟨tg, iter, ifs, 0⟩] sc ps) 0 it (.ref D) env) := by rfl
/-! ### a clause within, and the whole -/
section
variable {X : Cx} {D : Addr}
theorem codeAny_compStart {prog : Program} {w : World} {A : Around} {R : Result → Shared → Prop} {s : Shared} {elt : Expr} {gens : List Comprehension} {sc : Scope} {ps : Pos} {d : Nat} {it acc : Value} {env : Env} (ha : ((gens)[d]?).elim false (·.is_async != 0) = false)
    (h0 : codeAny (model prog w) A (.compLoop (.ListComp elt gens sc ps) d it acc env) R s)
    (h : wpAny (model prog w) A (pyIter it) (fun it' s' => codeAny (model prog w) A (.compLoop (.ListComp elt gens sc ps) d it' acc env) R s') (fun _ _ => False) s) :
    codeAny (model prog w) A (.compStart (.ListComp elt gens sc ps) d it acc env) R s := by
  refine codeAny_of_tree ?_
  show wpAny _ _ ((compStart (.ListComp elt gens sc ps) d it acc env).onRaise (fun x => do noteFrame x env; standAt theWindowsPlace)) _ _ s
  refine wpAny_notedAt (wpAny_mono (E := fun _ _ => False) ?_ (fun _ _ z => z) fun _ _ z => z.elim)
  unfold compStart
  rw [show ((clausesOf (.ListComp elt gens sc ps))[d]?).elim false (·.is_async != 0) = false from ha]
  simp only [Bool.false_eq_true, if_false]
  refine wpAny_bind (wpAny_askSetting (wpAny_ite ?_))
  split
  · first
      | exact wpAny_bind (wpAny_pure (wpAny_pure (And.intro rfl h0)))
      | exact wpAny_pure (And.intro rfl h0)
  · have fin : ∀ s : Shared, wpAny (model prog w) A (pyIter it) (fun it' s' => codeAny (model prog w) A (.compLoop (.ListComp elt gens sc ps) d it' acc env) R s') (fun _ _ => False) s →
        wpAny (model prog w) A (do let it' ← pyIter it; again (.compLoop (.ListComp elt gens sc ps) d it' acc env)) (fun fin s' => match fin with | .done f => R (.ok f) s' | .again c => c.quiet = true ∧ codeAny (model prog w) A c R s') (fun _ _ => False) s := fun s h => wpAny_bind (wpAny_mono h (fun it' s' h' => wpAny_pure ⟨rfl, h'⟩) fun _ _ x => x)
    refine wpAny_bind (wpAny_rule ?_)
    have ec : clausesOf (.ListComp elt gens sc ps) = gens := rfl
    rw [ec]
    cases q : gens[d]? with
    | none => exact fin s h
    | some g => exact wpAny_bind (wpAny_standAt (fin s h))
end
/-! ### the whole comprehension -/
/-- told as a list: the clauses' reading is run in the block, its names taken over by cap -/
def tComp (wi : TI) (cap : List (Option Nat)) (g : TG) (tt : TT) (inner : TC) : TE := fun σ H Q => wi σ H fun J H1 => clLoop J g tt inner (fun _ H' xs => ∀ p, H' p = none → Q (.ref p) (upd H' p (.lst xs))) (capSt cap σ) H1 []
section
variable {X : Cx}
/-- ahead of the end: the block has run -/
theorem comp_core {elt : Expr} {gens : List Comprehension} {sc : Scope} {ps : Pos} {tg iter : Expr} {ifs : List Expr} {rest : List Comprehension} {inner : Addr → Env → Sem Unit} {g : TG} {tt : TT} {ti : TC} {N : List Str} {cap : List (Option Nat)} {E : Value → Shared → Prop}
    (hc : X.calm = true) (C : CapOk X sc N cap) (eg : gens = ⟨tg, iter, ifs, 0⟩ :: rest)
    (ht : ∀ it D env, compTurn (.ListComp elt gens sc ps) 0 (.ref it) (.ref D) env = compTurnOf iter.pos (.ref it) tg ifs env (inner D env) (.compLoop (.ListComp elt gens sc ps) 0 (.ref it) (.ref D) env))
    (hg : ∀ s H ex, PG (blk X sc N s H ex) tg g) (htt : ∀ s H ex, PTs (blk X sc N s H ex) ifs tt) (hin : ∀ s H ex D, PCl (blk X sc N s H ex) D (inner D (blk X sc N s H ex).env) ti)
    {pins : List (Addr × Obj)} {s2 : Shared} {σ : St} {H2 : Hp} {K : St → Hp → List V → Prop} {it : Addr} {fp : List Addr} {tn : Nat → Heap → Prop} {J : It} (I2 : Inv X pins σ H2 s2) (T : Turn X.prog X.w X.K tg J fp it tn) (st2 : tn 0 s2.heap) (f2 : ∀ b ∈ fp, FpOk X pins H2 b)
    (lp : clLoop J g tt ti K (capSt cap σ) H2 []) {R : Value → Addr → Result → Shared → Prop}
    (hR : ∀ σ' H' xs (s3 s' : Shared) (C D : Addr), X.s₀.heap.objs.size ≤ D → C = s3.heap.objs.size → (∃ m, s'.heap.Ns C m) → AccAt s' D xs → FpOk X pins H' D → FpOk X pins H' C → D < C → (∀ h', Heap.SameBut C s'.heap h' → Inv X pins σ H' { s' with heap := h' }) → K σ' H' xs → R (.ref D) C (.ok .next) s') :
    wpAny (model X.prog X.w) X.A (newList []) (fun acc s3 => wpAny (model X.prog X.w) X.A (newFunctionEnv sc X.env.globals (closL X.env sc.names []) [] X.env.qual none .none (some X.env)) (fun cenv s4 =>
      codeAny (model X.prog X.w) X.A (.compStart (.ListComp elt gens sc ps) 0 (.ref it) acc { cenv with scope := relabel sc X.env }) (R acc cenv.locals) s4) E s3) E s2 := by
  refine wpAny_newObj_type (newEnv_blk ?_)
  dsimp only
  -- s3: the empty list stands at D
  generalize hs3 : ({ s2 with heap := s2.heap.push { cls := .type "list", dict := none, data := .seq ([] : List Value).toArray } } : Shared) = s3
  have kp : ∀ b o, s2.heap.get? b = some o → s3.heap.get? b = some o := fun b o e => by rw [← hs3]; exact Heap.get?_push_of_some _ e
  have I3 : Inv X pins σ H2 s3 := by rw [← hs3]; exact I2.kept (t' := s2.toks) fun b o e => Heap.get?_push_of_some _ e
  have eD : s3.heap.get? s2.heap.objs.size = some { cls := .type "list", data := .seq ([] : List Value).toArray 0 } := by rw [← hs3]; exact Heap.get?_push_size _ rfl
  have nD : H2 s2.heap.objs.size = none := I2.hok.fresh (Nat.le_refl _)
  have fD : FpOk X pins H2 s2.heap.objs.size := I2.fpOk (Nat.le_refl _) nD
  have hlt : s2.heap.objs.size < s3.heap.objs.size := Heap.lt_size eD
  have hex : ∀ b ∈ s2.heap.objs.size :: fp, FpOk X pins H2 b ∧ b < s3.heap.objs.size := fun b hb => by
    rcases List.mem_cons.mp hb with rfl | hb
    · exact ⟨fD, hlt⟩
    · obtain ⟨o, e, _⟩ := T.obj 0 _ st2 b hb
      exact ⟨f2 b hb, Heap.lt_size (kp b o e)⟩
  have hDfp : s2.heap.objs.size ∉ fp := fun z => by
    obtain ⟨o, e, _⟩ := T.obj 0 _ st2 _ z
    exact Nat.lt_irrefl _ (Heap.lt_size e)
  have I4 := blk_inv (N := N) (ex := s2.heap.objs.size :: fp) I3 C hex
  have F4 := blk_fp (N := N) I3 C hex
  have st4 : tn 0 (pushCells (s3.heap.push { cls := .type "dict", data := .dict #[] }) sc.names) := T.keep 0 _ _ st2 fun b hb o e => pushCells_keeps _ _ _ _ (Heap.get?_push_of_some _ (kp b o e))
  have a4 : AccAt { s3 with heap := pushCells (s3.heap.push { cls := .type "dict", data := .dict #[] }) sc.names } s2.heap.objs.size [] := ⟨Nat.zero_le _, [], 0, .nil, pushCells_keeps _ _ _ _ (Heap.get?_push_of_some _ eD)⟩
  have loop : codeAny (model X.prog X.w) X.A (.compLoop (.ListComp elt gens sc ps) 0 (.ref it) (.ref s2.heap.objs.size) (blk X sc N s3 H2 (s2.heap.objs.size :: fp)).env) (R (.ref s2.heap.objs.size) s3.heap.objs.size)
      { s3 with heap := pushCells (s3.heap.push { cls := .type "dict", data := .dict #[] }) sc.names } := by
    refine comp_loop (X := blk X sc N s3 H2 (s2.heap.objs.size :: fp)) rfl hc (ht it _ _) (hg _ _ _) (htt _ _ _) (hin _ _ _ _) T I4 a4 (F4 _ (List.mem_cons_self ..)) st4 (fun b hb => F4 b (List.mem_cons_of_mem _ hb)) hDfp lp fun σ' H' xs' s' I' a' n' k' => ?_
    obtain ⟨m, hn, _⟩ := I'.loc
    exact hR σ' H' xs' s3 s' _ _ (Nat.le_trans I2.sz (Nat.le_refl _)) rfl ⟨m, hn⟩ a' ⟨n', fD.2⟩ (I3.fpOk (Nat.le_refl _) I'.free) hlt (fun h' hh => blk_out I3 hex I' hh) k'
  have ha : ((gens)[0]?).elim false (·.is_async != 0) = false := by rw [eg]; rfl
  subst hs3
  exact codeAny_compStart ha loop (T.self _ 0 _ _ _ st4 loop)
theorem pe_comp {elt : Expr} {gens : List Comprehension} {sc : Scope} {ps : Pos} {tg iter : Expr} {ifs : List Expr} {rest : List Comprehension} {inner : Addr → Env → Sem Unit} {wi : TI} {g : TG} {tt : TT} {ti : TC} {N : List Str} {cap : List (Option Nat)}
    (hc : X.calm = true) (C : CapOk X sc N cap) (eg : gens = ⟨tg, iter, ifs, 0⟩ :: rest)
    (ht : ∀ it D env, compTurn (.ListComp elt gens sc ps) 0 (.ref it) (.ref D) env = compTurnOf iter.pos (.ref it) tg ifs env (inner D env) (.compLoop (.ListComp elt gens sc ps) 0 (.ref it) (.ref D) env))
    (hi : PI X tg iter wi) (hg : ∀ s H ex, PG (blk X sc N s H ex) tg g) (htt : ∀ s H ex, PTs (blk X sc N s H ex) ifs tt) (hin : ∀ s H ex D, PCl (blk X sc N s H ex) D (inner D (blk X sc N s H ex).env) ti)
    (hs : ∀ x, foldedSetIterable iter X.env x = pure x) : PE X (.ListComp elt gens sc ps) (tComp wi cap g tt ti) := by
  intro pins s σ H Q I h
  rw [eval_ListComp]
  have hcl : closureFor sc X.env = pure (closL X.env sc.names []) := closureFor_eq fun x hx => I.ok.has x (C.free x hx)
  have e1 : firstAsync gens = false := by rw [eg]; rfl
  have e2 : firstIter gens X.env = eval iter X.env := by rw [eg]; rfl
  rw [e1, e2]
  refine wpAny_comprehension_free (use := none) (g := ⟨tg, iter, ifs, 0⟩) (gs := rest) (by rw [eg]; rfl) hs hcl C.kind C.nd (thn (hi pins s σ H _ I h) fun v s1 h1 => thn h1 fun itv s2 h2 => ?_)
  obtain ⟨it, fp, tn, J, H2, e, I2, T, st2, f2, lp⟩ := h2
  subst e
  refine comp_core (N := N) (inner := inner) (R := fun acc C => compPost (model X.prog X.w) X.A X.xe none (EP X pins σ Q) acc C) hc C eg ht hg htt hin I2 T st2 f2 lp ?_
  intro σ' H' xs s3 s' C D hD0 hC hn a f fC hDC hout k
  obtain ⟨m, hn⟩ := hn
  refine ⟨m, hn, fun h' hh => ?_⟩
  have I5 := hout h' hh
  obtain ⟨hz, its, n, r, eD⟩ := a
  have eD' : h'.get? D = some { cls := .type "list", data := .seq its.toArray n } := (hh.2 D (Nat.ne_of_lt hDC)).trans eD
  refine ⟨.ref D, upd H' D (.lst xs), I5.adopt f hD0 ⟨hz, its, n, r, eD'⟩, rfl, k D f.1⟩
end
end L2
namespace L2
open PySem PySem.Spec PyProof.Rows
section
variable {X : Cx}
/-- name = [..] in one row: the name is stored ahead of the letting go -/
theorem ps_setcomp {i : Nat} {x : Str} {px pos : Pos} {elt : Expr} {gens : List Comprehension} {sc : Scope} {ps : Pos} {tg iter : Expr} {ifs : List Expr} {rest : List Comprehension} {inner : Addr → Env → Sem Unit} {wi : TI} {g : TG} {tt : TT} {ti : TC} {N : List Str} {cap : List (Option Nat)}
    (hsw : swapsWith (.ListComp elt gens sc ps) (some (.Name x px)) pos.line X.env = pure true) (hN : X.N.Nodup) (hi' : X.N[i]? = some x) (hx : X.env.scope.names.lookup x = some .local)
    (hc : X.calm = true) (C : CapOk X sc N cap) (eg : gens = ⟨tg, iter, ifs, 0⟩ :: rest)
    (ht : ∀ it D env, compTurn (.ListComp elt gens sc ps) 0 (.ref it) (.ref D) env = compTurnOf iter.pos (.ref it) tg ifs env (inner D env) (.compLoop (.ListComp elt gens sc ps) 0 (.ref it) (.ref D) env))
    (hi : PI X tg iter wi) (hg : ∀ s H ex, PG (blk X sc N s H ex) tg g) (htt : ∀ s H ex, PTs (blk X sc N s H ex) ifs tt) (hin : ∀ s H ex D, PCl (blk X sc N s H ex) D (inner D (blk X sc N s H ex).env) ti)
    (hs : ∀ x, foldedSetIterable iter X.env x = pure x) : PS X (.Assign [.Name x px] (.ListComp elt gens sc ps) pos) (tAsg (tComp wi cap g tt ti) (gName i)) := by
  intro pins s σ H D I h
  rw [exec_Assign_Name_used _ _ _ _ hsw]
  have hcl : closureFor sc X.env = pure (closL X.env sc.names []) := closureFor_eq fun x hx => I.ok.has x (C.free x hx)
  have e1 : firstAsync gens = false := by rw [eg]; rfl
  have e2 : firstIter gens X.env = eval iter X.env := by rw [eg]; rfl
  refine wpAny_bind (wpAny_standAt (wpAny_bind ?_))
  show wpAny _ X.A (do let _ ← comprehension (.ListComp elt gens sc ps) sc X.env (firstIterPos gens ps) (newList []) (firstAsync gens) (firstIter gens X.env) (some (assign (.Name x px) X.env))) _ _ s
  rw [e1, e2]
  refine wpAny_bind (thn (wpAny_comprehension_free (use := some (assign (.Name x px) X.env)) (Q := fun _ s' => SP X pins D .next s') (g := ⟨tg, iter, ifs, 0⟩) (gs := rest) (by rw [eg]; rfl) hs hcl C.kind C.nd (thn (hi pins s σ H _ I h) fun v s1 h1 => thn h1 fun itv s2 h2 => ?_)) fun _ s' hq => wpAny_pure (wpAny_pure hq))
  obtain ⟨it, fp, tn, J, H2, e, I2, T, st2, f2, lp⟩ := h2
  subst e
  refine comp_core (N := N) (inner := inner) (R := fun acc C => compPost (model X.prog X.w) X.A X.xe (some (assign (.Name x px) X.env)) (fun _ s' => SP X pins D .next s') acc C) hc C eg ht hg htt hin I2 T st2 f2 lp ?_
  intro σ' H' xs s3 s' C D' hD0 hC hn a f fC hDC hout k
  obtain ⟨m, hn⟩ := hn
  have I5 : Inv X pins σ H' s' := hout s'.heap (Heap.SameBut.refl ..)
  obtain ⟨hz, its, n, r, eD⟩ := a
  have I6 : Inv X pins σ (upd H' D' (.lst xs)) s' := I5.adopt f hD0 ⟨hz, its, n, r, eD⟩
  show wpAny _ X.A (assign (.Name x px) X.env (.ref D')) _ _ s'
  obtain ⟨c0, c1, c2, c3, c4, c5⟩ := fC
  have nC : upd H' D' (.lst xs) C = none := by rw [upd_ne (Ne.symm (Nat.ne_of_lt hDC))]; exact c0
  refine wpAny_assign_Name (store_ok2 (v := V.ref D') I6 hN hi' (.inl hx) rfl (fun s'' I7 ⟨a, sb, ha⟩ => ?_) (.inr hx))
  have hCa : C ≠ a := by
    rcases ha with z | z
    · rw [z]; exact c1
    · exact Ne.symm (c4 x a z)
  refine ⟨m, hn.sameBut sb hCa, fun h' hh => ?_⟩
  have I8 : Inv X pins (σ.set i (some (.ref D'))) (upd H' D' (.lst xs)) { s'' with heap := h' } := I7.turned (t' := s''.toks) (fun b o hb e => (hh.2 b hb).trans e) nC c1 c3 c4 c5
  exact ⟨_, _, I8, k D' f.1⟩
end
end L2
/-! Plain data: what a value stands for, over the tracked heap. -/
namespace L2
open PySem PySem.Spec PyProof.Rows
inductive Dt where
  | non | bl (b : Bool) | int (i : Int) | str (x : Str) | tup (xs : List Dt) | lst (xs : List Dt) | dct
mutual
/-- v stands for the data; P holds of the lists' addresses -/
def Den (P : Addr → Prop) (H : Hp) : Dt → V → Prop
  | .non, v => v = .non
  | .bl b, v => v = .bl b
  | .int i, v => v = .int i
  | .str x, v => v = .str x
  | .tup ds, v => ∃ a vs, v = .ref a ∧ H a = some (.tup vs) ∧ DenL P H ds vs
  | .lst ds, v => ∃ a vs, v = .ref a ∧ P a ∧ H a = some (.lst vs) ∧ DenL P H ds vs
  | .dct, v => ∃ a, v = .ref a ∧ P a ∧ H a = some (.dK [])
def DenL (P : Addr → Prop) (H : Hp) : List Dt → List V → Prop
  | [], vs => vs = []
  | d :: ds, vs => ∃ v r, vs = v :: r ∧ Den P H d v ∧ DenL P H ds r
end
/-- all is as it was but at a, and the tuples -/
structure Keep (Q : Addr → Prop) (H H' : Hp) : Prop where
  at_ : ∀ b o, Q b → H b = some o → H' b = some o
  tup : ∀ b xs, H b = some (.tup xs) → H' b = some (.tup xs)
theorem Keep.refl {Q : Addr → Prop} (H : Hp) : Keep Q H H := ⟨fun _ _ _ e => e, fun _ _ e => e⟩
theorem Keep.trans {Q : Addr → Prop} {H H1 H2 : Hp} (a : Keep Q H H1) (b : Keep Q H1 H2) : Keep Q H H2 := ⟨fun c o q e => b.at_ c o q (a.at_ c o q e), fun c xs e => b.tup c xs (a.tup c xs e)⟩
theorem Same.keep {Q : Addr → Prop} {H H' : Hp} (s : Same H H') : Keep Q H H' := ⟨fun b o _ e => s b o e, fun b xs e => s b _ e⟩
theorem Keep.mono {Q Q' : Addr → Prop} {H H' : Hp} (k : Keep Q H H') (h : ∀ b, Q' b → Q b) : Keep Q' H H' := ⟨fun b o q e => k.at_ b o (h b q) e, k.tup⟩
theorem Same.upd {H : Hp} {p : Addr} {o : HO} (h : H p = none) : Same H (upd H p o) := fun b u e => by rw [upd_ne (ne_of_none e h)]; exact e
/-- a list is written: all else stays -/
theorem Keep.write {H : Hp} {a : Addr} {xs : List V} {o : HO} (h : H a = some (.lst xs)) : Keep (· ≠ a) H (L2.upd H a o) :=
  ⟨fun b u q e => by rw [upd_ne q]; exact e, fun b ys e => by
    rw [upd_ne]; exact e
    rintro rfl; rw [h] at e; cases e⟩
mutual
theorem Den.keep {P : Addr → Prop} {H H' : Hp} (k : Keep P H H') : ∀ (d : Dt) (v : V), Den P H d v → Den P H' d v
  | .non, v, h => h
  | .bl b, v, h => h
  | .int i, v, h => h
  | .str x, v, h => h
  | .tup ds, v, h => by
    obtain ⟨a, vs, e, h1, h2⟩ := h
    exact ⟨a, vs, e, k.tup a vs h1, DenL.keep k ds vs h2⟩
  | .lst ds, v, h => by
    obtain ⟨a, vs, e, p, h1, h2⟩ := h
    exact ⟨a, vs, e, p, k.at_ a _ p h1, DenL.keep k ds vs h2⟩
  | .dct, v, h => by
    obtain ⟨a, e, p, h1⟩ := h
    exact ⟨a, e, p, k.at_ a _ p h1⟩
theorem DenL.keep {P : Addr → Prop} {H H' : Hp} (k : Keep P H H') : ∀ (ds : List Dt) (vs : List V), DenL P H ds vs → DenL P H' ds vs
  | [], vs, h => h
  | d :: ds, vs, h => by
    obtain ⟨v, r, e, h1, h2⟩ := h
    exact ⟨v, r, e, Den.keep k d v h1, DenL.keep k ds r h2⟩
end
theorem DenL.length {P : Addr → Prop} {H : Hp} : ∀ {ds : List Dt} {vs : List V}, DenL P H ds vs → vs.length = ds.length
  | [], vs, h => by rw [DenL] at h; rw [h]; rfl
  | d :: ds, vs, h => by
    rw [DenL] at h
    obtain ⟨v, r, rfl, _, h2⟩ := h
    simp [DenL.length h2]
theorem DenL.get {P : Addr → Prop} {H : Hp} : ∀ {ds : List Dt} {vs : List V} {i : Nat} {v : V}, DenL P H ds vs → vs[i]? = some v → ∃ d, ds[i]? = some d ∧ Den P H d v
  | [], vs, i, v, h, e => by rw [DenL] at h; rw [h] at e; simp at e
  | d :: ds, vs, i, v, h, e => by
    rw [DenL] at h
    obtain ⟨w, r, rfl, h1, h2⟩ := h
    cases i with
    | zero => simp at e; subst e; exact ⟨d, rfl, h1⟩
    | succ i => simp at e; exact DenL.get (i := i) h2 e
theorem DenL.append {P : Addr → Prop} {H : Hp} : ∀ {ds es : List Dt} {vs ws : List V}, DenL P H ds vs → DenL P H es ws → DenL P H (ds ++ es) (vs ++ ws)
  | [], es, vs, ws, h, g => by rw [DenL] at h; subst h; exact g
  | d :: ds, es, vs, ws, h, g => by
    rw [DenL] at h
    obtain ⟨v, r, rfl, h1, h2⟩ := h
    exact ⟨v, r ++ ws, rfl, h1, DenL.append h2 g⟩
theorem DenL.nil {P : Addr → Prop} {H : Hp} : DenL P H [] [] := by rw [DenL]
theorem DenL.cons {P : Addr → Prop} {H : Hp} {d : Dt} {v : V} {ds : List Dt} {vs : List V} (h : Den P H d v) (t : DenL P H ds vs) : DenL P H (d :: ds) (v :: vs) := by rw [DenL]; exact ⟨v, vs, rfl, h, t⟩
theorem DenL.take {P : Addr → Prop} {H : Hp} : ∀ {ds : List Dt} {vs : List V} (n : Nat), DenL P H ds vs → DenL P H (ds.take n) (vs.take n)
  | [], vs, n, h => by rw [DenL] at h; subst h; simp [DenL.nil]
  | d :: ds, vs, n, h => by
    rw [DenL] at h
    obtain ⟨v, r, rfl, h1, h2⟩ := h
    cases n with
    | zero => exact DenL.nil
    | succ n => exact DenL.cons h1 (DenL.take n h2)
theorem DenL.drop {P : Addr → Prop} {H : Hp} : ∀ {ds : List Dt} {vs : List V} (n : Nat), DenL P H ds vs → DenL P H (ds.drop n) (vs.drop n)
  | [], vs, n, h => by rw [DenL] at h; subst h; simp [DenL.nil]
  | d :: ds, vs, n, h => by
    rw [DenL] at h
    obtain ⟨v, r, rfl, h1, h2⟩ := h
    cases n with
    | zero => exact DenL.cons h1 h2
    | succ n => exact DenL.drop n h2
/-! ### Python's == of data -/
mutual
def deq : Dt → Dt → Bool
  | .non, .non => true
  | .bl a, .bl b => a == b
  | .bl a, .int j => (if a then 1 else 0) == j
  | .int i, .bl b => i == (if b then 1 else 0)
  | .int i, .int j => i == j
  | .str x, .str y => x == y
  | .tup xs, .tup ys => deqL xs ys
  | .lst xs, .lst ys => deqL xs ys
  | _, _ => false
def deqL : List Dt → List Dt → Bool
  | [], [] => true
  | x :: xs, y :: ys => deq x y && deqL xs ys
  | _, _ => false
end
mutual
def dep : Dt → Nat
  | .tup xs => depL xs + 1
  | .lst xs => depL xs + 1
  | _ => 0
def depL : List Dt → Nat
  | [] => 0
  | x :: xs => max (dep x) (depL xs)
end
/-! without dicts -/
mutual
def nod : Dt → Bool
  | .tup xs => nodL xs
  | .lst xs => nodL xs
  | .dct => false
  | _ => true
def nodL : List Dt → Bool
  | [] => true
  | x :: xs => nod x && nodL xs
end
mutual
theorem deq_refl : ∀ d : Dt, nod d = true → deq d d = true
  | .non, _ => rfl
  | .bl b, _ => by simp [deq]
  | .int i, _ => by simp [deq]
  | .str x, _ => by simp [deq]
  | .tup xs, h => by rw [deq]; exact deqL_refl xs (by rw [nod] at h; exact h)
  | .lst xs, h => by rw [deq]; exact deqL_refl xs (by rw [nod] at h; exact h)
  | .dct, h => by simp [nod] at h
theorem deqL_refl : ∀ l : List Dt, nodL l = true → deqL l l = true
  | [], _ => rfl
  | x :: xs, h => by
    rw [nodL, Bool.and_eq_true] at h
    rw [deqL, deq_refl x h.1, deqL_refl xs h.2]
    rfl
end
theorem depL_mem : ∀ {l : List Dt} {d : Dt}, d ∈ l → dep d ≤ depL l
  | x :: xs, d, h => by
    rw [depL]
    rcases List.mem_cons.mp h with rfl | h
    · omega
    · have := depL_mem h; omega
theorem nodL_mem : ∀ {l : List Dt} {d : Dt}, nodL l = true → d ∈ l → nod d = true
  | x :: xs, d, h, hd => by
    rw [nodL, Bool.and_eq_true] at h
    rcases List.mem_cons.mp hd with rfl | hd
    · exact h.1
    · exact nodL_mem h.2 hd
theorem deqL_range : ∀ {xs ys : List Dt}, xs.length = ys.length → deqL xs ys = (List.range xs.length).all fun i => deq (xs.getD i .non) (ys.getD i .non)
  | [], [], _ => rfl
  | x :: xs, y :: ys, h => by
    rw [deqL, deqL_range (xs := xs) (ys := ys) (by simpa using h), List.length_cons, List.range_succ_eq_map, List.all_cons, List.all_map]
    rfl
theorem deqL_len : ∀ {xs ys : List Dt}, xs.length ≠ ys.length → deqL xs ys = false
  | [], [], h => absurd rfl h
  | [], _ :: _, _ => rfl
  | _ :: _, [], _ => rfl
  | x :: xs, y :: ys, h => by
    rw [deqL, deqL_len (xs := xs) (ys := ys) (by simpa using h), Bool.and_false]
end L2
namespace L2
open PySem PySem.Spec PyProof.Rows
mutual
theorem Den.inj {P : Addr → Prop} {H : Hp} : ∀ (d d' : Dt) (v : V), Den P H d v → Den P H d' v → d = d'
  | .non, d', v, h, h' => by
    rw [Den] at h; subst h
    cases d' <;> rw [Den] at h' <;> first | rfl | (obtain ⟨_, _, e, _⟩ := h'; cases e; done) | (obtain ⟨_, e, _⟩ := h'; cases e; done) | (cases h'; done)
  | .bl b, d', v, h, h' => by
    rw [Den] at h; subst h
    cases d' <;> rw [Den] at h' <;> first | (obtain ⟨_, _, e, _⟩ := h'; cases e; done) | (obtain ⟨_, e, _⟩ := h'; cases e; done) | (cases h'; done) | (cases h'; rfl)
  | .int b, d', v, h, h' => by
    rw [Den] at h; subst h
    cases d' <;> rw [Den] at h' <;> first | (obtain ⟨_, _, e, _⟩ := h'; cases e; done) | (obtain ⟨_, e, _⟩ := h'; cases e; done) | (cases h'; done) | (cases h'; rfl)
  | .str b, d', v, h, h' => by
    rw [Den] at h; subst h
    cases d' <;> rw [Den] at h' <;> first | (obtain ⟨_, _, e, _⟩ := h'; cases e; done) | (obtain ⟨_, e, _⟩ := h'; cases e; done) | (cases h'; done) | (cases h'; rfl)
  | .tup ds, d', v, h, h' => by
    rw [Den] at h
    obtain ⟨a, vs, rfl, h1, h2⟩ := h
    cases d' with
    | tup ds' =>
      rw [Den] at h'
      obtain ⟨a', vs', e, h1', h2'⟩ := h'
      cases e
      rw [h1] at h1'; cases h1'
      rw [DenL.inj ds ds' vs h2 h2']
    | lst ds' =>
      rw [Den] at h'
      obtain ⟨a', vs', e, _, h1', h2'⟩ := h'
      cases e
      rw [h1] at h1'; cases h1'
    | dct =>
      rw [Den] at h'
      obtain ⟨a', e, _, h1'⟩ := h'
      cases e
      rw [h1] at h1'; cases h1'
    | _ => rw [Den] at h'; cases h'
  | .lst ds, d', v, h, h' => by
    rw [Den] at h
    obtain ⟨a, vs, rfl, _, h1, h2⟩ := h
    cases d' with
    | tup ds' =>
      rw [Den] at h'
      obtain ⟨a', vs', e, h1', h2'⟩ := h'
      cases e
      rw [h1] at h1'; cases h1'
    | lst ds' =>
      rw [Den] at h'
      obtain ⟨a', vs', e, _, h1', h2'⟩ := h'
      cases e
      rw [h1] at h1'; cases h1'
      rw [DenL.inj ds ds' vs h2 h2']
    | dct =>
      rw [Den] at h'
      obtain ⟨a', e, _, h1'⟩ := h'
      cases e
      rw [h1] at h1'; cases h1'
    | _ => rw [Den] at h'; cases h'
  | .dct, d', v, h, h' => by
    rw [Den] at h
    obtain ⟨a, rfl, _, h1⟩ := h
    cases d' with
    | tup ds' =>
      rw [Den] at h'
      obtain ⟨a', vs', e, h1', h2'⟩ := h'
      cases e
      rw [h1] at h1'; cases h1'
    | lst ds' =>
      rw [Den] at h'
      obtain ⟨a', vs', e, _, h1', h2'⟩ := h'
      cases e
      rw [h1] at h1'; cases h1'
    | dct => rfl
    | _ => rw [Den] at h'; cases h'
theorem DenL.inj {P : Addr → Prop} {H : Hp} : ∀ (ds ds' : List Dt) (vs : List V), DenL P H ds vs → DenL P H ds' vs → ds = ds'
  | [], ds', vs, h, h' => by
    rw [DenL] at h; subst h
    cases ds' with
    | nil => rfl
    | cons d ds' => rw [DenL] at h'; obtain ⟨_, _, e, _⟩ := h'; cases e
  | d :: ds, ds', vs, h, h' => by
    rw [DenL] at h
    obtain ⟨v, r, rfl, h1, h2⟩ := h
    cases ds' with
    | nil => rw [DenL] at h'; cases h'
    | cons d' ds' =>
      rw [DenL] at h'
      obtain ⟨v', r', e, h1', h2'⟩ := h'
      cases e
      rw [Den.inj d d' v h1 h1', DenL.inj ds ds' r h2 h2']
end
section
variable {Pg : Program} {w : World} {P : Addr → Prop} {H : Hp} {s : Shared}
theorem den_tup (hok : HOk Pg w H s.heap) {a : Addr} {vs : List V} (e : H a = some (.tup vs)) : ∃ its : List Value, Vals vs its ∧ s.heap.IsTuple a its.toArray := by
  obtain ⟨_, its, r, p⟩ := (show ObjOk Pg w H s.heap a (.tup vs) from hok a _ e)
  exact ⟨its, r, p.tup⟩
theorem den_lst (hok : HOk Pg w H s.heap) {a : Addr} {vs : List V} (e : H a = some (.lst vs)) : ∃ its : List Value, Vals vs its ∧ s.heap.IsList a its.toArray := by
  obtain ⟨_, its, n, r, p⟩ := (show ObjOk Pg w H s.heap a (.lst vs) from hok a _ e)
  exact ⟨its, r, _, p, rfl, n, rfl⟩
theorem vals_at {vs : List V} {its : List Value} (r : Vals vs its) {j : Nat} (h : j < its.toArray.size) : ∃ v, vs[j]? = some v ∧ RelV v its.toArray[j] := by
  have hl := r.length
  have h' : j < its.length := by simpa using h
  have hv : j < vs.length := by omega
  obtain ⟨u, e, q⟩ := r.get (i := j) (x := vs[j]) (List.getElem?_eq_getElem hv)
  refine ⟨vs[j], List.getElem?_eq_getElem hv, ?_⟩
  have : its.toArray[j] = u := by
    have : its[j]? = some its[j] := List.getElem?_eq_getElem h'
    rw [this] at e
    simpa using e
  rw [this]
  exact q
theorem rcAt_D (hok : HOk Pg w H s.heap) : ∀ (n : Nat) (A : Around) (d d' : Dt) (v v' : V) (u u' : Value), dep d ≤ n → A.units + n + 1 < cLine → nod d = true → nod d' = true → Den P H d v → Den P H d' v' → RelV v u → RelV v' u' →
    SeqAt.RcAt A s u u' (deq d d') ∧ SeqAt.EqAt A s u u' (deq d d') := by
  intro n
  induction n with
  | zero =>
    intro A d d' v v' u u' hn hu n1 n2 h h' r r'
    have hu' : A.units < cLine := by omega
    cases d with
    | non =>
      rw [Den] at h; subst h; cases r
      cases d' with
      | non =>
        rw [Den] at h'; subst h'; cases r'
        exact ⟨SeqAt.RcAt.none_none, SeqAt.EqAt.same _⟩
      | bl b' =>
        rw [Den] at h'; subst h'; cases r'
        exact ⟨SeqAt.RcAt.none_bool _, SeqAt.EqAt.none_bool _⟩
      | int i' =>
        rw [Den] at h'; subst h'; obtain ⟨t2, rfl⟩ := r'
        exact ⟨SeqAt.RcAt.none_int _ _, SeqAt.EqAt.none_int _ _⟩
      | str x' =>
        rw [Den] at h'; subst h'; obtain ⟨t2, rfl⟩ := r'
        exact ⟨SeqAt.RcAt.none_str _ _, SeqAt.EqAt.none_str _ _⟩
      | tup ds' =>
        rw [Den] at h'; obtain ⟨a2, vs2, rfl, e2, g2⟩ := h'; cases r'; obtain ⟨its2, q2, tp2⟩ := den_tup hok e2
        exact ⟨SeqAt.RcAt.none_tuple  tp2 hu', SeqAt.EqAt.none_tuple  tp2 hu'⟩
      | lst ds' =>
        rw [Den] at h'; obtain ⟨a2, vs2, rfl, _, e2, g2⟩ := h'; cases r'; obtain ⟨its2, q2, tp2⟩ := den_lst hok e2
        exact ⟨SeqAt.RcAt.none_list  tp2 hu', SeqAt.EqAt.none_list  tp2 hu'⟩
      | dct => simp [nod] at n2
    | bl b =>
      rw [Den] at h; subst h; cases r
      cases d' with
      | non =>
        rw [Den] at h'; subst h'; cases r'
        exact ⟨SeqAt.RcAt.bool_none _, SeqAt.EqAt.bool_none _⟩
      | bl b' =>
        rw [Den] at h'; subst h'; cases r'
        exact ⟨SeqAt.RcAt.bool_bool _ _, SeqAt.EqAt.bool_bool _ _⟩
      | int i' =>
        rw [Den] at h'; subst h'; obtain ⟨t2, rfl⟩ := r'
        exact ⟨SeqAt.RcAt.bool_int _ _ _, SeqAt.EqAt.bool_int _ _ _⟩
      | str x' =>
        rw [Den] at h'; subst h'; obtain ⟨t2, rfl⟩ := r'
        exact ⟨SeqAt.RcAt.bool_str _ _ _, SeqAt.EqAt.bool_str _ _ _⟩
      | tup ds' =>
        rw [Den] at h'; obtain ⟨a2, vs2, rfl, e2, g2⟩ := h'; cases r'; obtain ⟨its2, q2, tp2⟩ := den_tup hok e2
        exact ⟨SeqAt.RcAt.bool_tuple _ tp2 hu', SeqAt.EqAt.bool_tuple _ tp2 hu'⟩
      | lst ds' =>
        rw [Den] at h'; obtain ⟨a2, vs2, rfl, _, e2, g2⟩ := h'; cases r'; obtain ⟨its2, q2, tp2⟩ := den_lst hok e2
        exact ⟨SeqAt.RcAt.bool_list _ tp2 hu', SeqAt.EqAt.bool_list _ tp2 hu'⟩
      | dct => simp [nod] at n2
    | int i =>
      rw [Den] at h; subst h; obtain ⟨t1, rfl⟩ := r
      cases d' with
      | non =>
        rw [Den] at h'; subst h'; cases r'
        exact ⟨SeqAt.RcAt.int_none _ _, SeqAt.EqAt.int_none _ _⟩
      | bl b' =>
        rw [Den] at h'; subst h'; cases r'
        exact ⟨SeqAt.RcAt.int_bool _ _ _, SeqAt.EqAt.int_bool _ _ _⟩
      | int i' =>
        rw [Den] at h'; subst h'; obtain ⟨t2, rfl⟩ := r'
        exact ⟨SeqAt.RcAt.int_int _ _ _ _, SeqAt.EqAt.int_int _ _ _ _⟩
      | str x' =>
        rw [Den] at h'; subst h'; obtain ⟨t2, rfl⟩ := r'
        exact ⟨SeqAt.RcAt.int_str _ _ _ _, SeqAt.EqAt.int_str _ _ _ _⟩
      | tup ds' =>
        rw [Den] at h'; obtain ⟨a2, vs2, rfl, e2, g2⟩ := h'; cases r'; obtain ⟨its2, q2, tp2⟩ := den_tup hok e2
        exact ⟨SeqAt.RcAt.int_tuple _ _ tp2 hu', SeqAt.EqAt.int_tuple _ _ tp2 hu'⟩
      | lst ds' =>
        rw [Den] at h'; obtain ⟨a2, vs2, rfl, _, e2, g2⟩ := h'; cases r'; obtain ⟨its2, q2, tp2⟩ := den_lst hok e2
        exact ⟨SeqAt.RcAt.int_list _ _ tp2 hu', SeqAt.EqAt.int_list _ _ tp2 hu'⟩
      | dct => simp [nod] at n2
    | str x =>
      rw [Den] at h; subst h; obtain ⟨t1, rfl⟩ := r
      cases d' with
      | non =>
        rw [Den] at h'; subst h'; cases r'
        exact ⟨SeqAt.RcAt.str_none _ _, SeqAt.EqAt.str_none _ _⟩
      | bl b' =>
        rw [Den] at h'; subst h'; cases r'
        exact ⟨SeqAt.RcAt.str_bool _ _ _, SeqAt.EqAt.str_bool _ _ _⟩
      | int i' =>
        rw [Den] at h'; subst h'; obtain ⟨t2, rfl⟩ := r'
        exact ⟨SeqAt.RcAt.str_int _ _ _ _, SeqAt.EqAt.str_int _ _ _ _⟩
      | str x' =>
        rw [Den] at h'; subst h'; obtain ⟨t2, rfl⟩ := r'
        exact ⟨SeqAt.RcAt.str_str _ _ _ _, SeqAt.EqAt.str_str _ _ _ _⟩
      | tup ds' =>
        rw [Den] at h'; obtain ⟨a2, vs2, rfl, e2, g2⟩ := h'; cases r'; obtain ⟨its2, q2, tp2⟩ := den_tup hok e2
        exact ⟨SeqAt.RcAt.str_tuple _ _ tp2 hu', SeqAt.EqAt.str_tuple _ _ tp2 hu'⟩
      | lst ds' =>
        rw [Den] at h'; obtain ⟨a2, vs2, rfl, _, e2, g2⟩ := h'; cases r'; obtain ⟨its2, q2, tp2⟩ := den_lst hok e2
        exact ⟨SeqAt.RcAt.str_list _ _ tp2 hu', SeqAt.EqAt.str_list _ _ tp2 hu'⟩
      | dct => simp [nod] at n2
    | tup ds => rw [dep] at hn; omega
    | lst ds => rw [dep] at hn; omega
    | dct => simp [nod] at n1
  | succ n ih =>
    intro A d d' v v' u u' hn hu n1 n2 h h' r r'
    have hu' : A.units < cLine := by omega
    have hin : ∀ {vs vs' : List V} {ds ds' : List Dt} {its its' : List Value}, depL ds ≤ n → nodL ds = true → nodL ds' = true → DenL P H ds vs → DenL P H ds' vs' → Vals vs its → Vals vs' its' →
        ∀ j (h1 : j < its.toArray.size) (h2 : j < its'.toArray.size), SeqAt.EqAt A.in1 s its.toArray[j] its'.toArray[j] (deq (ds.getD j .non) (ds'.getD j .non)) := by
      intro vs vs' ds ds' its its' hd m1 m2 g g' q q' j h1 h2
      obtain ⟨x, ex, rx⟩ := vals_at q h1
      obtain ⟨x', ex', rx'⟩ := vals_at q' h2
      obtain ⟨dx, edx, gx⟩ := g.get ex
      obtain ⟨dx', edx', gx'⟩ := g'.get ex'
      have e1 : ds.getD j .non = dx := by simp [List.getD, edx]
      have e2 : ds'.getD j .non = dx' := by simp [List.getD, edx']
      rw [e1, e2]
      have hm := List.mem_of_getElem? edx
      exact (ih A.in1 dx dx' x x' _ _ (Nat.le_trans (depL_mem hm) hd) (by show A.units + 1 + n + 1 < cLine; omega) (nodL_mem m1 hm) (nodL_mem m2 (List.mem_of_getElem? edx')) gx gx' rx rx').2
    cases d with
    | non =>
      rw [Den] at h; subst h; cases r
      cases d' with
      | non =>
        rw [Den] at h'; subst h'; cases r'
        exact ⟨SeqAt.RcAt.none_none, SeqAt.EqAt.same _⟩
      | bl b' =>
        rw [Den] at h'; subst h'; cases r'
        exact ⟨SeqAt.RcAt.none_bool _, SeqAt.EqAt.none_bool _⟩
      | int i' =>
        rw [Den] at h'; subst h'; obtain ⟨t2, rfl⟩ := r'
        exact ⟨SeqAt.RcAt.none_int _ _, SeqAt.EqAt.none_int _ _⟩
      | str x' =>
        rw [Den] at h'; subst h'; obtain ⟨t2, rfl⟩ := r'
        exact ⟨SeqAt.RcAt.none_str _ _, SeqAt.EqAt.none_str _ _⟩
      | tup ds' =>
        rw [Den] at h'; obtain ⟨a2, vs2, rfl, e2, g2⟩ := h'; cases r'; obtain ⟨its2, q2, tp2⟩ := den_tup hok e2
        exact ⟨SeqAt.RcAt.none_tuple  tp2 hu', SeqAt.EqAt.none_tuple  tp2 hu'⟩
      | lst ds' =>
        rw [Den] at h'; obtain ⟨a2, vs2, rfl, _, e2, g2⟩ := h'; cases r'; obtain ⟨its2, q2, tp2⟩ := den_lst hok e2
        exact ⟨SeqAt.RcAt.none_list  tp2 hu', SeqAt.EqAt.none_list  tp2 hu'⟩
      | dct => simp [nod] at n2
    | bl b =>
      rw [Den] at h; subst h; cases r
      cases d' with
      | non =>
        rw [Den] at h'; subst h'; cases r'
        exact ⟨SeqAt.RcAt.bool_none _, SeqAt.EqAt.bool_none _⟩
      | bl b' =>
        rw [Den] at h'; subst h'; cases r'
        exact ⟨SeqAt.RcAt.bool_bool _ _, SeqAt.EqAt.bool_bool _ _⟩
      | int i' =>
        rw [Den] at h'; subst h'; obtain ⟨t2, rfl⟩ := r'
        exact ⟨SeqAt.RcAt.bool_int _ _ _, SeqAt.EqAt.bool_int _ _ _⟩
      | str x' =>
        rw [Den] at h'; subst h'; obtain ⟨t2, rfl⟩ := r'
        exact ⟨SeqAt.RcAt.bool_str _ _ _, SeqAt.EqAt.bool_str _ _ _⟩
      | tup ds' =>
        rw [Den] at h'; obtain ⟨a2, vs2, rfl, e2, g2⟩ := h'; cases r'; obtain ⟨its2, q2, tp2⟩ := den_tup hok e2
        exact ⟨SeqAt.RcAt.bool_tuple _ tp2 hu', SeqAt.EqAt.bool_tuple _ tp2 hu'⟩
      | lst ds' =>
        rw [Den] at h'; obtain ⟨a2, vs2, rfl, _, e2, g2⟩ := h'; cases r'; obtain ⟨its2, q2, tp2⟩ := den_lst hok e2
        exact ⟨SeqAt.RcAt.bool_list _ tp2 hu', SeqAt.EqAt.bool_list _ tp2 hu'⟩
      | dct => simp [nod] at n2
    | int i =>
      rw [Den] at h; subst h; obtain ⟨t1, rfl⟩ := r
      cases d' with
      | non =>
        rw [Den] at h'; subst h'; cases r'
        exact ⟨SeqAt.RcAt.int_none _ _, SeqAt.EqAt.int_none _ _⟩
      | bl b' =>
        rw [Den] at h'; subst h'; cases r'
        exact ⟨SeqAt.RcAt.int_bool _ _ _, SeqAt.EqAt.int_bool _ _ _⟩
      | int i' =>
        rw [Den] at h'; subst h'; obtain ⟨t2, rfl⟩ := r'
        exact ⟨SeqAt.RcAt.int_int _ _ _ _, SeqAt.EqAt.int_int _ _ _ _⟩
      | str x' =>
        rw [Den] at h'; subst h'; obtain ⟨t2, rfl⟩ := r'
        exact ⟨SeqAt.RcAt.int_str _ _ _ _, SeqAt.EqAt.int_str _ _ _ _⟩
      | tup ds' =>
        rw [Den] at h'; obtain ⟨a2, vs2, rfl, e2, g2⟩ := h'; cases r'; obtain ⟨its2, q2, tp2⟩ := den_tup hok e2
        exact ⟨SeqAt.RcAt.int_tuple _ _ tp2 hu', SeqAt.EqAt.int_tuple _ _ tp2 hu'⟩
      | lst ds' =>
        rw [Den] at h'; obtain ⟨a2, vs2, rfl, _, e2, g2⟩ := h'; cases r'; obtain ⟨its2, q2, tp2⟩ := den_lst hok e2
        exact ⟨SeqAt.RcAt.int_list _ _ tp2 hu', SeqAt.EqAt.int_list _ _ tp2 hu'⟩
      | dct => simp [nod] at n2
    | str x =>
      rw [Den] at h; subst h; obtain ⟨t1, rfl⟩ := r
      cases d' with
      | non =>
        rw [Den] at h'; subst h'; cases r'
        exact ⟨SeqAt.RcAt.str_none _ _, SeqAt.EqAt.str_none _ _⟩
      | bl b' =>
        rw [Den] at h'; subst h'; cases r'
        exact ⟨SeqAt.RcAt.str_bool _ _ _, SeqAt.EqAt.str_bool _ _ _⟩
      | int i' =>
        rw [Den] at h'; subst h'; obtain ⟨t2, rfl⟩ := r'
        exact ⟨SeqAt.RcAt.str_int _ _ _ _, SeqAt.EqAt.str_int _ _ _ _⟩
      | str x' =>
        rw [Den] at h'; subst h'; obtain ⟨t2, rfl⟩ := r'
        exact ⟨SeqAt.RcAt.str_str _ _ _ _, SeqAt.EqAt.str_str _ _ _ _⟩
      | tup ds' =>
        rw [Den] at h'; obtain ⟨a2, vs2, rfl, e2, g2⟩ := h'; cases r'; obtain ⟨its2, q2, tp2⟩ := den_tup hok e2
        exact ⟨SeqAt.RcAt.str_tuple _ _ tp2 hu', SeqAt.EqAt.str_tuple _ _ tp2 hu'⟩
      | lst ds' =>
        rw [Den] at h'; obtain ⟨a2, vs2, rfl, _, e2, g2⟩ := h'; cases r'; obtain ⟨its2, q2, tp2⟩ := den_lst hok e2
        exact ⟨SeqAt.RcAt.str_list _ _ tp2 hu', SeqAt.EqAt.str_list _ _ tp2 hu'⟩
      | dct => simp [nod] at n2
    | tup ds =>
      rw [Den] at h; obtain ⟨a1, vs1, rfl, e1, g1⟩ := h; cases r; obtain ⟨its1, q1, tp1⟩ := den_tup hok e1
      cases d' with
      | non =>
        rw [Den] at h'; subst h'; cases r'
        exact ⟨SeqAt.RcAt.tuple_none  tp1 hu', SeqAt.EqAt.tuple_none  tp1 hu'⟩
      | bl b' =>
        rw [Den] at h'; subst h'; cases r'
        exact ⟨SeqAt.RcAt.tuple_bool _ tp1 hu', SeqAt.EqAt.tuple_bool _ tp1 hu'⟩
      | int i' =>
        rw [Den] at h'; subst h'; obtain ⟨t2, rfl⟩ := r'
        exact ⟨SeqAt.RcAt.tuple_int _ _ tp1 hu', SeqAt.EqAt.tuple_int _ _ tp1 hu'⟩
      | str x' =>
        rw [Den] at h'; subst h'; obtain ⟨t2, rfl⟩ := r'
        exact ⟨SeqAt.RcAt.tuple_str _ _ tp1 hu', SeqAt.EqAt.tuple_str _ _ tp1 hu'⟩
      | tup ds' =>
        rw [Den] at h'; obtain ⟨a2, vs2, rfl, e2, g2⟩ := h'; cases r'; obtain ⟨its2, q2, tp2⟩ := den_tup hok e2
        rw [nod] at n1 n2; rw [dep] at hn
        have hl1 := g1.length; have hl2 := g2.length; have hq1 := q1.length; have hq2 := q2.length
        have key : SeqAt.RcAt A s (.ref a1) (.ref a2) (deq (.tup ds) (.tup ds')) := by
          rw [deq]
          have z := SeqAt.RcAt.tuples (e := fun j => deq (ds.getD j .non) (ds'.getD j .non)) tp1 tp2 hu' (hin (by omega) n1 n2 g1 g2 q1 q2)
          have s1 : its1.toArray.size = ds.length := by simp; omega
          have s2 : its2.toArray.size = ds'.length := by simp; omega
          rw [s1, s2] at z
          by_cases hlen : ds.length = ds'.length
          · rw [deqL_range hlen]; rw [← hlen, Nat.min_self] at z; simpa using z
          · rw [deqL_len hlen]; rw [show (ds.length == ds'.length) = false from beq_eq_false_iff_ne.mpr hlen, Bool.and_false] at z; exact z
        refine ⟨key, ?_⟩
        by_cases hab : a1 = a2
        · subst hab; rw [e1] at e2; cases e2; rw [DenL.inj ds ds' _ g1 g2, deq_refl _ (by rw [nod]; exact n2)]; exact SeqAt.EqAt.same _
        · exact SeqAt.EqAt.of_refs hab key
      | lst ds' =>
        rw [Den] at h'; obtain ⟨a2, vs2, rfl, _, e2, g2⟩ := h'; cases r'; obtain ⟨its2, q2, tp2⟩ := den_lst hok e2
        exact ⟨SeqAt.RcAt.tuple_list tp1 tp2 hu', SeqAt.EqAt.tuple_list tp1 tp2 hu'⟩
      | dct => simp [nod] at n2
    | lst ds =>
      rw [Den] at h; obtain ⟨a1, vs1, rfl, _, e1, g1⟩ := h; cases r; obtain ⟨its1, q1, tp1⟩ := den_lst hok e1
      cases d' with
      | non =>
        rw [Den] at h'; subst h'; cases r'
        exact ⟨SeqAt.RcAt.list_none  tp1 hu', SeqAt.EqAt.list_none  tp1 hu'⟩
      | bl b' =>
        rw [Den] at h'; subst h'; cases r'
        exact ⟨SeqAt.RcAt.list_bool _ tp1 hu', SeqAt.EqAt.list_bool _ tp1 hu'⟩
      | int i' =>
        rw [Den] at h'; subst h'; obtain ⟨t2, rfl⟩ := r'
        exact ⟨SeqAt.RcAt.list_int _ _ tp1 hu', SeqAt.EqAt.list_int _ _ tp1 hu'⟩
      | str x' =>
        rw [Den] at h'; subst h'; obtain ⟨t2, rfl⟩ := r'
        exact ⟨SeqAt.RcAt.list_str _ _ tp1 hu', SeqAt.EqAt.list_str _ _ tp1 hu'⟩
      | tup ds' =>
        rw [Den] at h'; obtain ⟨a2, vs2, rfl, e2, g2⟩ := h'; cases r'; obtain ⟨its2, q2, tp2⟩ := den_tup hok e2
        exact ⟨SeqAt.RcAt.list_tuple tp1 tp2 hu', SeqAt.EqAt.list_tuple tp1 tp2 hu'⟩
      | lst ds' =>
        rw [Den] at h'; obtain ⟨a2, vs2, rfl, _, e2, g2⟩ := h'; cases r'; obtain ⟨its2, q2, tp2⟩ := den_lst hok e2
        rw [nod] at n1 n2; rw [dep] at hn
        have hl1 := g1.length; have hl2 := g2.length; have hq1 := q1.length; have hq2 := q2.length
        have key : SeqAt.RcAt A s (.ref a1) (.ref a2) (deq (.lst ds) (.lst ds')) := by
          rw [deq]
          by_cases hlen : ds.length = ds'.length
          · have z := SeqAt.RcAt.lists (e := fun j => deq (ds.getD j .non) (ds'.getD j .non)) tp1 tp2 (by simp; omega) hu' (hin (by omega) n1 n2 g1 g2 q1 q2)
            rw [deqL_range hlen]; simpa [hq1.symm, hl1] using z
          · rw [deqL_len hlen]; exact SeqAt.RcAt.lists_lengths tp1 tp2 (by simp; omega) hu'
        refine ⟨key, ?_⟩
        by_cases hab : a1 = a2
        · subst hab; rw [e1] at e2; cases e2; rw [DenL.inj ds ds' _ g1 g2, deq_refl _ (by rw [nod]; exact n2)]; exact SeqAt.EqAt.same _
        · exact SeqAt.EqAt.of_refs hab key
      | dct => simp [nod] at n2
    | dct => simp [nod] at n1
end
end L2
/-! The mirror: each piece of the text as a plain Lean function over data, with its soundness over the layer. -/
namespace L2.Mr
open PySem PySem.Spec PyProof.Rows
/-- data: tuples are plain, lists stand in a heap of their own -/
inductive Dv where
  | non | bl (b : Bool) | int (i : Int) | str (x : Str) | tup (xs : List Dv) | ref (i : Nat) | edc | exc (c : Nat) | scr
inductive Ob where
  | lst (xs : List Dv)
abbrev Hs := List Ob
abbrev Ev := List (Option Dv)
inductive Rs (α : Type) where
  | ok (a : α) (h : Hs) | ex (c : Nat) (h : Hs) | bad
def Rs.bind {α β : Type} (r : Rs α) (f : α → Hs → Rs β) : Rs β := match r with
  | .ok a h => f a h
  | .ex c h => .ex c h
  | .bad => .bad
@[simp] theorem Rs.bind_ok {α β : Type} (a : α) (h : Hs) (f : α → Hs → Rs β) : (Rs.ok a h).bind f = f a h := rfl
@[simp] theorem Rs.bind_ex {α β : Type} (c : Nat) (h : Hs) (f : α → Hs → Rs β) : (Rs.ex c h).bind f = .ex c h := rfl
@[simp] theorem Rs.bind_bad {α β : Type} (f : α → Hs → Rs β) : (Rs.bad).bind f = .bad := rfl
abbrev M (α : Type) := Ev → Hs → Rs α
/-- the written part, and the classes of the errors by number -/
structure Cfg where
  K : PySem.W.Frag
  cl : Nat → Addr
  scr : List Int
  sa : Addr
  tab : Option Addr := none
  lq : Str := Str.empty
/-- the error at e: its class, its arguments, its newest entry -/
def ExO (C : Value) (e T : Addr) (a0 : Value) (h : Heap) : Prop := ∃ oe vs, h.get? e = some oe ∧ oe.cls = C ∧ oe.data = .fields vs ∧ vs[0]? = some a0 ∧ vs[1]? = some (.ref T) ∧ oe.dict = none
/-- an error of class c flies -/
def FlyE (G : Cfg) (H : Hp) (c : Nat) (u : Value) : Prop := ∃ e φ, u = .ref e ∧ H e = some (.ext φ) ∧ ∀ h, φ h → ∃ o, h.get? e = some o ∧ o.cls = .ref (G.cl c)
/-- what never changes -/
def Imm : HO → Prop
  | .tup _ => True
  | .dK kvs => kvs = []
  | .frz _ _ => True
  | _ => False
/-- a list that is read alone: frozen, or the module's own -/
def FzL (K : PySem.W.Frag) (H : Hp) (a : Addr) (xs : List V) : Prop := (∃ o, H a = some (.frz o (.lst xs))) ∨
    ∃ (o : Obj) (its : Array Value) (n : Nat), K.lookup a = some o ∧ o.cls = .type "list" ∧ o.dict = none ∧ o.data = .seq its n ∧ its.size ≤ sizeLine ∧ Vals xs its.toList
theorem FzL.sq {K : PySem.W.Frag} {H : Hp} {a : Addr} {xs : List V} (h : FzL K H a xs) : SqL K H a xs := by
  rcases h with ⟨o, h⟩ | h
  · exact .inl (.inr ⟨o, h⟩)
  · exact .inr h
theorem FzL.keep {K : PySem.W.Frag} {H H' : Hp} {a : Addr} {xs : List V} (h : FzL K H a xs) (k : ∀ a o, Imm o → H a = some o → H' a = some o) : FzL K H' a xs := by
  rcases h with ⟨o, h⟩ | h
  · exact .inl ⟨o, k a _ trivial h⟩
  · exact .inr h
mutual
def RelD (G : Cfg) (μ : Nat → Addr) (n : Nat) (H : Hp) : Dv → V → Prop
  | .non, v => v = .non
  | .bl b, v => v = .bl b
  | .int i, v => v = .int i
  | .str x, v => v = .str x
  | .tup ds, v => ∃ a vs, v = .ref a ∧ H a = some (.tup vs) ∧ RelDL G μ n H ds vs
  | .ref i, v => i < n ∧ v = .ref (μ i)
  | .edc, v => ∃ a, v = .ref a ∧ H a = some (.dK [])
  | .exc c, v => ∃ a o u, v = .ref a ∧ H a = some (.frz o u) ∧ o.cls = .ref (G.cl c) ∧ o.dict = none ∧ ∃ vs, o.data = .fields vs
  | .scr, v => v = .ref G.sa ∧ FzL G.K H G.sa (G.scr.map V.int)
def RelDL (G : Cfg) (μ : Nat → Addr) (n : Nat) (H : Hp) : List Dv → List V → Prop
  | [], vs => vs = []
  | d :: ds, vs => ∃ v r, vs = v :: r ∧ RelD G μ n H d v ∧ RelDL G μ n H ds r
end
structure Ext (μ : Nat → Addr) (n : Nat) (H : Hp) (μ' : Nat → Addr) (n' : Nat) (H' : Hp) : Prop where
  le : n ≤ n'
  mu : ∀ i, i < n → μ' i = μ i
  im : ∀ a o, Imm o → H a = some o → H' a = some o
theorem Ext.refl {μ : Nat → Addr} {n : Nat} {H : Hp} : Ext μ n H μ n H := ⟨Nat.le_refl _, fun _ _ => rfl, fun _ _ _ e => e⟩
theorem Ext.trans {μ μ1 μ2 : Nat → Addr} {n n1 n2 : Nat} {H H1 H2 : Hp} (a : Ext μ n H μ1 n1 H1) (b : Ext μ1 n1 H1 μ2 n2 H2) : Ext μ n H μ2 n2 H2 :=
  ⟨Nat.le_trans a.le b.le, fun i hi => (b.mu i (Nat.lt_of_lt_of_le hi a.le)).trans (a.mu i hi), fun c o i e => b.im c o i (a.im c o i e)⟩
section
variable {G : Cfg} {μ μ' : Nat → Addr} {n n' : Nat} {H H' : Hp}
mutual
theorem RelD.mono (x : Ext μ n H μ' n' H') : ∀ (d : Dv) (v : V), RelD G μ n H d v → RelD G μ' n' H' d v
  | .non, v, h => h
  | .bl b, v, h => h
  | .int i, v, h => h
  | .str s, v, h => h
  | .tup ds, v, h => by
    obtain ⟨a, vs, e, h1, h2⟩ := h
    exact ⟨a, vs, e, x.im a _ trivial h1, RelDL.mono x ds vs h2⟩
  | .ref i, v, h => by
    obtain ⟨h1, h2⟩ := h
    exact ⟨Nat.lt_of_lt_of_le h1 x.le, by rw [x.mu i h1]; exact h2⟩
  | .edc, v, h => by
    obtain ⟨a, e, h1⟩ := h
    exact ⟨a, e, x.im a _ rfl h1⟩
  | .exc c, v, h => by
    obtain ⟨a, o, u, e, h1, h2⟩ := h
    exact ⟨a, o, u, e, x.im a _ trivial h1, h2⟩
  | .scr, v, h => by
    obtain ⟨h1, h2⟩ := h
    exact ⟨h1, h2.keep x.im⟩
theorem RelDL.mono (x : Ext μ n H μ' n' H') : ∀ (ds : List Dv) (vs : List V), RelDL G μ n H ds vs → RelDL G μ' n' H' ds vs
  | [], vs, h => h
  | d :: ds, vs, h => by
    obtain ⟨v, r, e, h1, h2⟩ := h
    exact ⟨v, r, e, RelD.mono x d v h1, RelDL.mono x ds r h2⟩
end
theorem RelDL.length : ∀ {ds : List Dv} {vs : List V}, RelDL G μ n H ds vs → vs.length = ds.length
  | [], _, h => by rw [RelDL] at h; subst h; rfl
  | d :: ds, _, h => by
    rw [RelDL] at h; obtain ⟨v, r, rfl, _, h2⟩ := h
    rw [List.length_cons, List.length_cons, RelDL.length h2]
theorem RelDL.get : ∀ {ds : List Dv} {vs : List V} {i : Nat} {d : Dv}, RelDL G μ n H ds vs → ds[i]? = some d → ∃ v, vs[i]? = some v ∧ RelD G μ n H d v
  | [], _, _, _, _, e => by simp at e
  | d :: ds, _, 0, d', h, e => by
    rw [RelDL] at h; obtain ⟨v, r, rfl, h1, _⟩ := h
    simp at e; subst e
    exact ⟨v, rfl, h1⟩
  | d :: ds, _, i + 1, d', h, e => by
    rw [RelDL] at h; obtain ⟨v, r, rfl, _, h2⟩ := h
    obtain ⟨u, e1, h3⟩ := RelDL.get (i := i) h2 (by simpa using e)
    exact ⟨u, by simpa using e1, h3⟩
theorem RelDL.nil : RelDL G μ n H [] [] := by rw [RelDL]
theorem RelDL.cons {d : Dv} {v : V} {ds : List Dv} {vs : List V} (h : RelD G μ n H d v) (t : RelDL G μ n H ds vs) : RelDL G μ n H (d :: ds) (v :: vs) := by rw [RelDL]; exact ⟨v, vs, rfl, h, t⟩
theorem RelDL.append : ∀ {ds es : List Dv} {vs ws : List V}, RelDL G μ n H ds vs → RelDL G μ n H es ws → RelDL G μ n H (ds ++ es) (vs ++ ws)
  | [], _, _, _, h, h' => by rw [RelDL] at h; subst h; exact h'
  | d :: ds, _, _, _, h, h' => by
    rw [RelDL] at h; obtain ⟨v, r, rfl, h1, h2⟩ := h
    exact RelDL.cons h1 (RelDL.append h2 h')
theorem RelDL.take : ∀ {ds : List Dv} {vs : List V} (k : Nat), RelDL G μ n H ds vs → RelDL G μ n H (ds.take k) (vs.take k)
  | [], _, k, h => by rw [RelDL] at h; subst h; simp [RelDL.nil]
  | d :: ds, _, 0, h => by simp [RelDL.nil]
  | d :: ds, _, k + 1, h => by
    rw [RelDL] at h; obtain ⟨v, r, rfl, h1, h2⟩ := h
    exact RelDL.cons h1 (RelDL.take k h2)
theorem RelDL.drop : ∀ {ds : List Dv} {vs : List V} (k : Nat), RelDL G μ n H ds vs → RelDL G μ n H (ds.drop k) (vs.drop k)
  | [], _, k, h => by rw [RelDL] at h; subst h; simp [RelDL.nil]
  | d :: ds, _, 0, h => h
  | d :: ds, _, k + 1, h => by
    rw [RelDL] at h; obtain ⟨v, r, rfl, h1, h2⟩ := h
    exact RelDL.drop k h2
theorem RelDL.set {x : Dv} {u : V} (hx : RelD G μ n H x u) : ∀ {ds : List Dv} {vs : List V} (i : Nat), RelDL G μ n H ds vs → RelDL G μ n H (ds.set i x) (vs.set i u)
  | [], _, _, h => by rw [RelDL] at h; subst h; exact RelDL.nil
  | d :: ds, _, 0, h => by
    rw [RelDL] at h; obtain ⟨v, r, rfl, h1, h2⟩ := h
    exact RelDL.cons hx h2
  | d :: ds, _, i + 1, h => by
    rw [RelDL] at h; obtain ⟨v, r, rfl, h1, h2⟩ := h
    exact RelDL.cons h1 (RelDL.set hx i h2)
end
/-! ### the heap of lists -/
def ObR (G : Cfg) (μ : Nat → Addr) (n : Nat) (H : Hp) (a : Addr) : Ob → Prop
  | .lst xs => ∃ vs, H a = some (.lst vs) ∧ RelDL G μ n H xs vs
/-- a code record of the lambdas' long name -/
def CodeQ (q : Str) (oc : Obj) : Prop := ∃ vs t, oc.data = .fields vs ∧ vs[1]? = some (.str q t)
/-- the table of law's own code, where its lambdas' codes are kept -/
def TabOk (G : Cfg) (H : Hp) : Prop := ∀ P, G.tab = some P → ∃ ps, H P = some (.tbl ps) ∧ TriplesOk ps.toList ∧ ∀ pos cv, codeAmong pos ps.toList = some cv → ∃ q oc, cv = .ref q ∧ H q = some (.frz oc (.own 0)) ∧ CodeQ G.lq oc
theorem TabOk.keep {G : Cfg} {H H' : Hp} (t : TabOk G H) (k : ∀ a o, (∀ xs, o ≠ .lst xs) → (∀ φ, o ≠ .ext φ) → H a = some o → H' a = some o) : TabOk G H' := fun P e => by
  obtain ⟨ps, h1, h2, h3⟩ := t P e
  refine ⟨ps, k P _ (fun _ z => by cases z) (fun _ z => by cases z) h1, h2, fun pos cv q => ?_⟩
  obtain ⟨a, oc, e1, e2, e3⟩ := h3 pos cv q
  exact ⟨a, oc, e1, k a _ (fun _ z => by cases z) (fun _ z => by cases z) e2, e3⟩
structure Sim (G : Cfg) (μ : Nat → Addr) (h : Hs) (H : Hp) : Prop where
  inj : ∀ i j, i < h.length → j < h.length → μ i = μ j → i = j
  ob : ∀ (i : Nat) (o : Ob), h[i]? = some o → ObR G μ h.length H (μ i) o
  tab : TabOk G H
def Ob.items : Ob → List Dv
  | .lst xs => xs
/-- env against the frame's values -/
structure RelS (G : Cfg) (μ : Nat → Addr) (n : Nat) (H : Hp) (ρ : Ev) (σ : St) : Prop where
  len : ρ.length = σ.length
  at_ : ∀ (i : Nat) (d : Dv), ρ[i]? = some (some d) → ∃ v, σ[i]? = some (some v) ∧ RelD G μ n H d v
theorem RelS.mono {G : Cfg} {μ μ' : Nat → Addr} {n n' : Nat} {H H' : Hp} {ρ : Ev} {σ : St} (r : RelS G μ n H ρ σ) (x : Ext μ n H μ' n' H') : RelS G μ' n' H' ρ σ :=
  ⟨r.len, fun i d e => let ⟨v, e1, h⟩ := r.at_ i d e; ⟨v, e1, RelD.mono x d v h⟩⟩
/-! ### the ends of a piece -/
def Out {α β : Type} (G : Cfg) (E : XK) (μ : Nat → Addr) (n : Nat) (H : Hp) (r : Rs α) (R : (Nat → Addr) → Nat → Hp → α → β → Prop) (Q : β → Hp → Prop) : Prop :=
  match r with
  | .ok d h' => ∀ μ' H' v, Ext μ n H μ' h'.length H' → Sim G μ' h' H' → R μ' h'.length H' d v → Q v H'
  | .ex c h' => ∀ μ' H' u, Ext μ n H μ' h'.length H' → Sim G μ' h' H' → FlyE G H' c u → E u none H'
  | .bad => False
theorem Out.bind {α β γ δ : Type} {G : Cfg} {E : XK} {μ : Nat → Addr} {n : Nat} {H : Hp} {r : Rs α} {f : α → Hs → Rs γ} {R : (Nat → Addr) → Nat → Hp → γ → δ → Prop} {Q : δ → Hp → Prop} {R1 : (Nat → Addr) → Nat → Hp → α → β → Prop}
    (o : Out G E μ n H (r.bind f) R Q) : Out G E μ n H r R1 fun v H1 => ∃ μ1 d h1, Ext μ n H μ1 h1.length H1 ∧ Sim G μ1 h1 H1 ∧ R1 μ1 h1.length H1 d v ∧ Out G E μ1 h1.length H1 (f d h1) R Q := by
  cases r with
  | bad => exact o
  | ex c h' => exact o
  | ok d h' =>
    intro μ1 H1 v x1 s1 r1
    refine ⟨μ1, d, h', x1, s1, r1, ?_⟩
    have o' : Out G E μ n H (f d h') R Q := o
    cases e : f d h' with
    | bad => rw [e] at o'; exact o'
    | ex c h2 => rw [e] at o'; exact fun μ2 H2 u x2 s2 r2 => o' μ2 H2 u (x1.trans x2) s2 r2
    | ok d2 h2 => rw [e] at o'; exact fun μ2 H2 u x2 s2 r2 => o' μ2 H2 u (x1.trans x2) s2 r2
theorem Out.mono {α β : Type} {G : Cfg} {E : XK} {μ : Nat → Addr} {n : Nat} {H : Hp} {r : Rs α} {R : (Nat → Addr) → Nat → Hp → α → β → Prop} {Q Q' : β → Hp → Prop} (o : Out G E μ n H r R Q) (h : ∀ v H', Q v H' → Q' v H') : Out G E μ n H r R Q' := by
  cases r with
  | bad => exact o
  | ex c h' => exact o
  | ok d h' => exact fun μ' H' v x s r => h _ _ (o μ' H' v x s r)
abbrev RB : (Nat → Addr) → Nat → Hp → Bool → Bool → Prop := fun _ _ _ b b' => b' = b
def tOf (G : Cfg) (E : XK) (m : M Dv) : TE := fun σ H Q => ∃ μ ρ h, RelS G μ h.length H ρ σ ∧ Sim G μ h H ∧ Out G E μ h.length H (m ρ h) (RelD G) Q
def ttOf (G : Cfg) (E : XK) (m : M Bool) : TT := fun σ H Q => ∃ μ ρ h, RelS G μ h.length H ρ σ ∧ Sim G μ h H ∧ Out G E μ h.length H (m ρ h) RB Q
def taOf (G : Cfg) (E : XK) (m : M (List Dv)) : TA := fun σ H Q => ∃ μ ρ h, RelS G μ h.length H ρ σ ∧ Sim G μ h H ∧ Out G E μ h.length H (m ρ h) (RelDL G) Q
/-- an expression, a test, arguments -/
def Snd (X : Cx) (G : Cfg) (E : XK) (pe : Expr) (m : M Dv) : Prop := X.K = G.K → PE X pe (tOf G E m)
def SndT (X : Cx) (G : Cfg) (E : XK) (pe : Expr) (m : M Bool) : Prop := X.K = G.K → PT X pe (ttOf G E m)
def SndA (X : Cx) (G : Cfg) (E : XK) (pe : List Expr) (m : M (List Dv)) : Prop := X.K = G.K → PA X pe (taOf G E m)
theorem PE.imp {X : Cx} {e : Expr} {t t' : TE} (h : PE X e t) (i : ∀ σ H Q, t' σ H Q → t σ H Q) : PE X e t' := fun pins s σ H Q I q => h pins s σ H Q I (i σ H Q q)
theorem PT.imp {X : Cx} {e : Expr} {t t' : TT} (h : PT X e t) (i : ∀ σ H Q, t' σ H Q → t σ H Q) : PT X e t' := fun pins s σ H Q I q => h pins s σ H Q I (i σ H Q q)
theorem PA.imp {X : Cx} {e : List Expr} {t t' : TA} (h : PA X e t) (i : ∀ σ H Q, t' σ H Q → t σ H Q) : PA X e t' := fun pos pins s σ H Q I q => h pos pins s σ H Q I (i σ H Q q)
section
variable {G : Cfg} {E : XK} {σ : St} {H : Hp}
/-- one piece, then the rest -/
theorem tOf_bind {m : M Dv} {γ δ : Type} {f : Dv → Hs → Rs γ} {R : (Nat → Addr) → Nat → Hp → γ → δ → Prop} {Q : δ → Hp → Prop} {Q1 : V → Hp → Prop} {μ : Nat → Addr} {ρ : Ev} {h : Hs} (rs : RelS G μ h.length H ρ σ) (s : Sim G μ h H) (o : Out G E μ h.length H ((m ρ h).bind f) R Q)
    (k : ∀ μ1 d h1 v H1, Ext μ h.length H μ1 h1.length H1 → RelS G μ1 h1.length H1 ρ σ → Sim G μ1 h1 H1 → RelD G μ1 h1.length H1 d v → Out G E μ1 h1.length H1 (f d h1) R Q → Q1 v H1) : tOf G E m σ H Q1 :=
  ⟨μ, ρ, h, rs, s, (o.bind (R1 := RelD G)).mono fun v H1 ⟨μ1, d, h1, x, s1, r1, o1⟩ => k μ1 d h1 v H1 x (rs.mono x) s1 r1 o1⟩
theorem ttOf_bind {m : M Bool} {γ δ : Type} {f : Bool → Hs → Rs γ} {R : (Nat → Addr) → Nat → Hp → γ → δ → Prop} {Q : δ → Hp → Prop} {Q1 : Bool → Hp → Prop} {μ : Nat → Addr} {ρ : Ev} {h : Hs} (rs : RelS G μ h.length H ρ σ) (s : Sim G μ h H) (o : Out G E μ h.length H ((m ρ h).bind f) R Q)
    (k : ∀ μ1 b h1 H1, Ext μ h.length H μ1 h1.length H1 → RelS G μ1 h1.length H1 ρ σ → Sim G μ1 h1 H1 → Out G E μ1 h1.length H1 (f b h1) R Q → Q1 b H1) : ttOf G E m σ H Q1 :=
  ⟨μ, ρ, h, rs, s, (o.bind (R1 := RB)).mono fun v H1 ⟨μ1, d, h1, x, s1, r1, o1⟩ => by
    have e : v = d := r1
    subst e
    exact k μ1 v h1 H1 x (rs.mono x) s1 o1⟩
theorem taOf_bind {m : M (List Dv)} {γ δ : Type} {f : List Dv → Hs → Rs γ} {R : (Nat → Addr) → Nat → Hp → γ → δ → Prop} {Q : δ → Hp → Prop} {Q1 : List V → Hp → Prop} {μ : Nat → Addr} {ρ : Ev} {h : Hs} (rs : RelS G μ h.length H ρ σ) (s : Sim G μ h H) (o : Out G E μ h.length H ((m ρ h).bind f) R Q)
    (k : ∀ μ1 d h1 v H1, Ext μ h.length H μ1 h1.length H1 → RelS G μ1 h1.length H1 ρ σ → Sim G μ1 h1 H1 → RelDL G μ1 h1.length H1 d v → Out G E μ1 h1.length H1 (f d h1) R Q → Q1 v H1) : taOf G E m σ H Q1 :=
  ⟨μ, ρ, h, rs, s, (o.bind (R1 := RelDL G)).mono fun v H1 ⟨μ1, d, h1, x, s1, r1, o1⟩ => k μ1 d h1 v H1 x (rs.mono x) s1 r1 o1⟩
/-- a value, at once -/
theorem Out.val {α β : Type} {μ : Nat → Addr} {h : Hs} {d : α} {R : (Nat → Addr) → Nat → Hp → α → β → Prop} {Q : β → Hp → Prop} {v : β} (s : Sim G μ h H) (o : Out G E μ h.length H (.ok d h) R Q) (r : R μ h.length H d v) : Q v H := o μ H v Ext.refl s r
end
end L2.Mr
namespace L2.Mr
open PySem PySem.Spec PyProof.Rows
/-! ### the heap grows, is written -/
section
variable {G : Cfg} {μ : Nat → Addr} {h : Hs} {H H' : Hp} {p : Addr} {n : Nat}
theorem Ext.same (e : Same H H') : Ext μ n H μ n H' := ⟨Nat.le_refl _, fun _ _ => rfl, fun a o _ q => e a o q⟩
theorem Sim.same (s : Sim G μ h H) (e : Same H H') : Sim G μ h H' := ⟨s.inj, fun i o q => by
  have r := s.ob i o q
  cases o with
  | lst xs => obtain ⟨vs, e1, r1⟩ := r; exact ⟨vs, e _ _ e1, RelDL.mono (Ext.same e) _ _ r1⟩, s.tab.keep fun a o _ _ q => e a o q⟩
theorem same_upd {o : HO} (h : H p = none) : Same H (upd H p o) := fun b u e => by rw [upd_ne (ne_of_none e h)]; exact e
theorem Sim.not (s : Sim G μ h H) (hp : H p = none) : ∀ (i : Nat), i < h.length → μ i ≠ p := fun i hi z => by
  have q : h[i]? = some h[i] := List.getElem?_eq_getElem hi
  generalize h[i] = o at q
  cases o with
  | lst xs =>
    obtain ⟨vs, e1, _⟩ := s.ob i _ q
    rw [z, hp] at e1; cases e1
/-- a new list -/
theorem Sim.alloc {ds : List Dv} {vs : List V} (s : Sim G μ h H) (hp : H p = none) (r : RelDL G μ h.length H ds vs) :
    Ext μ h.length H (fun i => if i = h.length then p else μ i) (h ++ [Ob.lst ds]).length (upd H p (.lst vs)) ∧ Sim G (fun i => if i = h.length then p else μ i) (h ++ [.lst ds]) (upd H p (.lst vs)) := by
  have hl : (h ++ [Ob.lst ds]).length = h.length + 1 := by simp
  have hq := s.not hp
  have x : Ext μ h.length H (fun i => if i = h.length then p else μ i) (h ++ [Ob.lst ds]).length (upd H p (.lst vs)) :=
    ⟨by omega, fun i hi => if_neg (Nat.ne_of_lt hi), fun a o _ e => same_upd hp a o e⟩
  refine ⟨x, fun i j hi hj e => ?_, fun i o q => ?_, s.tab.keep fun a o _ _ q => same_upd hp a o q⟩
  · rw [hl] at hi hj
    by_cases h1 : i = h.length <;> by_cases h2 : j = h.length
    · omega
    · rw [if_pos h1, if_neg h2] at e; exact absurd e.symm (hq j (by omega))
    · rw [if_neg h1, if_pos h2] at e; exact absurd e (hq i (by omega))
    · rw [if_neg h1, if_neg h2] at e; exact s.inj i j (by omega) (by omega) e
  · by_cases h1 : i < h.length
    · rw [List.getElem?_append_left h1] at q
      have r1 := s.ob i o q
      cases o with
      | lst xs => obtain ⟨ws, e1, r2⟩ := r1; exact ⟨ws, by rw [if_neg (Nat.ne_of_lt h1)]; exact same_upd hp _ _ e1, RelDL.mono x _ _ r2⟩
    · rw [List.getElem?_append_right (by omega)] at q
      have h2 : i = h.length := by
        have := (List.getElem?_eq_some_iff.mp q).1
        simp at this; omega
      subst h2
      simp at q; subst q
      exact ⟨vs, by rw [if_pos rfl]; exact upd_same, RelDL.mono x _ _ r⟩
/-- a list is written -/
theorem Sim.write {xs ys : List Dv} {i : Nat} {vs : List V} (s : Sim G μ h H) (q : h[i]? = some (.lst xs)) (r : RelDL G μ h.length H ys vs) :
    Ext μ h.length H μ (h.set i (.lst ys)).length (upd H (μ i) (.lst vs)) ∧ Sim G μ (h.set i (.lst ys)) (upd H (μ i) (.lst vs)) := by
  obtain ⟨us, e0, r0⟩ := s.ob i _ q
  have hi : i < h.length := (List.getElem?_eq_some_iff.mp q).1
  have im : ∀ a o, Imm o → H a = some o → upd H (μ i) (.lst vs) a = some o := fun a o m e => by
    rw [upd_ne]; exact e
    rintro rfl; rw [e0] at e; cases e; exact m
  have x : Ext μ h.length H μ (h.set i (.lst ys)).length (upd H (μ i) (.lst vs)) := ⟨by simp, fun _ _ => rfl, im⟩
  refine ⟨x, fun a b ha hb => ?_, fun j o e => ?_, s.tab.keep fun a o n1 _ q => ?_⟩
  rotate_left 2
  · rw [upd_ne]; exact q
    rintro rfl; rw [e0] at q; cases q; exact n1 _ rfl
  · rw [List.length_set] at ha hb; exact s.inj a b ha hb
  · by_cases hij : i = j
    · subst hij
      rw [List.getElem?_set_self hi] at e; cases e
      exact ⟨vs, upd_same, RelDL.mono x _ _ r⟩
    · rw [List.getElem?_set_ne hij] at e
      have hj : j < h.length := (List.getElem?_eq_some_iff.mp e).1
      have r1 := s.ob j o e
      have ne : μ j ≠ μ i := fun z => hij (s.inj j i hj hi z).symm
      cases o with
      | lst zs => obtain ⟨ws, e1, r2⟩ := r1; exact ⟨ws, by rw [upd_ne ne]; exact e1, RelDL.mono x _ _ r2⟩
end
end L2.Mr
namespace L2.Mr
open PySem PySem.Spec PyProof.Rows
def lim {α : Type} (n : Nat) (r : Rs α) : Rs α := if n ≤ 1000000 then r else .bad
theorem lim_line {n : Nat} (h : n ≤ 1000000) : n ≤ sizeLine := Nat.le_trans h (by decide)
def getL (h : Hs) (i : Nat) : Option (List Dv) := match h[i]? with
  | some (.lst xs) => some xs
  | none => none
theorem getL_some {h : Hs} {i : Nat} {xs : List Dv} (e : getL h i = some xs) : h[i]? = some (.lst xs) := by
  unfold getL at e
  cases q : h[i]? with
  | none => rw [q] at e; cases e
  | some o => cases o; rw [q] at e; cases e; rfl
section
variable {X : Cx} {G : Cfg} {E : XK} {a b c : Expr} {ma mb mc : M Dv} {pos : Pos} {es : List Expr} {mas : M (List Dv)}
/-! ### names, constants, displays -/
def mVar (i : Nat) : M Dv := fun ρ h => match ρ[i]? with
  | some (some d) => .ok d h
  | _ => .bad
theorem snd_var (i : Nat) {x : Str} (hN : X.N[i]? = some x := by rfl) (hv : Vis X.env.scope x := by first | exact Or.inl rfl | exact Or.inr (Or.inl rfl) | exact Or.inr (Or.inr rfl))
    (hd : (x == ("__debug__" : Str)) = false := by decide) (hcd : (x == ("__classdict__" : Str)) = false := by decide) : Snd X G E (.Name x pos) (mVar i) := fun _ => PE.imp (pe_var hN hv hd hcd) fun σ H Q ⟨μ, ρ, h, rs, s, o⟩ => by
  unfold mVar at o
  split at o
  · rename_i d e
    obtain ⟨v, e1, r⟩ := rs.at_ i d e
    exact ⟨v, e1, o.val s r⟩
  · exact o.elim
def mC (d : Dv) : M Dv := fun _ h => .ok d h
theorem snd_int {i j} : Snd X G E (.Constant (.int i) j pos) (mC (.int i)) := fun _ => PE.imp pe_int fun σ H Q ⟨μ, ρ, h, rs, s, o⟩ => o.val s (show RelD G μ _ H (.int i) (.int i) from rfl)
theorem snd_bl {i j} : Snd X G E (.Constant (.bool i) j pos) (mC (.bl i)) := fun _ => PE.imp pe_bl fun σ H Q ⟨μ, ρ, h, rs, s, o⟩ => o.val s (show RelD G μ _ H (.bl i) (.bl i) from rfl)
theorem snd_non {j} : Snd X G E (.Constant .none j pos) (mC .non) := fun _ => PE.imp pe_non fun σ H Q ⟨μ, ρ, h, rs, s, o⟩ => o.val s (show RelD G μ _ H .non .non from rfl)
theorem snd_str {x j} : Snd X G E (.Constant (.str x) j pos) (mC (.str x)) := fun _ => PE.imp pe_str fun σ H Q ⟨μ, ρ, h, rs, s, o⟩ => o.val s (show RelD G μ _ H (.str x) (.str x) from rfl)
def mNil : M (List Dv) := fun _ h => .ok [] h
def mCons (m : M Dv) (ms : M (List Dv)) : M (List Dv) := fun ρ h => (m ρ h).bind fun d h1 => (ms ρ h1).bind fun ds h2 => .ok (d :: ds) h2
theorem sa_nil : SndA X G E [] mNil := fun _ => PA.imp pa_nil fun σ H Q ⟨μ, ρ, h, rs, s, o⟩ => o.val s RelDL.nil
theorem sa_cons (ha : Snd X G E a ma) (hr : SndA X G E es mas) (hs : starEach (a :: es) X.env = (false, eval a X.env) :: starEach es X.env := by rfl) : SndA X G E (a :: es) (mCons ma mas) := fun hK =>
  PA.imp (pa_cons (ha hK) (hr hK) hs) fun σ H Q ⟨μ, ρ, h, rs, s, o⟩ => tOf_bind rs s o fun μ1 d h1 v H1 x1 rs1 s1 r1 o1 => taOf_bind rs1 s1 o1 fun μ2 ds h2 vs H2 x2 rs2 s2 r2 o2 => o2.val s2 (RelDL.cons (RelD.mono x2 _ _ r1) r2)
def mTup (ms : M (List Dv)) : M Dv := fun ρ h => (ms ρ h).bind fun ds h1 => lim ds.length (.ok (.tup ds) h1)
theorem snd_tup {k} (h : SndA X G E es mas) : Snd X G E (.Tuple es k pos) (mTup mas) := fun hK => PE.imp (pe_tup (h hK)) fun σ H Q ⟨μ, ρ, h, rs, s, o⟩ => taOf_bind rs s o fun μ1 ds h1 vs H1 x1 rs1 s1 r1 o1 => by
  unfold lim at o1
  split at o1
  · rename_i hl
    refine ⟨by rw [r1.length]; exact lim_line hl, fun p hp => ?_⟩
    exact o1 μ1 _ _ (Ext.same (same_upd hp)) (s1.same (same_upd hp)) ⟨p, vs, rfl, upd_same, RelDL.mono (Ext.same (same_upd hp)) _ _ r1⟩
  · exact o1.elim
def mLst (ms : M (List Dv)) : M Dv := fun ρ h => (ms ρ h).bind fun ds h1 => lim ds.length (.ok (.ref h1.length) (h1 ++ [.lst ds]))
/-- a new list, as an end -/
theorem out_lst {μ : Nat → Addr} {h : Hs} {H : Hp} {ds : List Dv} {vs : List V} {Q : VK} {p : Addr} (s : Sim G μ h H) (r : RelDL G μ h.length H ds vs) (hp : H p = none) (o : Out G E μ h.length H (.ok (.ref h.length) (h ++ [.lst ds])) (RelD G) Q) : Q (.ref p) (upd H p (.lst vs)) := by
  obtain ⟨x, s'⟩ := s.alloc hp r
  exact o _ _ _ x s' ⟨by simp, by show V.ref p = V.ref (if h.length = h.length then p else μ h.length); rw [if_pos rfl]⟩
theorem snd_lst (h : SndA X G E es mas) : Snd X G E (.List es pos) (mLst mas) := fun hK => PE.imp (pe_lst (h hK)) fun σ H Q ⟨μ, ρ, h, rs, s, o⟩ => taOf_bind rs s o fun μ1 ds h1 vs H1 x1 rs1 s1 r1 o1 => by
  unfold lim at o1
  split at o1
  · rename_i hl
    exact ⟨by rw [r1.length]; exact lim_line hl, fun p hp => out_lst s1 r1 hp o1⟩
  · exact o1.elim
/-! ### operations -/
def m2 (f : Dv → Dv → Hs → Rs Dv) (ma mb : M Dv) : M Dv := fun ρ h => (ma ρ h).bind fun x h1 => (mb ρ h1).bind fun y h2 => f x y h2
def OpD (G : Cfg) (r : R2) (f : Dv → Dv → Hs → Rs Dv) : Prop := ∀ (E : XK) (μ : Nat → Addr) (h : Hs) (H : Hp) (x y : Dv) (vx vy : V) (Q : VK), Sim G μ h H → RelD G μ h.length H x vx → RelD G μ h.length H y vy → Out G E μ h.length H (f x y h) (RelD G) Q → r vx vy H Q
theorem op_tOf {r : R2} {f : Dv → Dv → Hs → Rs Dv} (hd : OpD G r f) {σ : St} {H : Hp} {Q : VK} (t : tOf G E (m2 f ma mb) σ H Q) : tOp r (tOf G E ma) (tOf G E mb) σ H Q := by
  obtain ⟨μ, ρ, h, rs, s, o⟩ := t
  exact tOf_bind rs s o fun μ1 x h1 vx H1 x1 rs1 s1 r1 o1 => tOf_bind rs1 s1 o1 fun μ2 y h2 vy H2 x2 rs2 s2 r2 o2 => hd E μ2 h2 H2 x y vx vy Q s2 (RelD.mono x2 _ _ r1) r2 o2
theorem snd_op {op : Operator} {r : R2} {f : Dv → Dv → Hs → Rs Dv} (ho : OpR X (binaryOp op) r) (hd : OpD G r f) (ha : Snd X G E a ma) (hb : Snd X G E b mb) : Snd X G E (.BinOp a op b pos) (m2 f ma mb) := fun hK =>
  PE.imp (pe_op ho (ha hK) (hb hK)) fun _ _ _ t => op_tOf hd t
theorem snd_cmp {op : CmpOp} {r : R2} {f : Dv → Dv → Hs → Rs Dv} (ho : OpR X (compareOp op) r) (hd : OpD G r f) (ha : Snd X G E a ma) (hb : Snd X G E b mb) (hm : behindInMarks op b = false) : Snd X G E (.Compare a [op] [b] pos) (m2 f ma mb) := fun hK =>
  PE.imp (pe_cmpR ho (ha hK) (hb hK) hm) fun _ _ _ t => op_tOf hd t
/-- a bool's truth -/
def asB : Dv → Hs → Rs Bool
  | .bl b, h => .ok b h
  | _, _ => .bad
def mB (m : M Dv) : M Bool := fun ρ h => (m ρ h).bind asB
theorem mB_tOf {m : M Dv} {σ : St} {H : Hp} {Q : Bool → Hp → Prop} (t : ttOf G E (mB m) σ H Q) : tOf G E m σ H fun x H' => ∃ k, x = .bl k ∧ Q k H' := by
  obtain ⟨μ, ρ, h, rs, s, o⟩ := t
  refine tOf_bind rs s o fun μ1 x h1 vx H1 x1 rs1 s1 r1 o1 => ?_
  cases x with
  | bl k => exact ⟨k, r1, o1.val s1 rfl⟩
  | _ => exact o1.elim
theorem tt_cmp {op : CmpOp} {r : R2} {f : Dv → Dv → Hs → Rs Dv} (ho : OpR X (compareOp op) r) (hd : OpD G r f) (ha : Snd X G E a ma) (hb : Snd X G E b mb) (hm : behindInMarks op b = false) : SndT X G E (.Compare a [op] [b] pos) (mB (m2 f ma mb)) := fun hK =>
  PT.imp (pt_cmpR ho (ha hK) (hb hK) hm) fun σ H Q t => op_tOf hd (mB_tOf t)
/-- a op1 b op2 c -/
def mChain (f f' : Dv → Dv → Hs → Rs Dv) (ma mb mc : M Dv) : M Dv := fun ρ h => (ma ρ h).bind fun x h1 => (mb ρ h1).bind fun y h2 => (f x y h2).bind fun z h3 => match z with
  | .bl true => (mc ρ h3).bind fun w h4 => f' y w h4
  | .bl false => .ok (.bl false) h3
  | _ => .bad
theorem chain_tOf {r r' : R2} {f f' : Dv → Dv → Hs → Rs Dv} (hd : OpD G r f) (hd' : OpD G r' f') {σ : St} {H : Hp} {Q : VK} (t : tOf G E (mChain f f' ma mb mc) σ H Q) : tChain r r' (tOf G E ma) (tOf G E mb) (tOf G E mc) σ H Q := by
  obtain ⟨μ, ρ, h, rs, s, o⟩ := t
  refine tOf_bind rs s o fun μ1 x h1 vx H1 x1 rs1 s1 r1 o1 => tOf_bind rs1 s1 o1 fun μ2 y h2 vy H2 x2 rs2 s2 r2 o2 => ?_
  refine hd E μ2 h2 H2 x y vx vy _ s2 (RelD.mono x2 _ _ r1) r2 ((o2.bind (R1 := RelD G)).mono fun vz H3 ⟨μ3, z, h3, x3, s3, r3, o3⟩ => ?_)
  cases z with
  | bl k =>
    refine ⟨k, r3, ?_⟩
    cases k with
    | true => exact iteT (tOf_bind (rs2.mono x3) s3 o3 fun μ4 w h4 vw H4 x4 rs4 s4 r4 o4 => hd' E μ4 h4 H4 y w vy vw Q s4 (RelD.mono (x3.trans x4) _ _ r2) r4 o4)
    | false => exact iteF (o3.val s3 rfl)
  | _ => exact o3.elim
theorem tt_chain {op op' : CmpOp} {r r' : R2} {f f' : Dv → Dv → Hs → Rs Dv} (ho : OpR X (compareOp op) r) (ho' : OpR X (compareOp op') r') (hd : OpD G r f) (hd' : OpD G r' f') (ha : Snd X G E a ma) (hb : Snd X G E b mb) (hc : Snd X G E c mc)
    (hm : lastMarks [op, op'] [b, c] = false := by with_unfolding_all rfl) : SndT X G E (.Compare a [op, op'] [b, c] pos) (mB (mChain f f' ma mb mc)) := fun hK =>
  PT.imp (pt_chain ho ho' (ha hK) (hb hK) (hc hK) hm) fun σ H Q t => chain_tOf hd hd' (mB_tOf t)
/-- one value -/
def UnD (G : Cfg) (r : V → Hp → VK → Prop) (f : Dv → Hs → Rs Dv) : Prop := ∀ (E : XK) (μ : Nat → Addr) (h : Hs) (H : Hp) (x : Dv) (vx : V) (Q : VK), Sim G μ h H → RelD G μ h.length H x vx → Out G E μ h.length H (f x h) (RelD G) Q → r vx H Q
def m1 (f : Dv → Hs → Rs Dv) (ma : M Dv) : M Dv := fun ρ h => (ma ρ h).bind f
theorem snd_un {op : UnaryOp} {r : V → Hp → VK → Prop} {f : Dv → Hs → Rs Dv} (ho : UnR X (unaryOp op) r) (hd : UnD G r f) (ha : Snd X G E a ma) : Snd X G E (.UnaryOp op a pos) (m1 f ma) := fun hK =>
  PE.imp (pe_un ho (ha hK)) fun σ H Q ⟨μ, ρ, h, rs, s, o⟩ => tOf_bind rs s o fun μ1 x h1 vx H1 x1 rs1 s1 r1 o1 => hd E μ1 h1 H1 x vx Q s1 r1 o1
/-! ### and, or, not -/
variable {tA tB' : M Bool} {rest : List Expr}
def mAnd (t u : M Bool) : M Bool := fun ρ h => (t ρ h).bind fun c h1 => if c = true then u ρ h1 else .ok false h1
def mOr (t u : M Bool) : M Bool := fun ρ h => (t ρ h).bind fun c h1 => if c = true then .ok true h1 else u ρ h1
def mNot (t : M Bool) : M Bool := fun ρ h => (t ρ h).bind fun c h1 => .ok (!c) h1
/-- a test, whatever stands ahead -/
def SndW (X : Cx) (G : Cfg) (E : XK) (pe : Expr) (m : M Bool) : Prop := X.K = G.K → PW X pe (ttOf G E m)
theorem SndW.t {pe : Expr} {m : M Bool} (h : SndW X G E pe m) : SndT X G E pe m := fun hK => (h hK).pt
theorem PW.imp {e : Expr} {t t' : TT} (h : PW X e t) (i : ∀ σ H Q, t' σ H Q → t σ H Q) : PW X e t' := fun wh pins s σ H Q I q => h wh pins s σ H Q I (i σ H Q q)
theorem tw_and1 (ha : SndT X G E a tA) : SndW X G E (.BoolOp .And [a] pos) tA := fun hK => pw_and1 (ha hK)
theorem tw_or1 (ha : SndT X G E a tA) : SndW X G E (.BoolOp .Or [a] pos) tA := fun hK => pw_or1 (ha hK)
theorem and_tOf {σ : St} {H : Hp} {Q : Bool → Hp → Prop} (t : ttOf G E (mAnd tA tB') σ H Q) : tAnd (ttOf G E tA) (ttOf G E tB') σ H Q := by
  obtain ⟨μ, ρ, h, rs, s, o⟩ := t
  refine ttOf_bind rs s o fun μ1 k h1 H1 x1 rs1 s1 o1 => ?_
  cases k with
  | true => rw [if_pos rfl] at o1 ⊢; exact ⟨μ1, ρ, h1, rs1, s1, o1⟩
  | false => rw [if_neg (by decide)] at o1 ⊢; exact o1.val s1 rfl
theorem or_tOf {σ : St} {H : Hp} {Q : Bool → Hp → Prop} (t : ttOf G E (mOr tA tB') σ H Q) : tOr (ttOf G E tA) (ttOf G E tB') σ H Q := by
  obtain ⟨μ, ρ, h, rs, s, o⟩ := t
  refine ttOf_bind rs s o fun μ1 k h1 H1 x1 rs1 s1 o1 => ?_
  cases k with
  | false => rw [if_neg (by decide)] at o1 ⊢; exact ⟨μ1, ρ, h1, rs1, s1, o1⟩
  | true => rw [if_pos rfl] at o1 ⊢; exact o1.val s1 rfl
theorem tw_and (ha : SndT X G E a tA) (hb : SndW X G E (.BoolOp .And (b :: rest) pos) tB') : SndW X G E (.BoolOp .And (a :: b :: rest) pos) (mAnd tA tB') := fun hK => PW.imp (pw_and (ha hK) (hb hK)) fun _ _ _ t => and_tOf t
theorem tw_or (ha : SndT X G E a tA) (hb : SndW X G E (.BoolOp .Or (b :: rest) pos) tB') : SndW X G E (.BoolOp .Or (a :: b :: rest) pos) (mOr tA tB') := fun hK => PW.imp (pw_or (ha hK) (hb hK)) fun _ _ _ t => or_tOf t
theorem tt_not (ha : SndT X G E a tA) : SndT X G E (.UnaryOp .Not a pos) (mNot tA) := fun hK => PT.imp (pt_not (ha hK)) fun σ H Q ⟨μ, ρ, h, rs, s, o⟩ => ttOf_bind rs s o fun μ1 k h1 H1 x1 rs1 s1 o1 => o1.val s1 rfl
def mAndV (m u : M Dv) : M Dv := fun ρ h => (m ρ h).bind fun d h1 => match d with
  | .bl true => u ρ h1
  | .bl false => .ok (.bl false) h1
  | _ => .bad
def notD : Dv → Hs → Rs Dv
  | .bl b, h => .ok (.bl (!b)) h
  | _, _ => .bad
theorem snd_one {op} {m : M Dv} (h : Snd X G E a m) : Snd X G E (.BoolOp op [a] pos) m := fun hK => pe_one (h hK)
theorem snd_and (ha : Snd X G E a ma) (hb : Snd X G E (.BoolOp .And (b :: rest) pos) mb) : Snd X G E (.BoolOp .And (a :: b :: rest) pos) (mAndV ma mb) := fun hK => PE.imp (pe_and (ha hK) (hb hK)) fun σ H Q ⟨μ, ρ, h, rs, s, o⟩ =>
  tOf_bind rs s o fun μ1 x h1 vx H1 x1 rs1 s1 r1 o1 => by
    cases x with
    | bl k =>
      refine ⟨k, r1, ?_⟩
      cases k with
      | true => exact iteT ⟨μ1, ρ, h1, rs1, s1, o1⟩
      | false => exact iteF (o1.val s1 rfl)
    | _ => exact o1.elim
theorem snd_not (ha : Snd X G E a ma) : Snd X G E (.UnaryOp .Not a pos) (m1 notD ma) := fun hK => PE.imp (pe_not (ha hK)) fun σ H Q ⟨μ, ρ, h, rs, s, o⟩ =>
  tOf_bind rs s o fun μ1 x h1 vx H1 x1 rs1 s1 r1 o1 => by
    cases x with
    | bl k => exact ⟨k, r1, o1.val s1 rfl⟩
    | _ => exact o1.elim
/-- a value's truth -/
def truD : Dv → Hs → Rs Bool
  | .non, h => .ok false h
  | .bl b, h => .ok b h
  | .int i, h => .ok (i != 0) h
  | .tup xs, h => .ok (!xs.isEmpty) h
  | .ref i, h => match getL h i with
    | some xs => .ok (!xs.isEmpty) h
    | none => .bad
  | _, _ => .bad
def mTru (m : M Dv) : M Bool := fun ρ h => (m ρ h).bind truD
theorem relDL_empty {μ : Nat → Addr} {n : Nat} {H : Hp} {ds : List Dv} {vs : List V} (r : RelDL G μ n H ds vs) : vs.isEmpty = ds.isEmpty := by
  have := r.length
  cases ds <;> cases vs <;> simp_all
theorem tt_tru (ha : Snd X G E a ma) (he : ∀ whole, isTrue a X.env whole = (do let v ← whole; standAt a.pos; holding [v] (truthy v)) := by intro _; rfl) : SndT X G E a (mTru ma) := fun hK => PT.imp (pt_truth (ha hK) he) fun σ H Q ⟨μ, ρ, h, rs, s, o⟩ =>
  tOf_bind rs s o fun μ1 x h1 vx H1 x1 rs1 s1 r1 o1 => by
    cases x with
    | non => rw [RelD] at r1; subst r1; exact ⟨_, rfl, o1.val s1 rfl⟩
    | bl k => rw [RelD] at r1; subst r1; exact ⟨_, rfl, o1.val s1 rfl⟩
    | int i => rw [RelD] at r1; subst r1; exact ⟨_, rfl, o1.val s1 rfl⟩
    | tup ds =>
      obtain ⟨p, vs, rfl, e, r⟩ := r1
      exact ⟨_, .inr (.inl ⟨vs, SqT.of e, rfl⟩), by rw [relDL_empty r]; exact o1.val s1 rfl⟩
    | ref i =>
      obtain ⟨hi, rfl⟩ := r1
      dsimp only [truD] at o1
      cases q : getL h1 i with
      | none => rw [q] at o1; exact o1.elim
      | some xs =>
        obtain ⟨vs, e, r⟩ := s1.ob i _ (getL_some q)
        rw [q] at o1
        exact ⟨_, .inl ⟨vs, SqL.of e, rfl⟩, by rw [relDL_empty r]; exact o1.val s1 rfl⟩
    | _ => exact o1.elim
end
end L2.Mr
namespace L2
open PySem PySem.Spec PyProof.Rows
section
variable {Pg : Program} {w : World} {P : Addr → Prop} {H : Hp} {s : Shared}
theorem rcne_D (hok : HOk Pg w H s.heap) (n : Nat) (A : Around) (d d' : Dt) (v v' : V) (u u' : Value) (hn : dep d ≤ n) (hu : A.units + n + 1 < cLine) (n1 : nod d = true) (n2 : nod d' = true) (h : Den P H d v) (h' : Den P H d' v') (r : RelV v u) (r' : RelV v' u') :
    SeqAt.RcNeAt A s u u' (!deq d d') := by
  have hu' : A.units < cLine := by omega
  have hin : ∀ {vs vs' : List V} {ds ds' : List Dt} {its its' : List Value}, depL ds + 1 ≤ n → nodL ds = true → nodL ds' = true → DenL P H ds vs → DenL P H ds' vs' → Vals vs its → Vals vs' its' →
      ∀ j (h1 : j < its.toArray.size) (h2 : j < its'.toArray.size), SeqAt.EqAt A.in1 s its.toArray[j] its'.toArray[j] (deq (ds.getD j .non) (ds'.getD j .non)) := by
    intro vs vs' ds ds' its its' hd m1 m2 g g' q q' j h1 h2
    obtain ⟨x, ex, rx⟩ := vals_at q h1
    obtain ⟨x', ex', rx'⟩ := vals_at q' h2
    obtain ⟨dx, edx, gx⟩ := g.get ex
    obtain ⟨dx', edx', gx'⟩ := g'.get ex'
    have e1 : ds.getD j .non = dx := by simp [List.getD, edx]
    have e2 : ds'.getD j .non = dx' := by simp [List.getD, edx']
    rw [e1, e2]
    have hm := List.mem_of_getElem? edx
    have hdm := depL_mem hm
    exact (rcAt_D hok (n - 1) A.in1 dx dx' x x' _ _ (by omega) (by show A.units + 1 + (n - 1) + 1 < cLine; omega) (nodL_mem m1 hm) (nodL_mem m2 (List.mem_of_getElem? edx')) gx gx' rx rx').2
  cases d with
  | non =>
    rw [Den] at h; subst h; cases r
    cases d' with
    | non =>
      rw [Den] at h'; subst h'; cases r'
      exact SeqAt.RcNeAt.none_none
    | bl b' =>
      rw [Den] at h'; subst h'; cases r'
      exact SeqAt.RcNeAt.none_bool  _
    | int i' =>
      rw [Den] at h'; subst h'; obtain ⟨t2, rfl⟩ := r'
      exact SeqAt.RcNeAt.none_int  _ _
    | str x' =>
      rw [Den] at h'; subst h'; obtain ⟨t2, rfl⟩ := r'
      exact SeqAt.RcNeAt.none_str  _ _
    | tup ds' =>
      rw [Den] at h'; obtain ⟨a2, vs2, rfl, e2, g2⟩ := h'; cases r'; obtain ⟨its2, q2, tp2⟩ := den_tup hok e2
      exact SeqAt.RcNeAt.none_tuple  tp2 hu'
    | lst ds' =>
      rw [Den] at h'; obtain ⟨a2, vs2, rfl, _, e2, g2⟩ := h'; cases r'; obtain ⟨its2, q2, tp2⟩ := den_lst hok e2
      exact SeqAt.RcNeAt.none_list  tp2 hu'
    | dct => simp [nod] at n2
  | bl b =>
    rw [Den] at h; subst h; cases r
    cases d' with
    | non =>
      rw [Den] at h'; subst h'; cases r'
      exact SeqAt.RcNeAt.bool_none _ 
    | bl b' =>
      rw [Den] at h'; subst h'; cases r'
      exact SeqAt.RcNeAt.bool_bool _ _
    | int i' =>
      rw [Den] at h'; subst h'; obtain ⟨t2, rfl⟩ := r'
      exact SeqAt.RcNeAt.bool_int _ _ _
    | str x' =>
      rw [Den] at h'; subst h'; obtain ⟨t2, rfl⟩ := r'
      exact SeqAt.RcNeAt.bool_str _ _ _
    | tup ds' =>
      rw [Den] at h'; obtain ⟨a2, vs2, rfl, e2, g2⟩ := h'; cases r'; obtain ⟨its2, q2, tp2⟩ := den_tup hok e2
      exact SeqAt.RcNeAt.bool_tuple _ tp2 hu'
    | lst ds' =>
      rw [Den] at h'; obtain ⟨a2, vs2, rfl, _, e2, g2⟩ := h'; cases r'; obtain ⟨its2, q2, tp2⟩ := den_lst hok e2
      exact SeqAt.RcNeAt.bool_list _ tp2 hu'
    | dct => simp [nod] at n2
  | int i =>
    rw [Den] at h; subst h; obtain ⟨t1, rfl⟩ := r
    cases d' with
    | non =>
      rw [Den] at h'; subst h'; cases r'
      exact SeqAt.RcNeAt.int_none _ _ 
    | bl b' =>
      rw [Den] at h'; subst h'; cases r'
      exact SeqAt.RcNeAt.int_bool _ _ _
    | int i' =>
      rw [Den] at h'; subst h'; obtain ⟨t2, rfl⟩ := r'
      exact SeqAt.RcNeAt.int_int _ _ _ _
    | str x' =>
      rw [Den] at h'; subst h'; obtain ⟨t2, rfl⟩ := r'
      exact SeqAt.RcNeAt.int_str _ _ _ _
    | tup ds' =>
      rw [Den] at h'; obtain ⟨a2, vs2, rfl, e2, g2⟩ := h'; cases r'; obtain ⟨its2, q2, tp2⟩ := den_tup hok e2
      exact SeqAt.RcNeAt.int_tuple _ _ tp2 hu'
    | lst ds' =>
      rw [Den] at h'; obtain ⟨a2, vs2, rfl, _, e2, g2⟩ := h'; cases r'; obtain ⟨its2, q2, tp2⟩ := den_lst hok e2
      exact SeqAt.RcNeAt.int_list _ _ tp2 hu'
    | dct => simp [nod] at n2
  | str x =>
    rw [Den] at h; subst h; obtain ⟨t1, rfl⟩ := r
    cases d' with
    | non =>
      rw [Den] at h'; subst h'; cases r'
      exact SeqAt.RcNeAt.str_none _ _ 
    | bl b' =>
      rw [Den] at h'; subst h'; cases r'
      exact SeqAt.RcNeAt.str_bool _ _ _
    | int i' =>
      rw [Den] at h'; subst h'; obtain ⟨t2, rfl⟩ := r'
      exact SeqAt.RcNeAt.str_int _ _ _ _
    | str x' =>
      rw [Den] at h'; subst h'; obtain ⟨t2, rfl⟩ := r'
      exact SeqAt.RcNeAt.str_str _ _ _ _
    | tup ds' =>
      rw [Den] at h'; obtain ⟨a2, vs2, rfl, e2, g2⟩ := h'; cases r'; obtain ⟨its2, q2, tp2⟩ := den_tup hok e2
      exact SeqAt.RcNeAt.str_tuple _ _ tp2 hu'
    | lst ds' =>
      rw [Den] at h'; obtain ⟨a2, vs2, rfl, _, e2, g2⟩ := h'; cases r'; obtain ⟨its2, q2, tp2⟩ := den_lst hok e2
      exact SeqAt.RcNeAt.str_list _ _ tp2 hu'
    | dct => simp [nod] at n2
  | tup ds =>
    rw [Den] at h; obtain ⟨a1, vs1, rfl, e1, g1⟩ := h; cases r; obtain ⟨its1, q1, tp1⟩ := den_tup hok e1
    cases d' with
    | non =>
      rw [Den] at h'; subst h'; cases r'
      exact SeqAt.RcNeAt.tuple_none  tp1 hu'
    | bl b' =>
      rw [Den] at h'; subst h'; cases r'
      exact SeqAt.RcNeAt.tuple_bool _ tp1 hu'
    | int i' =>
      rw [Den] at h'; subst h'; obtain ⟨t2, rfl⟩ := r'
      exact SeqAt.RcNeAt.tuple_int _ _ tp1 hu'
    | str x' =>
      rw [Den] at h'; subst h'; obtain ⟨t2, rfl⟩ := r'
      exact SeqAt.RcNeAt.tuple_str _ _ tp1 hu'
    | tup ds' =>
      rw [Den] at h'; obtain ⟨a2, vs2, rfl, e2, g2⟩ := h'; cases r'; obtain ⟨its2, q2, tp2⟩ := den_tup hok e2
      rw [nod] at n1 n2; rw [dep] at hn
      have hl1 := g1.length; have hl2 := g2.length; have hq1 := q1.length; have hq2 := q2.length
      rw [deq]
      have z := SeqAt.RcNeAt.tuples (e := fun j => deq (ds.getD j .non) (ds'.getD j .non)) tp1 tp2 hu' (hin hn n1 n2 g1 g2 q1 q2)
      have s1 : its1.toArray.size = ds.length := by simp; omega
      have s2 : its2.toArray.size = ds'.length := by simp; omega
      rw [s1, s2] at z
      by_cases hlen : ds.length = ds'.length
      · rw [deqL_range hlen]; rw [← hlen, Nat.min_self] at z; simpa using z
      · rw [deqL_len hlen]; rw [show (ds.length == ds'.length) = false from beq_eq_false_iff_ne.mpr hlen, Bool.and_false] at z; exact z
    | lst ds' =>
      rw [Den] at h'; obtain ⟨a2, vs2, rfl, _, e2, g2⟩ := h'; cases r'; obtain ⟨its2, q2, tp2⟩ := den_lst hok e2
      exact SeqAt.RcNeAt.tuple_list tp1 tp2 hu'
    | dct => simp [nod] at n2
  | lst ds =>
    rw [Den] at h; obtain ⟨a1, vs1, rfl, _, e1, g1⟩ := h; cases r; obtain ⟨its1, q1, tp1⟩ := den_lst hok e1
    cases d' with
    | non =>
      rw [Den] at h'; subst h'; cases r'
      exact SeqAt.RcNeAt.list_none  tp1 hu'
    | bl b' =>
      rw [Den] at h'; subst h'; cases r'
      exact SeqAt.RcNeAt.list_bool _ tp1 hu'
    | int i' =>
      rw [Den] at h'; subst h'; obtain ⟨t2, rfl⟩ := r'
      exact SeqAt.RcNeAt.list_int _ _ tp1 hu'
    | str x' =>
      rw [Den] at h'; subst h'; obtain ⟨t2, rfl⟩ := r'
      exact SeqAt.RcNeAt.list_str _ _ tp1 hu'
    | tup ds' =>
      rw [Den] at h'; obtain ⟨a2, vs2, rfl, e2, g2⟩ := h'; cases r'; obtain ⟨its2, q2, tp2⟩ := den_tup hok e2
      exact SeqAt.RcNeAt.list_tuple tp1 tp2 hu'
    | lst ds' =>
      rw [Den] at h'; obtain ⟨a2, vs2, rfl, _, e2, g2⟩ := h'; cases r'; obtain ⟨its2, q2, tp2⟩ := den_lst hok e2
      rw [nod] at n1 n2; rw [dep] at hn
      have hl1 := g1.length; have hl2 := g2.length; have hq1 := q1.length; have hq2 := q2.length
      rw [deq]
      by_cases hlen : ds.length = ds'.length
      · have z := SeqAt.RcNeAt.lists (e := fun j => deq (ds.getD j .non) (ds'.getD j .non)) tp1 tp2 (by simp; omega) hu' (hin hn n1 n2 g1 g2 q1 q2)
        rw [deqL_range hlen]; simpa [hq1.symm, hl1] using z
      · rw [deqL_len hlen]; exact SeqAt.RcNeAt.lists_lengths tp1 tp2 (by simp; omega) hu'
    | dct => simp [nod] at n2
  | dct => simp [nod] at n1
end
end L2
namespace L2.Mr
open PySem PySem.Spec PyProof.Rows
/-! ### plain data out of data -/
def optL {α β : Type} (f : α → Option β) : List α → Option (List β)
  | [] => some []
  | x :: xs => match f x with
    | none => none
    | some y => match optL f xs with
      | none => none
      | some ys => some (y :: ys)
def pur : Nat → Hs → Dv → Option Dt
  | 0, _, _ => none
  | k + 1, h, d => match d with
    | .non => some .non
    | .bl b => some (.bl b)
    | .int i => some (.int i)
    | .str x => some (.str x)
    | .tup xs => match optL (pur k h) xs with
      | some ts => some (.tup ts)
      | none => none
    | .ref i => match getL h i with
      | some xs => match optL (pur k h) xs with
        | some ts => some (.lst ts)
        | none => none
      | none => none
    | _ => none
abbrev Tru : Addr → Prop := fun _ => True
section
variable {G : Cfg} {μ : Nat → Addr} {h : Hs} {H : Hp}
theorem pur_ok (s : Sim G μ h H) : ∀ (k : Nat) (d : Dv) (v : V) (t : Dt), RelD G μ h.length H d v → pur k h d = some t → Den Tru H t v ∧ dep t ≤ k ∧ nod t = true := by
  intro k
  induction k with
  | zero => intro d v t _ e; cases e
  | succ k ih =>
    have il : ∀ (xs : List Dv) (vs : List V) (ts : List Dt), RelDL G μ h.length H xs vs → optL (pur k h) xs = some ts → DenL Tru H ts vs ∧ depL ts ≤ k ∧ nodL ts = true := by
      intro xs
      induction xs with
      | nil => intro vs ts r e; cases e; rw [RelDL] at r; subst r; exact ⟨DenL.nil, by simp [depL], rfl⟩
      | cons x xs ihx =>
        intro vs ts r e
        rw [RelDL] at r; obtain ⟨v, rr, rfl, r1, r2⟩ := r
        unfold optL at e
        cases q : pur k h x with
        | none => rw [q] at e; cases e
        | some y =>
          rw [q] at e
          dsimp only at e
          cases q2 : optL (pur k h) xs with
          | none => rw [q2] at e; cases e
          | some ys =>
            rw [q2] at e; cases e
            obtain ⟨a1, a2, a3⟩ := ih x v y r1 q
            obtain ⟨b1, b2, b3⟩ := ihx rr ys r2 q2
            exact ⟨DenL.cons a1 b1, by rw [depL]; omega, by rw [nodL, a3, b3]; rfl⟩
    intro d v t r e
    unfold pur at e
    cases d with
    | non => cases e; rw [RelD] at r; subst r; exact ⟨by rw [Den], by simp [dep], rfl⟩
    | bl b => cases e; rw [RelD] at r; subst r; exact ⟨by rw [Den], by simp [dep], rfl⟩
    | int b => cases e; rw [RelD] at r; subst r; exact ⟨by rw [Den], by simp [dep], rfl⟩
    | str b => cases e; rw [RelD] at r; subst r; exact ⟨by rw [Den], by simp [dep], rfl⟩
    | tup xs =>
      dsimp only at e
      cases q : optL (pur k h) xs with
      | none => rw [q] at e; cases e
      | some ts =>
        rw [q] at e; cases e
        obtain ⟨a, vs, rfl, e1, r1⟩ := r
        obtain ⟨b1, b2, b3⟩ := il xs vs ts r1 q
        exact ⟨by rw [Den]; exact ⟨a, vs, rfl, e1, b1⟩, by rw [dep]; omega, by rw [nod]; exact b3⟩
    | ref i =>
      dsimp only at e
      cases g : getL h i with
      | none => rw [g] at e; cases e
      | some xs =>
        rw [g] at e
        dsimp only at e
        cases q : optL (pur k h) xs with
        | none => rw [q] at e; cases e
        | some ts =>
          rw [q] at e; cases e
          obtain ⟨hi, rfl⟩ := r
          obtain ⟨vs, e1, r1⟩ := s.ob i _ (getL_some g)
          obtain ⟨b1, b2, b3⟩ := il xs vs ts r1 q
          exact ⟨by rw [Den]; exact ⟨_, vs, rfl, trivial, e1, b1⟩, by rw [dep]; omega, by rw [nod]; exact b3⟩
    | edc => cases e
    | exc c => cases e
    | scr => cases e
end
def fuelD : Nat := 30
/-! ### == and != of any data -/
def eqD (x y : Dv) (h : Hs) : Rs Dv := match pur fuelD h x, pur fuelD h y with
  | some s, some t => .ok (.bl (deq s t)) h
  | _, _ => .bad
def neD (x y : Dv) (h : Hs) : Rs Dv := match pur fuelD h x, pur fuelD h y with
  | some s, some t => .ok (.bl (!deq s t)) h
  | _, _ => .bad
def rEqG (neg : Bool) : R2 := fun x y H Q => ∃ t t', Den Tru H t x ∧ Den Tru H t' y ∧ dep t ≤ fuelD ∧ nod t = true ∧ nod t' = true ∧ Q (.bl (if neg then !deq t t' else deq t t')) H
section
variable {X : Cx} {G : Cfg}
theorem op_eqG (hu : X.A.units + 64 < cLine) : OpR X (compareOp .Eq) (rEqG false) := by
  intro pins s σ H x y v u Q I r1 r2 ⟨t, t', d, d', hd, n1, n2, q⟩
  exact EqBoolInt.of_rc (rcAt_D I.hok fuelD X.A t t' x y v u hd (by unfold fuelD; omega) n1 n2 d d' r1 r2).1 ⟨.bl _, H, I, rfl, q⟩
theorem op_neG (hu : X.A.units + 64 < cLine) : OpR X (compareOp .NotEq) (rEqG true) := by
  intro pins s σ H x y v u Q I r1 r2 ⟨t, t', d, d', hd, n1, n2, q⟩
  exact EqBoolInt.of_rcne (rcne_D I.hok fuelD X.A t t' x y v u hd (by unfold fuelD; omega) n1 n2 d d' r1 r2) ⟨.bl _, H, I, rfl, q⟩
theorem eqD_ok : OpD G (rEqG false) eqD := by
  intro E μ h H x y vx vy Q s rx ry o
  unfold eqD at o
  split at o
  · rename_i t t' e e'
    obtain ⟨a1, a2, a3⟩ := pur_ok s _ x vx t rx e
    obtain ⟨b1, b2, b3⟩ := pur_ok s _ y vy t' ry e'
    exact ⟨t, t', a1, b1, a2, a3, b3, o.val s rfl⟩
  · exact o.elim
theorem neD_ok : OpD G (rEqG true) neD := by
  intro E μ h H x y vx vy Q s rx ry o
  unfold neD at o
  split at o
  · rename_i t t' e e'
    obtain ⟨a1, a2, a3⟩ := pur_ok s _ x vx t rx e
    obtain ⟨b1, b2, b3⟩ := pur_ok s _ y vy t' ry e'
    exact ⟨t, t', a1, b1, a2, a3, b3, o.val s rfl⟩
  · exact o.elim
end
end L2.Mr
namespace L2.Mr
open PySem PySem.Spec PyProof.Rows
/-! ### ints -/
def iOp (g : Int → Int → Dv) : Dv → Dv → Hs → Rs Dv
  | .int i, .int j, h => .ok (g i j) h
  | _, _, _ => .bad
def iOpC (C : Int → Int → Bool) (g : Int → Int → Dv) : Dv → Dv → Hs → Rs Dv
  | .int i, .int j, h => if C i j = true then .ok (g i j) h else .bad
  | _, _, _ => .bad
section
variable {X : Cx} {G : Cfg}
theorem iOp_int {f : Int → Int → Int} : OpD G (rI0 fun i j => .int (f i j)) (iOp fun i j => .int (f i j)) := by
  intro E μ h H x y vx vy Q s rx ry o
  cases x with
  | int i =>
    cases y with
    | int j => exact ⟨i, j, rx, ry, o.val s rfl⟩
    | _ => exact o.elim
  | _ => exact o.elim
theorem iOp_bl {f : Int → Int → Bool} : OpD G (rI0 fun i j => .bl (f i j)) (iOp fun i j => .bl (f i j)) := by
  intro E μ h H x y vx vy Q s rx ry o
  cases x with
  | int i =>
    cases y with
    | int j => exact ⟨i, j, rx, ry, o.val s rfl⟩
    | _ => exact o.elim
  | _ => exact o.elim
theorem iOpC_int {C : Int → Int → Prop} {B : Int → Int → Bool} {f : Int → Int → Int} (hB : ∀ i j, B i j = true → C i j) : OpD G (rI C fun i j => .int (f i j)) (iOpC B fun i j => .int (f i j)) := by
  intro E μ h H x y vx vy Q s rx ry o
  cases x with
  | int i =>
    cases y with
    | int j =>
      dsimp only [iOpC] at o
      split at o
      · rename_i hb; exact ⟨i, j, rx, ry, hB i j hb, o.val s rfl⟩
      · exact o.elim
    | _ => exact o.elim
  | _ => exact o.elim
def inW (i : Int) : Bool := decide (-18446744073709551616 < i) && decide (i < 18446744073709551616)
def mulB (i j : Int) : Bool := inW i || inW j
theorem mulB_ok (i j : Int) (h : mulB i j = true) : CMul i j := by
  unfold mulB inW at h
  unfold CMul
  simp only [Bool.or_eq_true, Bool.and_eq_true, decide_eq_true_eq] at h
  rcases h with h | h
  · exact .inl ⟨by omega, by omega⟩
  · exact .inr ⟨by omega, by omega⟩
def modB (_ j : Int) : Bool := decide (0 < j)
theorem modB_ok (i j : Int) (h : modB i j = true) : 0 < j := by unfold modB at h; simpa using h
def powB (i j : Int) : Bool := decide (0 ≤ j) && decide (j ≤ 1000000) && decide (i.natAbs < 18446744073709551616)
theorem powB_ok (i j : Int) (h : powB i j = true) : CPow i j := by
  unfold powB at h; unfold CPow
  simp only [Bool.and_eq_true, decide_eq_true_eq] at h
  exact ⟨h.1.1, h.1.2, by have := h.2; omega⟩
/-! ### lists, tuples: +, * -/
def addD : Dv → Dv → Hs → Rs Dv
  | .int i, .int j, h => .ok (.int (i + j)) h
  | .ref i, .ref j, h => match getL h i, getL h j with
    | some xs, some ys => lim (xs.length + ys.length) (.ok (.ref h.length) (h ++ [.lst (xs ++ ys)]))
    | _, _ => .bad
  | .tup xs, .tup ys, h => if xs.isEmpty = true then .bad else lim (xs.length + ys.length) (.ok (.tup (xs ++ ys)) h)
  | _, _, _ => .bad
def rAddG (K : PySem.W.Frag) : R2 := fun x y H Q => (rI0 fun i j => .int (i + j)) x y H Q ∨ rCat x y H Q ∨ rCatT K x y H Q
theorem op_addG : OpR X (binaryOp .Add) (rAddG X.K) := op_add.or (op_cat.or op_catT)
theorem addD_ok : OpD G (rAddG G.K) addD := by
  intro E μ h H x y vx vy Q s rx ry o
  cases x with
  | int i =>
    cases y with
    | int j => exact .inl ⟨i, j, rx, ry, o.val s rfl⟩
    | _ => exact o.elim
  | ref i =>
    cases y with
    | ref j =>
      dsimp only [addD] at o
      cases g1 : getL h i with
      | none => rw [g1] at o; exact o.elim
      | some xs =>
        cases g2 : getL h j with
        | none => rw [g1, g2] at o; exact o.elim
        | some ys =>
          rw [g1, g2] at o
          dsimp only at o
          unfold lim at o
          split at o
          · rename_i hl
            obtain ⟨vs, e1, r1⟩ := s.ob i _ (getL_some g1)
            obtain ⟨ws, e2, r2⟩ := s.ob j _ (getL_some g2)
            obtain ⟨_, rfl⟩ := rx
            obtain ⟨_, rfl⟩ := ry
            exact .inr (.inl ⟨_, _, vs, ws, rfl, rfl, e1, e2, by rw [r1.length, r2.length]; exact lim_line hl, fun p hp => out_lst s (r1.append r2) hp o⟩)
          · exact o.elim
    | _ => exact o.elim
  | tup xs =>
    cases y with
    | tup ys =>
      dsimp only [addD] at o
      split at o
      · exact o.elim
      · rename_i hne
        unfold lim at o
        split at o
        · rename_i hl
          obtain ⟨a, vs, rfl, e1, r1⟩ := rx
          obtain ⟨b, ws, rfl, e2, r2⟩ := ry
          refine .inr (.inr ⟨a, b, vs, ws, rfl, rfl, SqT.of e1, SqT.of e2, ?_, by rw [r1.length, r2.length]; exact lim_line hl, fun z => ?_, fun _ p hp => ?_⟩)
          · intro z; subst z
            have := r1.length
            cases xs <;> simp_all
          · subst z
            have e3 : ys = [] := by have := r2.length; cases ys <;> simp_all
            subst e3
            refine o.val s ?_
            rw [List.append_nil]
            exact ⟨a, vs, rfl, e1, r1⟩
          · exact o μ _ _ (Ext.same (same_upd hp)) (s.same (same_upd hp)) ⟨p, _, rfl, upd_same, RelDL.mono (Ext.same (same_upd hp)) _ _ (r1.append r2)⟩
        · exact o.elim
    | _ => exact o.elim
  | _ => exact o.elim
/-! ### items -/
def atL (xs : List Dv) (i : Int) (h : Hs) : Rs Dv := match atI xs i with
  | some d => .ok d h
  | none => .bad
def ixD (scr : List Int) : Dv → Dv → Hs → Rs Dv
  | .tup xs, .int i, h => atL xs i h
  | .ref k, .int i, h => match getL h k with
    | some xs => atL xs i h
    | none => .bad
  | .scr, .int i, h => atL (scr.map Dv.int) i h
  | _, _, _ => .bad
theorem relDL_ints {μ : Nat → Addr} {n : Nat} {H : Hp} : ∀ ns : List Int, RelDL G μ n H (ns.map Dv.int) (ns.map V.int)
  | [] => RelDL.nil
  | i :: ns => RelDL.cons rfl (relDL_ints ns)
theorem atL_ok {E : XK} {μ : Nat → Addr} {h : Hs} {H : Hp} {xs : List Dv} {vs : List V} {i : Int} {Q : VK} (s : Sim G μ h H) (r : RelDL G μ h.length H xs vs) (o : Out G E μ h.length H (atL xs i h) (RelD G) Q) : ∃ v, atI vs i = some v ∧ Q v H := by
  unfold atL at o
  cases e : atI xs i with
  | none => rw [e] at o; exact o.elim
  | some d =>
    rw [e] at o
    unfold atI at e ⊢
    rw [r.length]
    cases q : ixN xs.length i with
    | none => rw [q] at e; cases e
    | some j =>
      rw [q] at e
      obtain ⟨v, e1, r1⟩ := r.get e
      exact ⟨v, e1, o.val s r1⟩
theorem ixD_ok : OpD G (rIx G.K) (ixD G.scr) := by
  intro E μ h H x y vx vy Q s rx ry o
  cases y with
  | int i =>
    cases x with
    | tup xs =>
      obtain ⟨a, vs, rfl, e1, r1⟩ := rx
      obtain ⟨v, e2, q⟩ := atL_ok s r1 o
      exact .inr (.inl ⟨a, vs, i, v, rfl, ry, SqT.of e1, e2, q⟩)
    | ref k =>
      dsimp only [ixD] at o
      cases g : getL h k with
      | none => rw [g] at o; exact o.elim
      | some xs =>
        rw [g] at o
        obtain ⟨vs, e1, r1⟩ := s.ob k _ (getL_some g)
        obtain ⟨_, rfl⟩ := rx
        obtain ⟨v, e2, q⟩ := atL_ok s r1 o
        exact .inl ⟨_, vs, i, v, rfl, ry, SqL.of e1, e2, q⟩
    | scr =>
      obtain ⟨rfl, hf⟩ := rx
      obtain ⟨v, e2, q⟩ := atL_ok s (relDL_ints G.scr) o
      exact .inl ⟨_, _, i, v, rfl, ry, hf.sq, e2, q⟩
    | _ => exact o.elim
  | _ => cases x <;> exact o.elim
theorem snd_ix {E : XK} {a b : Expr} {ma mb : M Dv} {pos : Pos} (ha : Snd X G E a ma) (hb : Snd X G E b mb) (hs : PlainIx b := by intro _ _; rfl) : Snd X G E (.Subscript a b pos) (m2 (ixD G.scr) ma mb) := fun hK =>
  PE.imp (pe_ix (by have := ix_seq (X := X); rw [hK] at this; exact this) (ha hK) (hb hK) hs) fun _ _ _ t => op_tOf ixD_ok t
theorem b_abs : bootBuiltins "abs" = some (.builtin "abs") := by decide +kernel
theorem b_tuple : bootBuiltins "tuple" = some (.type "tuple") := by decide +kernel
theorem b_list : bootBuiltins "list" = some (.type "list") := by decide +kernel
theorem b_max : bootBuiltins "max" = some (.builtin "max") := by decide +kernel
theorem b_min : bootBuiltins "min" = some (.builtin "min") := by decide +kernel
/-! ### built-ins of given arguments -/
variable {E : XK} {mas : M (List Dv)} {e : Expr} {es : List Expr} {x : Str} {p pos : Pos} {id T : String}
def CallD (G : Cfg) (r : List V → Hp → VK → Prop) (f : List Dv → Hs → Rs Dv) : Prop := ∀ (E : XK) (μ : Nat → Addr) (h : Hs) (H : Hp) (xs : List Dv) (vs : List V) (Q : VK), Sim G μ h H → RelDL G μ h.length H xs vs → Out G E μ h.length H (f xs h) (RelD G) Q → r vs H Q
def mCall (f : List Dv → Hs → Rs Dv) (ms : M (List Dv)) : M Dv := fun ρ h => (ms ρ h).bind f
theorem cb_tOf {r : List V → Hp → VK → Prop} {f : List Dv → Hs → Rs Dv} (hd : CallD G r f) {σ : St} {H : Hp} {Q : VK} (t : tOf G E (mCall f mas) σ H Q) : tCB r (taOf G E mas) σ H Q := by
  obtain ⟨μ, ρ, h, rs, s, o⟩ := t
  exact taOf_bind rs s o fun μ1 ds h1 vs H1 x1 rs1 s1 r1 o1 => hd E μ1 h1 H1 ds vs Q s1 r1 o1
theorem snd_callB {r : List V → Hp → VK → Prop} {f : List Dv → Hs → Rs Dv} (hc : CallR X (.builtin id) r) (hd : CallD G r f) (hg : Gl X x) (hm : X.mg x = none) (hv : bootBuiltins x = some (.builtin id)) (ha : SndA X G E (e :: es) mas) (hn : x ≠ "__name__" := by decide) (hdb : (x == ("__debug__" : Str)) = false := by decide)
    (he : starEach (e :: es) X.env = (false, eval e X.env) :: starEach es X.env := by rfl) (hpl : (backTo pos (starEach es X.env)).any (·.1) = false := by rfl) : Snd X G E (.Call (.Name x p) (e :: es) [] pos) (mCall f mas) := fun hK =>
  PE.imp (pe_callB hc hg hm hv (ha hK) hn hdb he hpl) fun _ _ _ t => cb_tOf hd t
theorem snd_callTy {r : List V → Hp → VK → Prop} {f : List Dv → Hs → Rs Dv} (hc : CallR X (.type T) r) (hd : CallD G r f) (hg : Gl X x) (hm : X.mg x = none) (hv : bootBuiltins x = some (.type T)) (ha : SndA X G E (e :: es) mas) (hn : x ≠ "__name__" := by decide) (hdb : (x == ("__debug__" : Str)) = false := by decide)
    (he : starEach (e :: es) X.env = (false, eval e X.env) :: starEach es X.env := by rfl) (hpl : (backTo pos (starEach es X.env)).any (·.1) = false := by rfl) : Snd X G E (.Call (.Name x p) (e :: es) [] pos) (mCall f mas) := fun hK =>
  PE.imp (pe_callTy hc hg hm hv (ha hK) hn hdb he hpl) fun _ _ _ t => cb_tOf hd t
/-- the items of a list or a tuple -/
def seqD (scr : List Int) : Dv → Hs → Option (List Dv)
  | .tup xs, _ => some xs
  | .ref i, h => getL h i
  | .scr, _ => some (scr.map Dv.int)
  | _, _ => none
/-- one argument -/
def f1 (g : Dv → Hs → Rs Dv) : List Dv → Hs → Rs Dv
  | [d], h => g d h
  | _, _ => .bad
def lenD (scr : List Int) (d : Dv) (h : Hs) : Rs Dv := match seqD scr d h with
  | some xs => .ok (.int xs.length) h
  | none => .bad
theorem relDL_one {μ : Nat → Addr} {n : Nat} {H : Hp} {d : Dv} {vs : List V} (r : RelDL G μ n H [d] vs) : ∃ v, vs = [v] ∧ RelD G μ n H d v := by
  rw [RelDL] at r; obtain ⟨v, rr, rfl, h1, h2⟩ := r
  rw [RelDL] at h2; subst h2
  exact ⟨v, rfl, h1⟩
theorem f1_ok {r : V → Hp → VK → Prop} {g : Dv → Hs → Rs Dv} (hg : UnD G r g) : CallD G (fun xs H Q => ∃ v, xs = [v] ∧ r v H Q) (f1 g) := by
  intro E μ h H xs vs Q s rr o
  match xs, rr, o with
  | [], _, o => exact o.elim
  | _ :: _ :: _, _, o => exact o.elim
  | [d], rr, o =>
    obtain ⟨v, rfl, r1⟩ := relDL_one rr
    exact ⟨v, rfl, hg E μ h H d v Q s r1 o⟩
theorem relDL_two {μ : Nat → Addr} {n : Nat} {H : Hp} {d d' : Dv} {vs : List V} (r : RelDL G μ n H [d, d'] vs) : ∃ v v', vs = [v, v'] ∧ RelD G μ n H d v ∧ RelD G μ n H d' v' := by
  rw [RelDL] at r; obtain ⟨v, rr, rfl, h1, h2⟩ := r
  obtain ⟨v', rfl, h3⟩ := relDL_one h2
  exact ⟨v, v', rfl, h1, h3⟩
theorem seqD_ok {μ : Nat → Addr} {h : Hs} {H : Hp} {d : Dv} {v : V} {xs : List Dv} (s : Sim G μ h H) (r : RelD G μ h.length H d v) (e : seqD G.scr d h = some xs) : ∃ a vs, v = .ref a ∧ (SqL G.K H a vs ∨ SqT G.K H a vs) ∧ RelDL G μ h.length H xs vs := by
  cases d with
  | tup ds => cases e; obtain ⟨a, vs, rfl, e1, r1⟩ := r; exact ⟨a, vs, rfl, .inr (SqT.of e1), r1⟩
  | ref i => obtain ⟨_, rfl⟩ := r; obtain ⟨vs, e1, r1⟩ := s.ob i _ (getL_some e); exact ⟨_, vs, rfl, .inl (SqL.of e1), r1⟩
  | scr => cases e; obtain ⟨rfl, hf⟩ := r; exact ⟨_, _, rfl, .inl hf.sq, relDL_ints _⟩
  | _ => cases e
def rLenG (K : PySem.W.Frag) : V → Hp → VK → Prop := fun x H Q => ∃ p ys, x = .ref p ∧ (SqL K H p ys ∨ SqT K H p ys) ∧ Q (.int ys.length) H
theorem lenD_ok : UnD G (rLenG G.K) (lenD G.scr) := by
  intro E μ h H d v Q s r1 o
  unfold lenD at o
  cases e : seqD G.scr d h with
  | none => rw [e] at o; exact o.elim
  | some ys =>
    rw [e] at o
    obtain ⟨a, ws, rfl, hs, r2⟩ := seqD_ok s r1 e
    exact ⟨a, ws, rfl, hs, by rw [r2.length]; exact o.val s rfl⟩
theorem CallR.imp {f : Value} {r r' : List V → Hp → VK → Prop} (h : CallR X f r) (i : ∀ xs H Q, r' xs H Q → r xs H Q) : CallR X f r' := fun pins s σ H xs us Q I rv q => h pins s σ H xs us Q I rv (i xs H Q q)
theorem snd_len (hg : Gl X "len") (hm : X.mg "len" = none) (ha : SndA X G E (e :: es) mas)
    (he : starEach (e :: es) X.env = (false, eval e X.env) :: starEach es X.env := by rfl) (hpl : (backTo pos (starEach es X.env)).any (·.1) = false := by rfl) : Snd X G E (.Call (.Name "len" p) (e :: es) [] pos) (mCall (f1 (lenD G.scr)) mas) := fun hK =>
  snd_callB (CallR.imp (call_len_seq (X := X)) fun xs H Q ⟨v, h1, a, ys, h2, h3, h4⟩ => ⟨a, ys, by rw [h1, h2], by rw [hK]; exact h3, h4⟩) (f1_ok lenD_ok) hg hm PySem.boot_len ha (by decide) (by decide) he hpl hK
def absD : Dv → Hs → Rs Dv
  | .int i, h => .ok (.int (if i < 0 then -i else i)) h
  | _, _ => .bad
theorem absD_ok : UnD G (fun x H Q => ∃ i, x = .int i ∧ Q (.int (if i < 0 then -i else i)) H) absD := by
  intro E μ h H d v Q s r1 o
  cases d with
  | int i => rw [RelD] at r1; subst r1; exact ⟨i, rfl, o.val s rfl⟩
  | _ => exact o.elim
theorem snd_abs (hg : Gl X "abs") (hm : X.mg "abs" = none) (ha : SndA X G E (e :: es) mas)
    (he : starEach (e :: es) X.env = (false, eval e X.env) :: starEach es X.env := by rfl) (hpl : (backTo pos (starEach es X.env)).any (·.1) = false := by rfl) : Snd X G E (.Call (.Name "abs" p) (e :: es) [] pos) (mCall (f1 absD) mas) :=
  snd_callB (CallR.imp (call_abs (X := X)) fun xs H Q ⟨v, h1, i, h2, h3⟩ => ⟨i, by rw [h1, h2], h3⟩) (f1_ok absD_ok) hg hm b_abs ha (by decide) (by decide) he hpl
def max2F : List Dv → Hs → Rs Dv
  | [.int i, .int j], h => .ok (.int (if j > i then j else i)) h
  | _, _ => .bad
def min2F : List Dv → Hs → Rs Dv
  | [.int i, .int j], h => .ok (.int (if j < i then j else i)) h
  | _, _ => .bad
theorem two_ok {f : List Dv → Hs → Rs Dv} {g : Int → Int → Int} (h2 : ∀ i j h, f [.int i, .int j] h = .ok (.int (g i j)) h) (hb : ∀ xs h, (∀ i j, xs ≠ [.int i, .int j]) → f xs h = .bad) :
    CallD G (fun xs H Q => ∃ i j, xs = [.int i, .int j] ∧ Q (.int (g i j)) H) f := by
  intro E μ h H xs vs Q s r o
  by_cases hx : ∃ i j, xs = [.int i, .int j]
  · obtain ⟨i, j, rfl⟩ := hx
    obtain ⟨v, v', rfl, r1, r2⟩ := relDL_two r
    rw [RelD] at r1 r2; subst r1; subst r2
    rw [h2] at o
    exact ⟨i, j, rfl, o.val s rfl⟩
  · rw [hb xs h (fun i j e => hx ⟨i, j, e⟩)] at o
    exact o.elim
theorem max2F_ok : CallD G (fun xs H Q => ∃ i j, xs = [.int i, .int j] ∧ Q (.int (if j > i then j else i)) H) max2F := two_ok (fun _ _ _ => rfl) fun xs h hx => by
  unfold max2F; split
  · rename_i i j; exact absurd rfl (hx i j)
  · rfl
theorem min2F_ok : CallD G (fun xs H Q => ∃ i j, xs = [.int i, .int j] ∧ Q (.int (if j < i then j else i)) H) min2F := two_ok (fun _ _ _ => rfl) fun xs h hx => by
  unfold min2F; split
  · rename_i i j; exact absurd rfl (hx i j)
  · rfl
/-- tuple(list or tuple), list(list or tuple) -/
def tupleD : Dv → Hs → Rs Dv
  | .tup xs, h => .ok (.tup xs) h
  | .ref i, h => match getL h i with
    | some xs => .ok (.tup xs) h
    | none => .bad
  | _, _ => .bad
def rTupG (K : PySem.W.Frag) : V → Hp → VK → Prop := fun x H Q => ∃ p ys, x = .ref p ∧ ((SqL K H p ys ∧ ∀ l, H l = none → Q (.ref l) (upd H l (.tup ys))) ∨ (SqT K H p ys ∧ Q (.ref p) H))
theorem tupleD_ok : UnD G (rTupG G.K) tupleD := by
  intro E μ h H d v Q s r1 o
  cases d with
  | tup ds =>
    have r1' := r1
    obtain ⟨a, ws, rfl, e1, r2⟩ := r1
    exact ⟨a, ws, rfl, .inr ⟨SqT.of e1, o.val s r1'⟩⟩
  | ref i =>
    dsimp only [tupleD] at o
    cases g : getL h i with
    | none => rw [g] at o; exact o.elim
    | some ys =>
      rw [g] at o
      obtain ⟨_, rfl⟩ := r1
      obtain ⟨ws, e1, r2⟩ := s.ob i _ (getL_some g)
      exact ⟨_, ws, rfl, .inl ⟨SqL.of e1, fun l hl => o μ _ _ (Ext.same (same_upd hl)) (s.same (same_upd hl)) ⟨l, ws, rfl, upd_same, RelDL.mono (Ext.same (same_upd hl)) _ _ r2⟩⟩⟩
  | _ => exact o.elim
theorem snd_tuple (hg : Gl X "tuple") (hm : X.mg "tuple" = none) (ha : SndA X G E (e :: es) mas)
    (he : starEach (e :: es) X.env = (false, eval e X.env) :: starEach es X.env := by rfl) (hpl : (backTo pos (starEach es X.env)).any (·.1) = false := by rfl) : Snd X G E (.Call (.Name "tuple" p) (e :: es) [] pos) (mCall (f1 tupleD) mas) := fun hK =>
  snd_callTy (CallR.imp (call_tuple_of (X := X)) fun xs H Q ⟨v, h1, a, ys, h2, h3⟩ => ⟨a, ys, by rw [h1, h2], by rw [hK]; exact h3⟩) (f1_ok tupleD_ok) hg hm b_tuple ha (by decide) (by decide) he hpl hK
def listD (scr : List Int) (d : Dv) (h : Hs) : Rs Dv := match seqD scr d h with
  | some xs => .ok (.ref h.length) (h ++ [.lst xs])
  | none => .bad
theorem listD_ok : UnD G (fun x H Q => ∃ p ys, x = .ref p ∧ (SqL G.K H p ys ∨ SqT G.K H p ys) ∧ ∀ l, H l = none → Q (.ref l) (upd H l (.lst ys))) (listD G.scr) := by
  intro E μ h H d v Q s r1 o
  unfold listD at o
  cases e : seqD G.scr d h with
  | none => rw [e] at o; exact o.elim
  | some ys =>
    rw [e] at o
    obtain ⟨a, ws, rfl, hs, r2⟩ := seqD_ok s r1 e
    exact ⟨a, ws, rfl, hs, fun l hl => out_lst s r2 hl o⟩
theorem snd_max2 (hc : X.calm = true) (hg : Gl X "max") (hm : X.mg "max" = none) (ha : SndA X G E (e :: es) mas)
    (he : starEach (e :: es) X.env = (false, eval e X.env) :: starEach es X.env := by rfl) (hpl : (backTo pos (starEach es X.env)).any (·.1) = false := by rfl) : Snd X G E (.Call (.Name "max" p) (e :: es) [] pos) (mCall max2F mas) :=
  snd_callB (call_max2 hc) max2F_ok hg hm b_max ha (by decide) (by decide) he hpl
theorem snd_min2 (hc : X.calm = true) (hg : Gl X "min") (hm : X.mg "min" = none) (ha : SndA X G E (e :: es) mas)
    (he : starEach (e :: es) X.env = (false, eval e X.env) :: starEach es X.env := by rfl) (hpl : (backTo pos (starEach es X.env)).any (·.1) = false := by rfl) : Snd X G E (.Call (.Name "min" p) (e :: es) [] pos) (mCall min2F mas) :=
  snd_callB (call_min2 hc) min2F_ok hg hm b_min ha (by decide) (by decide) he hpl
end
end L2.Mr
namespace L2.Mr
open PySem PySem.Spec PyProof.Rows
/-! ### statements -/
inductive Sr where
  | nx (ρ : Ev) (h : Hs) | rt (d : Dv) (h : Hs) | bk (ρ : Ev) (h : Hs) | ct (ρ : Ev) (h : Hs) | ex (c : Nat) (h : Hs) | bad
abbrev MS := Ev → Hs → Sr
def SOut (G : Cfg) (E : XK) (μ : Nat → Addr) (n : Nat) (H : Hp) (r : Sr) (D : Ends) : Prop := match r with
  | .nx ρ h' => ∀ μ' H' σ', Ext μ n H μ' h'.length H' → Sim G μ' h' H' → RelS G μ' h'.length H' ρ σ' → D.nx σ' H'
  | .bk ρ h' => ∀ μ' H' σ', Ext μ n H μ' h'.length H' → Sim G μ' h' H' → RelS G μ' h'.length H' ρ σ' → D.bk σ' H'
  | .ct ρ h' => ∀ μ' H' σ', Ext μ n H μ' h'.length H' → Sim G μ' h' H' → RelS G μ' h'.length H' ρ σ' → D.ct σ' H'
  | .rt d h' => ∀ μ' H' v, Ext μ n H μ' h'.length H' → Sim G μ' h' H' → RelD G μ' h'.length H' d v → D.rt v H'
  | .ex c h' => ∀ μ' H' u, Ext μ n H μ' h'.length H' → Sim G μ' h' H' → FlyE G H' c u → E u none H'
  | .bad => False
theorem SOut.ext {G : Cfg} {E : XK} {μ μ1 : Nat → Addr} {n n1 : Nat} {H H1 : Hp} {r : Sr} {D : Ends} (o : SOut G E μ n H r D) (x : Ext μ n H μ1 n1 H1) : SOut G E μ1 n1 H1 r D := by
  cases r with
  | nx ρ h' => exact fun μ' H' σ' y => o μ' H' σ' (x.trans y)
  | bk ρ h' => exact fun μ' H' σ' y => o μ' H' σ' (x.trans y)
  | ct ρ h' => exact fun μ' H' σ' y => o μ' H' σ' (x.trans y)
  | rt d h' => exact fun μ' H' σ' y => o μ' H' σ' (x.trans y)
  | ex c h' => exact fun μ' H' σ' y => o μ' H' σ' (x.trans y)
  | bad => exact o
def tsOf (G : Cfg) (E : XK) (m : MS) : TS := fun D σ H => ∃ μ ρ h, RelS G μ h.length H ρ σ ∧ Sim G μ h H ∧ SOut G E μ h.length H (m ρ h) D
def SndS (X : Cx) (G : Cfg) (E : XK) (st : Stmt) (m : MS) : Prop := X.K = G.K → PS X st (tsOf G E m)
def SndSs (X : Cx) (G : Cfg) (E : XK) (st : List Stmt) (m : MS) : Prop := X.K = G.K → PSs X st (tsOf G E m)
theorem PS.imp {X : Cx} {e : Stmt} {t t' : TS} (h : PS X e t) (i : ∀ D σ H, t' D σ H → t D σ H) : PS X e t' := fun pins s σ H D I q => h pins s σ H D I (i D σ H q)
theorem PSs.imp {X : Cx} {e : List Stmt} {t t' : TS} (h : PSs X e t) (i : ∀ D σ H, t' D σ H → t D σ H) : PSs X e t' := fun pins s σ H D I q => h pins s σ H D I (i D σ H q)
/-- a value, then a statement's end -/
def Rs.thenS {α : Type} (r : Rs α) (f : α → Hs → Sr) : Sr := match r with
  | .ok a h => f a h
  | .ex c h => .ex c h
  | .bad => .bad
@[simp] theorem Rs.thenS_ok {α : Type} (a : α) (h : Hs) (f : α → Hs → Sr) : (Rs.ok a h).thenS f = f a h := rfl
@[simp] theorem Rs.thenS_ex {α : Type} (c : Nat) (h : Hs) (f : α → Hs → Sr) : (Rs.ex c h).thenS f = .ex c h := rfl
@[simp] theorem Rs.thenS_bad {α : Type} (f : α → Hs → Sr) : (Rs.bad).thenS f = .bad := rfl
theorem SOut.thenS {α β : Type} {G : Cfg} {E : XK} {μ : Nat → Addr} {n : Nat} {H : Hp} {r : Rs α} {f : α → Hs → Sr} {D : Ends} {R : (Nat → Addr) → Nat → Hp → α → β → Prop}
    (o : SOut G E μ n H (r.thenS f) D) : Out G E μ n H r R fun v H1 => ∃ μ1 d h1, Ext μ n H μ1 h1.length H1 ∧ Sim G μ1 h1 H1 ∧ R μ1 h1.length H1 d v ∧ SOut G E μ1 h1.length H1 (f d h1) D := by
  cases r with
  | bad => exact o
  | ex c h' => exact o
  | ok d h' => exact fun μ1 H1 v x1 s1 r1 => ⟨μ1, d, h', x1, s1, r1, SOut.ext o x1⟩
section
variable {X : Cx} {G : Cfg} {E : XK} {st : Stmt} {rest : List Stmt} {m u : MS} {e : Expr} {me : M Dv} {pos : Pos}
theorem tOf_thenS {m : M Dv} {σ : St} {H : Hp} {f : Dv → Hs → Sr} {D : Ends} {Q1 : V → Hp → Prop} {μ : Nat → Addr} {ρ : Ev} {h : Hs} (rs : RelS G μ h.length H ρ σ) (s : Sim G μ h H) (o : SOut G E μ h.length H ((m ρ h).thenS f) D)
    (k : ∀ μ1 d h1 v H1, Ext μ h.length H μ1 h1.length H1 → RelS G μ1 h1.length H1 ρ σ → Sim G μ1 h1 H1 → RelD G μ1 h1.length H1 d v → SOut G E μ1 h1.length H1 (f d h1) D → Q1 v H1) : tOf G E m σ H Q1 :=
  ⟨μ, ρ, h, rs, s, (o.thenS (R := RelD G)).mono fun v H1 ⟨μ1, d, h1, x, s1, r1, o1⟩ => k μ1 d h1 v H1 x (rs.mono x) s1 r1 o1⟩
theorem ttOf_thenS {m : M Bool} {σ : St} {H : Hp} {f : Bool → Hs → Sr} {D : Ends} {Q1 : Bool → Hp → Prop} {μ : Nat → Addr} {ρ : Ev} {h : Hs} (rs : RelS G μ h.length H ρ σ) (s : Sim G μ h H) (o : SOut G E μ h.length H ((m ρ h).thenS f) D)
    (k : ∀ μ1 b h1 H1, Ext μ h.length H μ1 h1.length H1 → RelS G μ1 h1.length H1 ρ σ → Sim G μ1 h1 H1 → SOut G E μ1 h1.length H1 (f b h1) D → Q1 b H1) : ttOf G E m σ H Q1 :=
  ⟨μ, ρ, h, rs, s, (o.thenS (R := RB)).mono fun v H1 ⟨μ1, d, h1, x, s1, r1, o1⟩ => by
    have e : v = d := r1
    subst e
    exact k μ1 v h1 H1 x (rs.mono x) s1 o1⟩
def mNext : MS := fun ρ h => .nx ρ h
def mSeq (m u : MS) : MS := fun ρ h => match m ρ h with
  | .nx ρ1 h1 => u ρ1 h1
  | r => r
theorem ss_nil : SndSs X G E [] mNext := fun _ => PSs.imp pss_nil fun D σ H ⟨μ, ρ, h, rs, s, o⟩ => o μ H σ Ext.refl s rs
theorem ss_cons (h1 : SndS X G E st m) (h2 : SndSs X G E rest u) : SndSs X G E (st :: rest) (mSeq m u) := fun hK => PSs.imp (pss_cons (h1 hK) (h2 hK)) fun D σ H ⟨μ, ρ, h, rs, s, o⟩ => by
  refine ⟨μ, ρ, h, rs, s, ?_⟩
  unfold mSeq at o
  cases q : m ρ h with
  | nx ρ1 h1 =>
    rw [q] at o
    exact fun μ1 H1 σ1 x1 s1 rs1 => ⟨μ1, ρ1, h1, rs1, s1, SOut.ext o x1⟩
  | bk ρ1 h1 => rw [q] at o; exact o
  | ct ρ1 h1 => rw [q] at o; exact o
  | rt ρ1 h1 => rw [q] at o; exact o
  | ex ρ1 h1 => rw [q] at o; exact o
  | bad => rw [q] at o; exact o
theorem ss_one (h1 : SndS X G E st m) : SndSs X G E [st] m := fun hK => pss_one (h1 hK)
def mExpr (me : M Dv) : MS := fun ρ h => (me ρ h).thenS fun _ h1 => .nx ρ h1
theorem ss_expr (he : Snd X G E e me) (hs : swapsWith e none pos.line X.env = pure false := by rfl) : SndS X G E (.Expr e pos) (mExpr me) := fun hK => PS.imp (ps_expr (he hK) hs) fun D σ H ⟨μ, ρ, h, rs, s, o⟩ =>
  tOf_thenS rs s o fun μ1 d h1 v H1 x1 rs1 s1 r1 o1 => o1 μ1 H1 σ Ext.refl s1 rs1
def mRet (me : M Dv) : MS := fun ρ h => (me ρ h).thenS fun d h1 => .rt d h1
theorem ss_ret (he : Snd X G E e me) : SndS X G E (.Return (some e) pos) (mRet me) := fun hK => PS.imp (ps_ret (he hK)) fun D σ H ⟨μ, ρ, h, rs, s, o⟩ =>
  tOf_thenS rs s o fun μ1 d h1 v H1 x1 rs1 s1 r1 o1 => o1 μ1 H1 v Ext.refl s1 r1
def mIf (c : M Bool) (t u : MS) : MS := fun ρ h => (c ρ h).thenS fun b h1 => if b = true then t ρ h1 else u ρ h1
theorem ss_if {c : Expr} {a b : List Stmt} {mc : M Bool} (hc : SndT X G E c mc) (ha : SndSs X G E a m) (hb : SndSs X G E b u) : SndS X G E (.If c a b pos) (mIf mc m u) := fun hK => PS.imp (ps_if (hc hK) (ha hK) (hb hK)) fun D σ H ⟨μ, ρ, h, rs, s, o⟩ =>
  ttOf_thenS rs s o fun μ1 k h1 H1 x1 rs1 s1 o1 => by
    cases k with
    | true => rw [if_pos rfl] at o1 ⊢; exact ⟨μ1, ρ, h1, rs1, s1, o1⟩
    | false => rw [if_neg (by decide)] at o1 ⊢; exact ⟨μ1, ρ, h1, rs1, s1, o1⟩
/-! ### targets -/
theorem RelS.set {μ : Nat → Addr} {n : Nat} {H : Hp} {ρ : Ev} {σ : St} {d : Dv} {v : V} (rs : RelS G μ n H ρ σ) (i : Nat) (r : RelD G μ n H d v) : RelS G μ n H (ρ.set i (some d)) (σ.set i (some v)) := ⟨by rw [List.length_set, List.length_set]; exact rs.len, fun j d' e => by
  have hl := rs.len
  by_cases hij : i = j
  · subst hij
    have hi : i < ρ.length := by
      have := (List.getElem?_eq_some_iff.mp e).1
      simpa using this
    rw [List.getElem?_set_self hi] at e
    cases e
    exact ⟨v, List.getElem?_set_self (by omega), r⟩
  · rw [List.getElem?_set_ne hij] at e ⊢
    exact rs.at_ j d' e⟩
abbrev Tgt := Dv → Ev → Option Ev
def tgOf (G : Cfg) (st : Tgt) : TG := fun v σ H Q => ∃ μ ρ h d ρ', RelS G μ h H ρ σ ∧ RelD G μ h H d v ∧ st d ρ = some ρ' ∧ ∀ σ', RelS G μ h H ρ' σ' → Q σ' H
def SndG (X : Cx) (G : Cfg) (tg : Expr) (st : Tgt) : Prop := X.K = G.K → PG X tg (tgOf G st)
theorem PG.imp {tg : Expr} {t t' : TG} (h : PG X tg t) (i : ∀ v σ H Q, t' v σ H Q → t v σ H Q) : PG X tg t' := fun pins s σ H v u Q I r q => h pins s σ H v u Q I r (i v σ H Q q)
theorem PGs.imp {tg : List Expr} {t t' : TGs} (h : PGs X tg t) (i : ∀ v σ H Q, t' v σ H Q → t v σ H Q) : PGs X tg t' := fun pins s σ H v u Q I r q => h pins s σ H v u Q I r (i v σ H Q q)
def sName (i : Nat) : Tgt := fun d ρ => some (ρ.set i (some d))
theorem sg_name {i : Nat} {x : Str} (hN : X.N.Nodup) (hi : X.N[i]? = some x) (hx : Loc X.env.scope x) (hf : X.fn x = true ∨ X.env.scope.names.lookup x = some .local := by first | exact .inl rfl | exact .inr rfl | assumption) : SndG X G (.Name x pos) (sName i) := fun _ =>
  PG.imp (pg_name hN hi hx hf) fun v σ H Q ⟨μ, ρ, h, d, ρ', rs, r, e, k⟩ => by
    cases e
    exact k _ (rs.set i r)
abbrev Tgts := List Dv → Ev → Option Ev
def tgsOf (G : Cfg) (st : Tgts) : TGs := fun vs σ H Q => ∃ μ ρ h ds ρ', RelS G μ h H ρ σ ∧ RelDL G μ h H ds vs ∧ st ds ρ = some ρ' ∧ ∀ σ', RelS G μ h H ρ' σ' → Q σ' H
def SndGs (X : Cx) (G : Cfg) (tg : List Expr) (st : Tgts) : Prop := X.K = G.K → PGs X tg (tgsOf G st)
def sNil : Tgts := fun ds ρ => match ds with
  | [] => some ρ
  | _ => none
def sCons (s : Tgt) (t : Tgts) : Tgts := fun ds ρ => match ds with
  | d :: r => match s d ρ with
    | some ρ1 => t r ρ1
    | none => none
  | [] => none
theorem sgs_nil : SndGs X G [] sNil := fun _ => PGs.imp pgs_nil fun vs σ H Q ⟨μ, ρ, h, ds, ρ', rs, r, e, k⟩ => by
  cases ds with
  | nil => cases e; rw [RelDL] at r; subst r; exact ⟨rfl, k _ rs⟩
  | cons d r => cases e
theorem sgs_cons {tg : Expr} {tgs : List Expr} {s : Tgt} {t : Tgts} (h1 : SndG X G tg s) (h2 : SndGs X G tgs t)
    (hs : (assignEach (tg :: tgs) X.env).map (·.2) = assign tg X.env :: (assignEach tgs X.env).map (·.2) := by rfl) : SndGs X G (tg :: tgs) (sCons s t) := fun hK => PGs.imp (pgs_cons (h1 hK) (h2 hK) hs) fun vs σ H Q ⟨μ, ρ, h, ds, ρ', rs, r, e, k⟩ => by
  cases ds with
  | nil => cases e
  | cons d ds =>
    rw [RelDL] at r
    obtain ⟨v, rr, rfl, r1, r2⟩ := r
    unfold sCons at e
    dsimp only at e
    cases q : s d ρ with
    | none => rw [q] at e; cases e
    | some ρ1 =>
      rw [q] at e
      exact ⟨v, rr, rfl, μ, ρ, h, d, ρ1, rs, r1, q, fun σ1 rs1 => ⟨μ, ρ1, h, ds, ρ', rs1, r2, e, k⟩⟩
def sTup (n : Nat) (t : Tgts) : Tgt := fun d ρ => match d with
  | .tup ds => if ds.length = n then t ds ρ else none
  | _ => none
theorem sg_tup {tgs : List Expr} {k : Nat} {t : Tgts} {n : Nat} (hc : X.calm = true) (h : SndGs X G tgs t)
    (hn : (assignEach tgs X.env).length = n := by rfl) (hst : (assignEach tgs X.env).findIdx? (·.1) = none := by rfl) : SndG X G (.Tuple tgs k pos) (sTup n t) := fun hK =>
  PG.imp (pg_tup hc (h hK) hn hst) fun v σ H Q ⟨μ, ρ, hh, d, ρ', rs, r, e, kk⟩ => by
    cases d with
    | tup ds =>
      dsimp only [sTup] at e
      split at e
      · rename_i hl
        obtain ⟨a, vs, rfl, e1, r1⟩ := r
        exact ⟨a, vs, rfl, SqT.of e1, by rw [r1.length]; exact hl, μ, ρ, hh, ds, ρ', rs, r1, e, kk⟩
      · cases e
    | _ => cases e
/-- target = value -/
def mAsg (me : M Dv) (st : Tgt) : MS := fun ρ h => (me ρ h).thenS fun d h1 => match st d ρ with
  | some ρ1 => .nx ρ1 h1
  | none => .bad
theorem ss_set {i : Nat} {x : Str} {pos' : Pos} (hN : X.N.Nodup) (hi : X.N[i]? = some x) (hx : Loc X.env.scope x) (he : Snd X G E e me) (hs : swapsWith e (some (.Name x pos')) pos.line X.env = pure false := by rfl) (hf : X.fn x = true ∨ X.env.scope.names.lookup x = some .local := by first | exact .inl rfl | exact .inr rfl | assumption) :
    SndS X G E (.Assign [.Name x pos'] e pos) (mAsg me (sName i)) := fun hK => PS.imp (ps_set hN hi hx (he hK) hs hf) fun D σ H t => by
  obtain ⟨μ, ρ, h, rs, s, o⟩ := t
  exact tOf_thenS rs s o fun μ1 d h1 v H1 x1 rs1 s1 r1 o1 => o1 μ1 H1 _ Ext.refl s1 (rs1.set i r1)
end
/-! ### what is walked -/
structure Src where
  n : Nat
  get : Nat → Hs → Option Dv
  fin : Hs → Bool
def ItOk (G : Cfg) (μ0 : Nat → Addr) (n0 : Nat) (H0 : Hp) (src : Src) (J : It) : Prop :=
  ∀ (k : Nat) (μ : Nat → Addr) (h : Hs) (H : Hp), Ext μ0 n0 H0 μ h.length H → Sim G μ h H →
    (k < src.n → ∀ d, src.get k h = some d → J.go k H ∧ ∀ x H', J.yld k H x H' → Same H H' ∧ RelD G μ h.length H' d x) ∧ (k = src.n → src.fin h = true → J.stop k H)
def tiOf (G : Cfg) (E : XK) (m : M Src) : TI := fun σ H R => ∃ μ ρ h, RelS G μ h.length H ρ σ ∧ Sim G μ h H ∧ Out G E μ h.length H (m ρ h) (ItOk G) R
def SndI (X : Cx) (G : Cfg) (E : XK) (tg iter : Expr) (m : M Src) : Prop := X.K = G.K → PI X tg iter (tiOf G E m)
theorem PI.imp {X : Cx} {tg iter : Expr} {t t' : TI} (h : PI X tg iter t) (i : ∀ σ H R, t' σ H R → t σ H R) : PI X tg iter t' := fun pins s σ H R I q => h pins s σ H R I (i σ H R q)
def srcL (xs : List Dv) : Src := ⟨xs.length, fun k _ => xs[k]?, fun _ => true⟩
def srcR (i n : Nat) : Src := ⟨n, fun k h => match getL h i with
  | some xs => if xs.length = n then xs[k]? else none
  | none => none, fun h => match getL h i with
  | some xs => xs.length == n
  | none => false⟩
def srcRng (lo hi : Int) : Src := ⟨(hi - lo).toNat, fun k _ => some (.int (lo + k)), fun _ => true⟩
def m1s (f : Dv → Hs → Rs Src) (m : M Dv) : M Src := fun ρ h => (m ρ h).bind f
section
variable {X : Cx} {G : Cfg} {E : XK} {tg e a b : Expr} {me ma mb : M Dv} {pos p : Pos}
/-- what a list yields -/
def lstD : Dv → Hs → Rs Src
  | .ref i, h => match getL h i with
    | some xs => .ok (srcR i xs.length) h
    | none => .bad
  | _, _ => .bad
def tupS : Dv → Hs → Rs Src
  | .tup xs, h => .ok (srcL xs) h
  | _, _ => .bad
theorem si_list (he : Snd X G E e me) : SndI X G E tg e (m1s lstD me) := fun hK => PI.imp (pi_list (he hK)) fun σ H R ⟨μ, ρ, h, rs, s, o⟩ => tOf_bind rs s o fun μ1 x h1 vx H1 x1 rs1 s1 r1 o1 => by
  rw [hK]
  cases x with
  | ref i =>
    obtain ⟨hi, rfl⟩ := r1
    dsimp only [lstD] at o1
    cases g : getL h1 i with
    | none => rw [g] at o1; exact o1.elim
    | some xs =>
      rw [g] at o1
      obtain ⟨vs, e1, r2⟩ := s1.ob i _ (getL_some g)
      refine ⟨_, rfl, ⟨vs, SqL.of e1⟩, o1.val s1 fun k μ2 h2 H2 x2 s2 => ?_⟩
      have emu := x2.mu i hi
      constructor
      · intro hk d hd
        dsimp only [srcR] at hd
        cases g2 : getL h2 i with
        | none => rw [g2] at hd; cases hd
        | some ys =>
          rw [g2] at hd
          dsimp only at hd
          split at hd
          · obtain ⟨ws, e2, r3⟩ := s2.ob i _ (getL_some g2)
            rw [emu] at e2
            obtain ⟨v, ev, rv⟩ := r3.get hd
            refine ⟨⟨ws, v, SqL.of e2, ev⟩, fun x H' hy => ?_⟩
            obtain ⟨rfl, hy⟩ := hy
            have := hy ws (SqL.of e2)
            rw [ev] at this; cases this
            exact ⟨Same.refl _, rv⟩
          · cases hd
      · intro hk hf
        dsimp only [srcR] at hf
        cases g2 : getL h2 i with
        | none => rw [g2] at hf; cases hf
        | some ys =>
          rw [g2] at hf
          obtain ⟨ws, e2, r3⟩ := s2.ob i _ (getL_some g2)
          rw [emu] at e2
          refine ⟨ws, SqL.of e2, ?_⟩
          have h3 : ys.length = xs.length := by simpa using hf
          rw [r3.length, h3, hk]; exact Nat.le_refl _
  | _ => exact o1.elim
/-- plain items that stay -/
theorem ItOk.tup {μ : Nat → Addr} {n : Nat} {H : Hp} {a : Addr} {vs : List V} {xs : List Dv} {K : PySem.W.Frag} (e : H a = some (.tup vs)) (r : RelDL G μ n H xs vs) (hi : ∀ (X : Cx), True) : ItOk G μ n H (srcL xs) (Itt K a) := by
  intro k μ2 h2 H2 x2 s2
  have e2 := x2.im a (.tup vs) trivial e
  have r2 := RelDL.mono x2 _ _ r
  have inj : ∀ ws, SqT K H2 a ws → ws = vs → True := fun _ _ _ => trivial
  constructor
  · intro hk d hd
    obtain ⟨v, ev, rv⟩ := r2.get hd
    refine ⟨⟨vs, v, SqT.of e2, ev⟩, fun x H' hy => ?_⟩
    obtain ⟨rfl, hy⟩ := hy
    have := hy vs (SqT.of e2)
    rw [ev] at this; cases this
    exact ⟨Same.refl _, rv⟩
  · intro hk _
    exact ⟨vs, SqT.of e2, by rw [r2.length, hk]; exact Nat.le_refl _⟩
theorem si_tup (he : Snd X G E e me) : SndI X G E tg e (m1s tupS me) := fun hK => PI.imp (pi_tup (he hK)) fun σ H R ⟨μ, ρ, h, rs, s, o⟩ => tOf_bind rs s o fun μ1 x h1 vx H1 x1 rs1 s1 r1 o1 => by
  cases x with
  | tup xs =>
    obtain ⟨a, vs, rfl, e1, r2⟩ := r1
    exact ⟨a, rfl, ⟨vs, SqT.of e1⟩, o1.val s1 (ItOk.tup e1 r2 fun _ => trivial)⟩
  | _ => exact o1.elim
def inR (i : Int) : Bool := decide (-4611686018427387904 ≤ i) && decide (i < 4611686018427387904)
def rng1D : List Dv → Hs → Rs Src
  | [.int j], h => if inR j = true then .ok (srcRng 0 j) h else .bad
  | _, _ => .bad
def rng2D : List Dv → Hs → Rs Src
  | [.int i, .int j], h => if inR i = true ∧ inR j = true then .ok (srcRng i j) h else .bad
  | _, _ => .bad
def mas (f : List Dv → Hs → Rs Src) (ms : M (List Dv)) : M Src := fun ρ h => (ms ρ h).bind f
theorem ItOk.rng {μ : Nat → Addr} {n : Nat} {H : Hp} (lo hi : Int) : ItOk G μ n H (srcRng lo hi) (Itr lo (hi - lo).toNat) := by
  intro k μ2 h2 H2 x2 s2
  constructor
  · intro hk d hd
    cases hd
    exact ⟨hk, fun x H' hy => by obtain ⟨rfl, rfl⟩ := hy; exact ⟨Same.refl _, rfl⟩⟩
  · intro hk _
    exact Nat.le_of_eq hk.symm
variable {ms : M (List Dv)}
theorem si_range1 (hg : Gl X "range") (hm : X.mg "range" = none) (ha : SndA X G E [a] ms) (hs : starEach [a] X.env = [(false, eval a X.env)] := by rfl) : SndI X G E tg (.Call (.Name "range" p) [a] [] pos) (mas rng1D ms) := fun hK =>
  PI.imp (pi_range1 hg hm (ha hK) hs) fun σ H R ⟨μ, ρ, h, rs, s, o⟩ => taOf_bind rs s o fun μ1 ds h1 vs H1 x1 rs1 s1 r1 o1 => by
    unfold rng1D at o1
    split at o1
    · rename_i j
      split at o1
      · rename_i hj
        obtain ⟨v, rfl, rv⟩ := relDL_one r1
        rw [RelD] at rv; subst rv
        simp only [inR, Bool.and_eq_true, decide_eq_true_eq] at hj
        refine ⟨j, rfl, by omega, by omega, ?_⟩
        have := o1.val s1 (ItOk.rng (G := G) (μ := μ1) (n := h1.length) (H := H1) 0 j)
        rw [Int.sub_zero] at this
        exact this
      · exact o1.elim
    · exact o1.elim
theorem si_range2 (hg : Gl X "range") (hm : X.mg "range" = none) (ha : SndA X G E [a, b] ms) (hs : starEach [a, b] X.env = [(false, eval a X.env), (false, eval b X.env)] := by rfl) (hs2 : starEach [b] X.env = [(false, eval b X.env)] := by rfl) : SndI X G E tg (.Call (.Name "range" p) [a, b] [] pos) (mas rng2D ms) := fun hK =>
  PI.imp (pi_range2 hg hm (ha hK) hs hs2) fun σ H R ⟨μ, ρ, h, rs, s, o⟩ => taOf_bind rs s o fun μ1 ds h1 vs H1 x1 rs1 s1 r1 o1 => by
    unfold rng2D at o1
    split at o1
    · rename_i i j
      split at o1
      · rename_i hj
        obtain ⟨v, v', rfl, rv, rv'⟩ := relDL_two r1
        rw [RelD] at rv rv'; subst rv; subst rv'
        simp only [inR, Bool.and_eq_true, decide_eq_true_eq] at hj
        exact ⟨i, j, rfl, ⟨by omega, by omega, by omega, by omega⟩, o1.val s1 (ItOk.rng (G := G) (μ := μ1) (n := h1.length) (H := H1) i j)⟩
      · exact o1.elim
    · exact o1.elim
end
/-! ### for -/
def forM (src : Src) (st : Tgt) (body : MS) : Nat → Nat → MS
  | 0, _ => fun ρ h => if src.fin h = true then .nx ρ h else .bad
  | f + 1, k => fun ρ h => match src.get k h with
    | none => .bad
    | some d => match st d ρ with
      | none => .bad
      | some ρ1 => match body ρ1 h with
        | .nx ρ2 h2 => forM src st body f (k + 1) ρ2 h2
        | .ct ρ2 h2 => forM src st body f (k + 1) ρ2 h2
        | .bk ρ2 h2 => .nx ρ2 h2
        | r => r
def mFor (mi : M Src) (st : Tgt) (body : MS) : MS := fun ρ h => (mi ρ h).thenS fun src h1 => forM src st body src.n 0 ρ h1
section
variable {X : Cx} {G : Cfg} {E : XK} {tg iter : Expr} {body : List Stmt} {mi : M Src} {st : Tgt} {mb : MS} {pos : Pos}
theorem ss_for (hp : PassesOwn (model X.prog X.w) X.A X.env X.xe) (hc : X.calm = true) (hi : SndI X G E tg iter mi) (hg : SndG X G tg st) (hb : SndSs X G E body mb)
    (hs : ∀ x, foldedSetIterable iter X.env x = pure x := by intro _; rfl) : SndS X G E (.For tg iter body [] pos) (mFor mi st mb) := fun hK => PS.imp (ps_for hp hc (hi hK) (hg hK) (hb hK) hs) fun D σ H ⟨μ, ρ, h, rs, s, o⟩ => by
  refine ⟨μ, ρ, h, rs, s, (o.thenS (R := ItOk G)).mono fun J H1 ⟨μ1, src, h1, x1, s1, ok, o1⟩ => ?_⟩
  refine ⟨fun i m σ H => ∃ μ2 ρ2 h2, Ext μ1 h1.length H1 μ2 h2.length H ∧ RelS G μ2 h2.length H ρ2 σ ∧ Sim G μ2 h2 H ∧ i + m = src.n ∧ SOut G E μ2 h2.length H (forM src st mb m i ρ2 h2) D, ⟨src.n, μ1, ρ, h1, Ext.refl, rs.mono x1, s1, Nat.zero_add _, o1⟩, ?_⟩
  rintro i m σ2 H2 ⟨μ2, ρ2, h2, x2, rs2, s2, him, o2⟩
  cases m with
  | zero =>
    unfold forM at o2
    split at o2
    · rename_i hf
      exact .inl ⟨(ok i μ2 h2 H2 x2 s2).2 (by omega) hf, o2 μ2 H2 σ2 Ext.refl s2 rs2⟩
    · exact o2.elim
  | succ m =>
    unfold forM at o2
    cases q : src.get i h2 with
    | none => rw [q] at o2; exact o2.elim
    | some d =>
      rw [q] at o2
      dsimp only at o2
      cases q2 : st d ρ2 with
      | none => rw [q2] at o2; exact o2.elim
      | some ρ3 =>
        rw [q2] at o2
        dsimp only at o2
        obtain ⟨go, yl⟩ := (ok i μ2 h2 H2 x2 s2).1 (by omega) d q
        refine .inr ⟨go, fun σ' H' => ∃ μ3 ρ4 h4, Ext μ1 h1.length H1 μ3 h4.length H' ∧ RelS G μ3 h4.length H' ρ4 σ' ∧ Sim G μ3 h4 H' ∧ (i + 1) + m = src.n ∧ SOut G E μ3 h4.length H' (forM src st mb m (i + 1) ρ4 h4) D, fun σ' H' z => ⟨m, Nat.lt_succ_self m, z⟩, fun x H' hy => ?_⟩
        obtain ⟨sm, rx⟩ := yl x H' hy
        have xs : Ext μ2 h2.length H2 μ2 h2.length H' := Ext.same sm
        refine ⟨μ2, ρ2, h2.length, d, ρ3, rs2.mono xs, rx, q2, fun σ3 rs3 => ⟨μ2, ρ3, h2, rs3, s2.same sm, ?_⟩⟩
        have step : ∀ ρ5 h5, SOut G E μ2 h2.length H2 (forM src st mb m (i + 1) ρ5 h5) D → ∀ μ6 H6 σ6, Ext μ2 h2.length H' μ6 h5.length H6 → Sim G μ6 h5 H6 → RelS G μ6 h5.length H6 ρ5 σ6 →
            ∃ μ3 ρ4 h4, Ext μ1 h1.length H1 μ3 h4.length H6 ∧ RelS G μ3 h4.length H6 ρ4 σ6 ∧ Sim G μ3 h4 H6 ∧ (i + 1) + m = src.n ∧ SOut G E μ3 h4.length H6 (forM src st mb m (i + 1) ρ4 h4) D :=
          fun ρ5 h5 o5 μ6 H6 σ6 x6 s6 rs6 => ⟨μ6, ρ5, h5, (x2.trans xs).trans x6, rs6, s6, by omega, o5.ext (xs.trans x6)⟩
        cases q3 : mb ρ3 h2 with
        | nx ρ5 h5 => rw [q3] at o2; exact step ρ5 h5 o2
        | ct ρ5 h5 => rw [q3] at o2; exact step ρ5 h5 o2
        | bk ρ5 h5 => rw [q3] at o2; exact fun μ6 H6 σ6 x6 s6 rs6 => o2 μ6 H6 σ6 (xs.trans x6) s6 rs6
        | rt d5 h5 => rw [q3] at o2; exact fun μ6 H6 σ6 x6 s6 rs6 => o2 μ6 H6 σ6 (xs.trans x6) s6 rs6
        | ex d5 h5 => rw [q3] at o2; exact fun μ6 H6 σ6 x6 s6 rs6 => o2 μ6 H6 σ6 (xs.trans x6) s6 rs6
        | bad => rw [q3] at o2; exact o2.elim
end
end L2.Mr
namespace L2.Mr
open PySem PySem.Spec PyProof.Rows
/-! ### comprehensions -/
abbrev MC := Ev → Hs → List Dv → Rs (Ev × List Dv)
def mEmit (me : M Dv) : MC := fun ρ h acc => match me ρ h with
  | .ok d h1 => if acc.length < 1000000 then .ok (ρ, acc ++ [d]) h1 else .bad
  | _ => .bad
def compM (src : Src) (st : Tgt) (test : M Bool) (inner : MC) : Nat → Nat → MC
  | 0, _ => fun ρ h acc => if src.fin h = true then .ok (ρ, acc) h else .bad
  | f + 1, k => fun ρ h acc => match src.get k h with
    | none => .bad
    | some d => match st d ρ with
      | none => .bad
      | some ρ1 => match test ρ1 h with
        | .ok true h2 => match inner ρ1 h2 acc with
          | .ok r h3 => compM src st test inner f (k + 1) r.1 h3 r.2
          | _ => .bad
        | .ok false h2 => compM src st test inner f (k + 1) ρ1 h2 acc
        | _ => .bad
def mTrue : M Bool := fun _ h => .ok true h
def capEv (cap : List (Option Nat)) (ρ : Ev) : Ev := cap.map fun o => match o with
  | some j => (ρ[j]?).getD none
  | none => none
/-- told as items -/
def mComp (mi : M Src) (cap : List (Option Nat)) (st : Tgt) (test : M Bool) (inner : MC) : M (List Dv) := fun ρ h => (mi ρ h).bind fun src h1 => match compM src st test inner src.n 0 (capEv cap ρ) h1 [] with
  | .ok r h2 => .ok r.2 h2
  | _ => .bad
def tcOf (G : Cfg) (m : MC) : TC := fun σ H vs K => ∃ μ ρ h xs ρ' xs' h', RelS G μ h.length H ρ σ ∧ Sim G μ h H ∧ RelDL G μ h.length H xs vs ∧ m ρ h xs = .ok (ρ', xs') h' ∧
  ∀ μ' H' σ' vs', Ext μ h.length H μ' h'.length H' → Sim G μ' h' H' → RelS G μ' h'.length H' ρ' σ' → RelDL G μ' h'.length H' xs' vs' → K σ' H' vs'
section
variable {G : Cfg}
theorem capEv_ok {μ : Nat → Addr} {n : Nat} {H : Hp} {ρ : Ev} {σ : St} (rs : RelS G μ n H ρ σ) (cap : List (Option Nat)) : RelS G μ n H (capEv cap ρ) (capSt cap σ) := ⟨by simp [capEv, capSt], fun i d e => by
  unfold capEv at e
  rw [List.getElem?_map] at e
  cases q : cap[i]? with
  | none => rw [q] at e; cases e
  | some o =>
    rw [q] at e
    cases o with
    | none => cases e
    | some j =>
      have e' : (ρ[j]?).getD none = some d := by simpa using e
      have e2 : ρ[j]? = some (some d) := by
        cases z : ρ[j]? with
        | none => rw [z] at e'; cases e'
        | some y => rw [z] at e'; simp at e'; rw [e']
      obtain ⟨v, e3, r⟩ := rs.at_ j d e2
      refine ⟨v, ?_, r⟩
      unfold capSt
      rw [List.getElem?_map, q]
      simp [e3]⟩
theorem emit_ok {E : XK} {me : M Dv} {σ : St} {H : Hp} {vs : List V} {K : St → Hp → List V → Prop} (t : tcOf G (mEmit me) σ H vs K) : tEmit (tOf G E me) σ H vs K := by
  obtain ⟨μ, ρ, h, xs, ρ', xs', h', rs, s, r, e, k⟩ := t
  refine ⟨μ, ρ, h, rs, s, ?_⟩
  unfold mEmit at e
  cases q : me ρ h with
  | bad => rw [q] at e; cases e
  | ex c h1 => rw [q] at e; cases e
  | ok d h1 =>
    rw [q] at e
    dsimp only at e
    split at e
    · rename_i hl
      cases e
      intro μ1 H1 v x1 s1 r1
      refine ⟨?_, k μ1 H1 σ _ x1 s1 (rs.mono x1) ((RelDL.mono x1 _ _ r).append (RelDL.cons r1 RelDL.nil))⟩
      rw [r.length]
      exact Nat.lt_of_lt_of_le hl (by decide)
    · cases e
theorem loop_ok {E : XK} {src : Src} {st : Tgt} {test : M Bool} {inner : MC} {J : It} {μ1 : Nat → Addr} {h1 : Hs} {H1 : Hp} {ρ ρ' : Ev} {σ : St} {xs xs' : List Dv} {vs : List V} {h' : Hs} {K : St → Hp → List V → Prop}
    (ok : ItOk G μ1 h1.length H1 src J) (rs : RelS G μ1 h1.length H1 ρ σ) (s1 : Sim G μ1 h1 H1) (r : RelDL G μ1 h1.length H1 xs vs) (e : compM src st test inner src.n 0 ρ h1 xs = .ok (ρ', xs') h')
    (k : ∀ μ' H' σ' vs', Ext μ1 h1.length H1 μ' h'.length H' → Sim G μ' h' H' → RelS G μ' h'.length H' ρ' σ' → RelDL G μ' h'.length H' xs' vs' → K σ' H' vs') :
    clLoop J (tgOf G st) (ttOf G E test) (tcOf G inner) K σ H1 vs := by
  refine ⟨fun i m σ H vs => ∃ μ2 ρ2 h2 xs2, Ext μ1 h1.length H1 μ2 h2.length H ∧ RelS G μ2 h2.length H ρ2 σ ∧ Sim G μ2 h2 H ∧ RelDL G μ2 h2.length H xs2 vs ∧ i + m = src.n ∧ compM src st test inner m i ρ2 h2 xs2 = .ok (ρ', xs') h', ⟨src.n, μ1, ρ, h1, xs, Ext.refl, rs, s1, r, Nat.zero_add _, e⟩, ?_⟩
  rintro i m σ2 H2 vs2 ⟨μ2, ρ2, h2, xs2, x2, rs2, s2, r2, him, e2⟩
  cases m with
  | zero =>
    unfold compM at e2
    split at e2
    · rename_i hf
      cases e2
      exact .inl ⟨(ok i μ2 _ H2 x2 s2).2 (by omega) hf, k μ2 H2 σ2 vs2 x2 s2 rs2 r2⟩
    · cases e2
  | succ m =>
    unfold compM at e2
    cases q : src.get i h2 with
    | none => rw [q] at e2; cases e2
    | some d =>
      rw [q] at e2
      dsimp only at e2
      cases q2 : st d ρ2 with
      | none => rw [q2] at e2; cases e2
      | some ρ3 =>
        rw [q2] at e2
        dsimp only at e2
        obtain ⟨go, yl⟩ := (ok i μ2 h2 H2 x2 s2).1 (by omega) d q
        refine .inr ⟨go, fun σ' H' vs' => ∃ μ3 ρ4 h4 xs4, Ext μ1 h1.length H1 μ3 h4.length H' ∧ RelS G μ3 h4.length H' ρ4 σ' ∧ Sim G μ3 h4 H' ∧ RelDL G μ3 h4.length H' xs4 vs' ∧ (i + 1) + m = src.n ∧ compM src st test inner m (i + 1) ρ4 h4 xs4 = .ok (ρ', xs') h',
          fun σ' H' vs' z => ⟨m, Nat.lt_succ_self m, z⟩, fun x H' hy => ?_⟩
        obtain ⟨sm, rx⟩ := yl x H' hy
        have xsm : Ext μ2 h2.length H2 μ2 h2.length H' := Ext.same sm
        refine ⟨μ2, ρ2, h2.length, d, ρ3, rs2.mono xsm, rx, q2, fun σ3 rs3 => ⟨μ2, ρ3, h2, rs3, s2.same sm, ?_⟩⟩
        cases q3 : test ρ3 h2 with
        | bad => rw [q3] at e2; cases e2
        | ex c h3 => rw [q3] at e2; cases e2
        | ok b h3 =>
          rw [q3] at e2
          intro μ4 H4 b' x4 s4 rb
          have eb : b' = b := rb
          subst eb
          cases b' with
          | false =>
            rw [if_neg (by decide)]
            exact ⟨μ4, ρ3, h3, xs2, (x2.trans xsm).trans x4, rs3.mono x4, s4, RelDL.mono (xsm.trans x4) _ _ r2, by omega, e2⟩
          | true =>
            rw [if_pos rfl]
            dsimp only at e2
            cases q4 : inner ρ3 h3 xs2 with
            | bad => rw [q4] at e2; cases e2
            | ex c h5 => rw [q4] at e2; cases e2
            | ok rr h5 =>
              rw [q4] at e2
              obtain ⟨ρ5, xs5⟩ := rr
              exact ⟨μ4, ρ3, h3, xs2, ρ5, xs5, h5, rs3.mono x4, s4, RelDL.mono (xsm.trans x4) _ _ r2, q4, fun μ6 H6 σ6 vs6 x6 s6 rs6 r6 => ⟨μ6, ρ5, h5, xs5, ((x2.trans xsm).trans x4).trans x6, rs6, s6, r6, by omega, e2⟩⟩
/-! ### a list that has just come -/
def RL (G : Cfg) : (Nat → Addr) → Nat → Hp → List Dv → V → Prop := fun μ n H xs v => ∃ p vs, v = .ref p ∧ H p = some (.lst vs) ∧ (∀ i, i < n → μ i ≠ p) ∧ RelDL G μ n H xs vs
def tlOf (G : Cfg) (E : XK) (m : M (List Dv)) : TE := fun σ H Q => ∃ μ ρ h, RelS G μ h.length H ρ σ ∧ Sim G μ h H ∧ Out G E μ h.length H (m ρ h) (RL G) Q
def SndL (X : Cx) (G : Cfg) (E : XK) (pe : Expr) (m : M (List Dv)) : Prop := X.K = G.K → PE X pe (tlOf G E m)
theorem Sim.adopt {μ : Nat → Addr} {h : Hs} {H : Hp} {p : Addr} {ds : List Dv} {vs : List V} (s : Sim G μ h H) (e : H p = some (.lst vs)) (hq : ∀ i, i < h.length → μ i ≠ p) (r : RelDL G μ h.length H ds vs) :
    Ext μ h.length H (fun i => if i = h.length then p else μ i) (h ++ [Ob.lst ds]).length H ∧ Sim G (fun i => if i = h.length then p else μ i) (h ++ [.lst ds]) H := by
  have hl : (h ++ [Ob.lst ds]).length = h.length + 1 := by simp
  have x : Ext μ h.length H (fun i => if i = h.length then p else μ i) (h ++ [Ob.lst ds]).length H :=
    ⟨by omega, fun i hi => if_neg (Nat.ne_of_lt hi), fun a o _ e => e⟩
  refine ⟨x, fun i j hi hj e => ?_, fun i o q => ?_, s.tab⟩
  · rw [hl] at hi hj
    by_cases h1 : i = h.length <;> by_cases h2 : j = h.length
    · omega
    · rw [if_pos h1, if_neg h2] at e; exact absurd e.symm (hq j (by omega))
    · rw [if_neg h1, if_pos h2] at e; exact absurd e (hq i (by omega))
    · rw [if_neg h1, if_neg h2] at e; exact s.inj i j (by omega) (by omega) e
  · by_cases h1 : i < h.length
    · rw [List.getElem?_append_left h1] at q
      have r1 := s.ob i o q
      cases o with
      | lst xs => obtain ⟨ws, e1, r2⟩ := r1; exact ⟨ws, by rw [if_neg (Nat.ne_of_lt h1)]; exact e1, RelDL.mono x _ _ r2⟩
    · rw [List.getElem?_append_right (by omega)] at q
      have h2 : i = h.length := by
        have := (List.getElem?_eq_some_iff.mp q).1
        simp at this; omega
      subst h2
      simp at q; subst q
      exact ⟨vs, by rw [if_pos rfl]; exact e, RelDL.mono x _ _ r⟩
def mAl (m : M (List Dv)) : M Dv := fun ρ h => (m ρ h).bind fun xs h1 => .ok (.ref h1.length) (h1 ++ [.lst xs])
theorem al_tOf {E : XK} {m : M (List Dv)} {σ : St} {H : Hp} {Q : VK} (t : tOf G E (mAl m) σ H Q) : tlOf G E m σ H Q := by
  obtain ⟨μ, ρ, h, rs, s, o⟩ := t
  refine ⟨μ, ρ, h, rs, s, (o.bind (R1 := RL G)).mono fun v H1 ⟨μ1, xs, h1, x1, s1, ⟨p, vs, ev, e1, hq, r1⟩, o1⟩ => ?_⟩
  subst ev
  obtain ⟨x2, s2⟩ := s1.adopt e1 hq r1
  exact o1 _ _ _ x2 s2 ⟨by simp, by show V.ref p = V.ref (if h1.length = h1.length then p else μ1 h1.length); rw [if_pos rfl]⟩
theorem snd_ofL {X : Cx} {E : XK} {pe : Expr} {m : M (List Dv)} (h : SndL X G E pe m) : Snd X G E pe (mAl m) := fun hK => PE.imp (h hK) fun _ _ _ t => al_tOf t
theorem comp_tOf {E E' : XK} {mi : M Src} {cap : List (Option Nat)} {st : Tgt} {test : M Bool} {inner : MC} {σ : St} {H : Hp} {Q : VK} (t : tlOf G E (mComp mi cap st test inner) σ H Q) : tComp (tiOf G E mi) cap (tgOf G st) (ttOf G E' test) (tcOf G inner) σ H Q := by
  obtain ⟨μ, ρ, h, rs, s, o⟩ := t
  refine ⟨μ, ρ, h, rs, s, (o.bind (R1 := ItOk G)).mono fun J H1 ⟨μ1, src, h1, x1, s1, ok, o1⟩ => ?_⟩
  cases q : compM src st test inner src.n 0 (capEv cap ρ) h1 [] with
  | bad => rw [q] at o1; exact o1.elim
  | ex c h2 => rw [q] at o1; exact o1.elim
  | ok r h2 =>
    rw [q] at o1
    obtain ⟨ρ', xs'⟩ := r
    refine loop_ok ok (capEv_ok (rs.mono x1) cap) s1 RelDL.nil q fun μ2 H2 σ2 vs2 x2 s2 rs2 r2 p hp => ?_
    exact o1 μ2 _ _ (x2.trans (Ext.same (same_upd hp))) (s2.same (same_upd hp)) ⟨p, vs2, rfl, upd_same, s2.not hp, RelDL.mono (Ext.same (same_upd hp)) _ _ r2⟩
end
section
variable {X : Cx} {G : Cfg} {E : XK} {elt tg iter tg' iter' : Expr} {ifs ifs' : List Expr} {sc : Scope} {ps pos : Pos} {mi mi' : M Src} {st st' : Tgt} {test test' : M Bool} {me : M Dv} {N : List Str} {cap : List (Option Nat)}
/-- the tests of a clause -/
def SndTs (X : Cx) (G : Cfg) (ifs : List Expr) (m : M Bool) : Prop := X.K = G.K → PTs X ifs (ttOf G E0 m)
theorem PTs.imp {Y : Cx} {ifs : List Expr} {t t' : TT} (h : PTs Y ifs t) (i : ∀ σ H Q, t' σ H Q → t σ H Q) : PTs Y ifs t' := fun pins s σ H Q I q => h pins s σ H Q I (i σ H Q q)
theorem ts_nil {Y : Cx} : SndTs Y G [] mTrue := fun _ => PTs.imp pts_nil fun σ H Q ⟨μ, ρ, h, rs, s, o⟩ => o.val s rfl
theorem ts_one {Y : Cx} {c : Expr} {m : M Bool} (h : SndT Y G E0 c m) : SndTs Y G [c] m := fun hK => pts_one (h hK)
theorem PCl.imp {Y : Cx} {D : Addr} {m : Sem Unit} {t t' : TC} (h : PCl Y D m t) (i : ∀ σ H xs K, t' σ H xs K → t σ H xs K) : PCl Y D m t' := fun pins s σ H xs K I a f q => h pins s σ H xs K I a f (i σ H xs K q)
theorem sl_comp1 (hc : X.calm = true) (C : CapOk X sc N cap) (hi : SndI X G E tg iter mi) (hg : ∀ s H ex, SndG (blk X sc N s H ex) G tg st) (htt : ∀ s H ex, SndTs (blk X sc N s H ex) G ifs test) (hel : ∀ s H ex, Snd (blk X sc N s H ex) G E0 elt me)
    (hs : ∀ x, foldedSetIterable iter X.env x = pure x := by intro _; rfl) : SndL X G E (.ListComp elt [⟨tg, iter, ifs, 0⟩] sc ps) (mComp mi cap st test (mEmit me)) := fun hK =>
  PE.imp (pe_comp hc C rfl (fun it D env => turn_1 elt tg iter ifs sc ps (.ref it) D env) (hi hK) (fun s H ex => hg s H ex hK) (fun s H ex => htt s H ex hK) (fun s H ex D => PCl.imp (pcl_emit (hel s H ex hK)) fun _ _ _ _ t => emit_ok t) hs) fun _ _ _ t => comp_tOf t
end
end L2.Mr
namespace L2.Mr
open PySem PySem.Spec PyProof.Rows
/-! ### errors in flight -/
def TbO (T : Addr) (h : Heap) : Prop := ∃ oT ts, h.get? T = some oT ∧ oT.data = .fields ts ∧ ts[3]? = some .none
/-- what a noted frame changes: e, the frames' slots; a new entry -/
structure Chg (fs : List Addr) (e T : Addr) (h h' : Heap) : Prop where
  new : h.objs.size ≤ T
  keep : ∀ b o, b ≠ e → b ∉ fs → h.get? b = some o → h'.get? b = some o
  slot : ∀ b o, b ≠ e → h.get? b = some o → ∃ sl, h'.get? b = some { o with slots := sl }
  tb : TbO T h'
theorem dict_mapFields (f : Array Value → Array Value) (o : Obj) : (Obj.mapFields f o).dict = o.dict := by
  unfold Obj.mapFields
  split <;> rfl
section
variable {M : Model} {A : Around} {E : Value → Shared → Prop} {s : Shared}
/-- one field of a record is put; all else, its class and its dict stay -/
theorem put_field {a : Addr} {o : Obj} {vs : Array Value} {i : Nat} {v : Value} {Q : Unit → Shared → Prop} (e : s.heap.get? a = some o) (hd : o.data = .fields vs) (hi : i < vs.size)
    (k : ∀ h' o', Heap.SameBut a s.heap h' → h'.get? a = some o' → o'.cls = o.cls → o'.dict = o.dict → o'.data = .fields (vs.setIfInBounds i v) → Q () { s with heap := h' }) : wpAny M A (setField (.ref a) i v) Q E s :=
  have d' := Obj.data_mapFields hd (·.setIfInBounds i v)
  wpAny_setField e hd hi (k _ _ (Heap.SameBut.update ..) (Heap.get?_update_self _ e (Obj.isFreed_of_fields d')) (Obj.cls_mapFields ..) (dict_mapFields ..) d')
/-- an entry is laid: a new record of more than three fields -/
theorem lay_entry {head v : Value} {L : Int} {pl : List Value} {Q : Value → Shared → Prop} (hpl : IsPlace pl) (k : ∀ ob ts, ob.data = .fields ts → 3 < ts.size → ob.isFreed = false → Q (.ref s.heap.objs.size) { s with heap := s.heap.push ob }) :
    wpAny M A (EntryCells.newEntry head v .none (rawInt L) .none pl) Q E s :=
  wpAny_newObj_type (k _ _ rfl (by simp only [List.size_toArray, List.length_append, List.length_cons, List.length_nil]; omega) rfl) (hpl.sizeOk5 ..)
/-- the error lands: its newest entry is marked as done -/
theorem land {e T : Addr} {oe oT : Obj} {vs ts : Array Value} {Q : Unit → Shared → Prop} (he : s.heap.get? e = some oe) (hd : oe.data = .fields vs) (h1 : vs[1]? = some (.ref T)) (hT : s.heap.get? T = some oT) (hdT : oT.data = .fields ts) (hs : 3 < ts.size)
    (k : ∀ h', Heap.SameBut T s.heap h' → TbO T h' → Q () { s with heap := h' }) : wpAny M A (setFlight (.ref e) none) Q E s := by
  refine wpAny_bind (wpAny_field he hd h1 ?_)
  show wpAny M A (if (Value.ref T != Value.none) = true then _ else _) Q E s
  rw [if_pos (by simp)]
  exact put_field hT hdT hs fun h' o' sb g _ _ d => k h' sb ⟨o', _, g, d, by rw [Array.getElem?_setIfInBounds_self_of_lt hs]; rfl⟩
/-- a record that is no frame -/
theorem no_frame {base : Heap} {l : List Env} {a : Addr} {o : Obj} {vs : Array Value} (hl : s.heap.FunFrames base l) (e : s.heap.get? a = some o) (hd : o.data = .fields vs) : a ∉ frs l := fun hm => by
  obtain ⟨_, o', e', nf⟩ := hl.mem hm
  rw [e] at e'; cases e'
  exact nf vs hd
/-- the tail of noting a frame: an entry is laid and becomes the newest one, the error lands -/
theorem entered {base : Heap} {env : Env} {outer : List Env} {L e : Addr} {oe : Obj} {vs : Array Value} {head a0 : Value} {nx : Bool} {Q : Unit → Shared → Prop} (hfr : A.frames = some (env :: outer)) (hl : s.heap.FunFrames base (env :: outer)) (hf : env.frame = some L)
    (he : s.heap.get? e = some oe) (hd : oe.data = .fields vs) (hdn : oe.dict = none) (hsz : 1 < vs.size) (h0 : vs[0]? = some a0)
    (k : ∀ h' T, Chg (frs (env :: outer)) e T s.heap h' → ExO oe.cls e T a0 h' → Q () { s with heap := h' }) :
    wpAny M A (do let a ← frameOf env; let pl ← entryPlaceOf L nx; let b ← EntryCells.newEntry head a .none (rawInt L) .none pl; setField (.ref e) 1 b)
      (fun _ s' => wpAny M A (setFlight (.ref e) none) Q E s') E s := by
  have ne := no_frame hl he hd
  refine wpAny_bind (wpAny_frameOf_fun hfr hl hf fun g1 so => wpAny_bind (wpAny_entryPlaceOf fun pl hpl => wpAny_bind (lay_entry hpl fun ob ts dt hts nf => ?_)))
  have e1 : g1.get? e = some oe := (so.2.1 e ne).trans he
  have lt : e < g1.objs.size := Heap.lt_size e1
  refine put_field (s := { s with heap := g1.push ob }) (Heap.get?_push_of_some _ e1) hd hsz fun g2 oe2 sb2 ge c2 dn2 d2 => ?_
  have gT : g2.get? g1.objs.size = some ob := sb2.extBut _ _ (Nat.ne_of_gt lt) (Heap.get?_push_size _ nf)
  refine land (s := { s with heap := g2 }) ge d2 (T := g1.objs.size) (by rw [Array.getElem?_setIfInBounds_self_of_lt hsz]) gT dt hts fun g3 sb3 tb => ?_
  have kp : ∀ b o, b ≠ e → g1.get? b = some o → g3.get? b = some o := fun b o hb q => sb3.extBut _ _ (Nat.ne_of_lt (Heap.lt_size q)) (sb2.extBut _ _ hb (Heap.get?_push_of_some _ q))
  refine k g3 g1.objs.size ⟨Nat.le_of_eq so.1.symm, fun b o hb hn q => kp b o hb ((so.2.1 b hn).trans q), fun b o hb q => ?_, tb⟩ ⟨oe2, _, sb3.extBut _ _ (Nat.ne_of_lt lt) ge, c2, d2, ?_, ?_, dn2.trans hdn⟩
  · obtain ⟨sl, q'⟩ := so.2.2 b o q
    exact ⟨sl, kp b _ hb q'⟩
  · rw [Array.getElem?_setIfInBounds_ne (by decide)]; exact h0
  · rw [Array.getElem?_setIfInBounds_self_of_lt hsz]
/-- a frame is noted at an error that has not been noted yet -/
theorem note_first {base : Heap} {env : Env} {outer : List Env} {L e : Addr} {oe : Obj} {vs : Array Value} {a0 : Value} {Q : Unit → Shared → Prop} (hfr : A.frames = some (env :: outer)) (hl : s.heap.FunFrames base (env :: outer)) (hf : env.frame = some L)
    (he : s.heap.get? e = some oe) (hd : oe.data = .fields vs) (hdn : oe.dict = none) (h0 : vs[0]? = some a0) (h1 : vs[1]? = some .none)
    (k : ∀ h' T, Chg (frs (env :: outer)) e T s.heap h' → ExO oe.cls e T a0 h' → Q () { s with heap := h' }) :
    wpAny M A (noteFrame (.ref e) env) (fun _ s' => wpAny M A (setFlight (.ref e) none) Q E s') E s := by
  unfold noteFrame
  rw [hf]
  refine wpAny_bind (wpAny_field he hd h1 ?_)
  exact entered hfr hl hf he hd hdn (Array.getElem?_eq_some_iff.mp h1).1 h0 k
/-- .. at one that flies -/
theorem note_next {base : Heap} {env : Env} {outer : List Env} {L e T : Addr} {C a0 : Value} {Q : Unit → Shared → Prop} (hfr : A.frames = some (env :: outer)) (hl : s.heap.FunFrames base (env :: outer)) (hf : env.frame = some L)
    (hx : ExO C e T a0 s.heap) (ht : TbO T s.heap) (hne : T ≠ e)
    (k : ∀ h' T', s.heap.objs.size ≤ T' → (∀ b o, b ≠ e → b ≠ T → b ∉ frs (env :: outer) → s.heap.get? b = some o → h'.get? b = some o) → (∀ b o, b ≠ e → b ≠ T → s.heap.get? b = some o → ∃ sl, h'.get? b = some { o with slots := sl }) →
      ExO C e T' a0 h' → TbO T h' → TbO T' h' → Q () { s with heap := h' }) :
    wpAny M A (noteFrame (.ref e) env) (fun _ s' => wpAny M A (setFlight (.ref e) none) Q E s') E s := by
  obtain ⟨oe, vs, he, rfl, hd, h0, h1, hdn⟩ := hx
  obtain ⟨oT, ts, hT, hdT, h3⟩ := ht
  have l3 : 3 < ts.size := (Array.getElem?_eq_some_iff.mp h3).1
  have nT := no_frame hl hT hdT
  unfold noteFrame
  rw [hf]
  refine wpAny_bind (wpAny_field he hd h1 ?_)
  rw [if_pos (by simp)]
  refine wpAny_bind (wpAny_field hT hdT h3 ?_)
  rw [if_neg (by simp [rawInt])]
  refine wpAny_bind (put_field hT hdT l3 fun g o' sb gT _ _ dT => ?_)
  have hl' : g.FunFrames base (env :: outer) := hl.of_keeps fun b o q nf => ⟨o, sb.extBut _ _ (fun z => by subst z; rw [hT] at q; cases q; exact nf ts hdT) q, rfl⟩
  refine entered (s := { s with heap := g }) hfr hl' hf (sb.extBut _ _ (Ne.symm hne) he) hd hdn (Array.getElem?_eq_some_iff.mp h1).1 h0 fun h' T' c x => ?_
  refine k h' T' (by rw [← sb.1]; exact c.new) (fun b o n1 n2 n3 q => c.keep b o n1 n3 (sb.extBut _ _ n2 q)) (fun b o n1 n2 q => c.slot b o n1 (sb.extBut _ _ n2 q)) x ⟨_, _, c.keep T _ hne nT gT, dT, ?_⟩ c.tb
  rw [Array.getElem?_setIfInBounds_self_of_lt l3]
end
/-! ### the same over the tracked heap -/
theorem obj_of {P : Program} {w : World} {H : Hp} {h : Heap} {a : Addr} {o : HO} (x : ObjOk P w H h a o) : ∃ ob, h.get? a = some ob := by
  cases o with
  | lst xs => obtain ⟨_, _, _, _, e⟩ := x; exact ⟨_, e⟩
  | tup xs => obtain ⟨_, _, _, ob, e, _⟩ := x; exact ⟨_, e⟩
  | dK kvs => obtain ⟨_, _, _, _, o, _, _, e, _⟩ := x; exact ⟨_, e⟩
  | dT kvs => obtain ⟨_, _, _, _, o, _, _, e, _⟩ := x; exact ⟨_, e⟩
  | set S n => obtain ⟨o, _, _, _, e, _⟩ := x; exact ⟨_, e⟩
  | ins C dx fs => obtain ⟨_, _, _, e, _⟩ := x; exact ⟨_, e⟩
  | own y => exact x
  | xd fs => obtain ⟨_, ⟨_, _, _, e, _⟩, _⟩ := x; exact ⟨_, e⟩
  | rng lo hi => obtain ⟨_, _, _, e⟩ := x; exact ⟨_, e⟩
  | frz ob u => obtain ⟨e, _⟩ := x; exact ⟨_, e⟩
  | tbl ps => exact ⟨_, (show h.get? a = some _ from x)⟩
  | met f y => exact ⟨_, (show h.get? a = some _ from x)⟩
  | ext φ => obtain ⟨_, e, _⟩ := x; exact e
def Fly (base : Heap) (H : Hp) (C : Value) (e : Addr) : Prop := ∃ T a0, H e = some (.ext (ExO C e T a0)) ∧ H T = some (.ext (TbO T)) ∧ base.get? e = none ∧ T ≠ e
/-- all but the error itself is tracked as it was -/
def SameX (e : Addr) (H H' : Hp) : Prop := ∀ b o, b ≠ e → H b = some o → H' b = some o
theorem exO_stay {C a0 : Value} {e T : Addr} {h1 h2 : Heap} (x : ExO C e T a0 h1) (k : ∀ o, h1.get? e = some o → h2.get? e = some o) : ExO C e T a0 h2 := by
  obtain ⟨oe, vs, he, r⟩ := x
  exact ⟨oe, vs, k oe he, r⟩
theorem tbO_stay {T : Addr} {h1 h2 : Heap} (x : TbO T h1) (k : ∀ o, h1.get? T = some o → h2.get? T = some o) : TbO T h2 := by
  obtain ⟨oe, vs, he, r⟩ := x
  exact ⟨oe, vs, k oe he, r⟩
theorem ok_exO {P : Program} {w : World} {H : Hp} {h : Heap} {C a0 : Value} {e T : Addr} (x : ExO C e T a0 h) : ObjOk P w H h e (.ext (ExO C e T a0)) :=
  ⟨x, (let ⟨oe, _, he, _⟩ := x; ⟨oe, he⟩), fun _ _ y k => exO_stay y k⟩
theorem ok_tbO {P : Program} {w : World} {H : Hp} {h : Heap} {T : Addr} (x : TbO T h) : ObjOk P w H h T (.ext (TbO T)) :=
  ⟨x, (let ⟨oe, _, he, _⟩ := x; ⟨oe, he⟩), fun _ _ y k => tbO_stay y k⟩
section
variable {P : Program} {w : World} {M : Model} {A : Around} {E : Value → Shared → Prop} {s : Shared} {H : Hp} {base : Heap} {env : Env} {outer : List Env} {L e : Addr} {C : Value}
/-- an error that flies is noted -/
theorem note_fly {Q : Unit → Shared → Prop} (hfr : A.frames = some (env :: outer)) (hl : s.heap.FunFrames base (env :: outer)) (hf : env.frame = some L) (hok : HOk P w H s.heap) (hfree : ∀ b ∈ frs (env :: outer), H b = none) (fl : Fly base H C e)
    (k : ∀ h' H', Un (frs (env :: outer)) [] H H' s.heap h' → HOk P w H' h' → Fly base H' C e → SameX e H H' → Q () { s with heap := h' }) :
    wpAny M A (noteFrame (.ref e) env) (fun _ s' => wpAny M A (setFlight (.ref e) none) Q E s') E s := by
  obtain ⟨T, a0, he, hT, hb, hne⟩ := fl
  have xe : ExO C e T a0 s.heap := (show ObjOk P w H s.heap e _ from hok e _ he).1
  have xt : TbO T s.heap := (show ObjOk P w H s.heap T _ from hok T _ hT).1
  refine note_next hfr hl hf xe xt hne fun h' T' hnew keep slot x' t0 t' => ?_
  have nT' : H T' = none := hok.fresh hnew
  have eT' : T' ≠ e := (ne_of_none he nT').symm
  have TT' : T' ≠ T := (ne_of_none hT nT').symm
  have sx : SameX e H (upd (upd H e (.ext (ExO C e T' a0))) T' (.ext (TbO T'))) := fun b o hbe q => by rw [upd_ne (ne_of_none q nT'), upd_ne hbe]; exact q
  have ee : upd (upd H e (.ext (ExO C e T' a0))) T' (.ext (TbO T')) e = some (.ext (ExO C e T' a0)) := by rw [upd_ne (Ne.symm eT'), upd_same]
  refine k h' (upd (upd H e (.ext (ExO C e T' a0))) T' (.ext (TbO T'))) ?_ ?_ ⟨T', a0, ee, upd_same, hb, eT'⟩ sx
  · have free : ∀ b o, s.heap.get? b = some o → H b = none → upd (upd H e (.ext (ExO C e T' a0))) T' (.ext (TbO T')) b = none := fun b o q n => by
      have h1 : b ≠ T' := Nat.ne_of_lt (Nat.lt_of_lt_of_le (Heap.lt_size q) hnew)
      have h2 : b ≠ e := (ne_of_none he n).symm
      rw [upd_ne h1, upd_ne h2]; exact n
    refine ⟨fun b o q n hb _ => keep b o (ne_of_none he n).symm (ne_of_none hT n).symm hb q, fun b o q n _ _ => slot b o (ne_of_none he n).symm (ne_of_none hT n).symm q, fun b o q n _ => free b o q n, fun b o q _ => ?_, fun b xs q => ?_, fun b o u q => ?_, fun b ps q => ?_⟩
    · by_cases h1 : b = e
      · subst h1; obtain ⟨oe, _, z, _⟩ := x'; exact ⟨oe, z⟩
      · by_cases h2 : b = T
        · subst h2; obtain ⟨oe, _, z, _⟩ := t0; exact ⟨oe, z⟩
        · obtain ⟨sl, z⟩ := slot b o h1 h2 q; exact ⟨_, z⟩
    · exact sx b _ (ne_of q he (by intro z; cases z)) q
    · exact sx b _ (ne_of q he (by intro z; cases z)) q
    · exact ⟨#[], by rw [sx b _ (ne_of q he (by intro z; cases z)) q]; simp⟩
  · intro a o q
    by_cases h1 : a = T'
    · subst h1; rw [upd_same] at q; cases q; exact ok_tbO t'
    · rw [upd_ne h1] at q
      by_cases h2 : a = e
      · subst h2; rw [upd_same] at q; cases q; exact ok_exO x'
      · rw [upd_ne h2] at q
        by_cases h3 : a = T
        · subst h3; rw [hT] at q; cases q; exact ok_tbO t0
        · have nf : a ∉ frs (env :: outer) := fun z => by rw [hfree a z] at q; cases q
          refine (hok a o q).stay (fun b u hb z => ?_) (fun b z => sx b _ (ne_of z he (by intro y; cases y)) z) fun b xs z => sx b _ (ne_of z he (by intro y; cases y)) z
          rcases hb with rfl | hb
          · exact keep b u h2 h3 nf z
          · exact keep b u (ne_of hb he (by intro y; cases y)) (ne_of hb hT (by intro y; cases y)) (fun y => by rw [hfree b y] at hb; cases hb) z
/-- a new error is noted for the first time -/
theorem note_new {Q : Unit → Shared → Prop} {h0 : Heap} {args : List Value} (hfr : A.frames = some (env :: outer)) (hl : h0.FunFrames base (env :: outer)) (hf : env.frame = some L) (hok : HOk P w H h0) (hfree : ∀ b ∈ frs (env :: outer), H b = none) (hsb : ∀ b o, base.get? b = some o → h0.get? b = some o)
    (mx : Heap.MadeExcOf h0 s.heap e C args)
    (k : ∀ h' H', Un (frs (env :: outer)) [] H H' h0 h' → HOk P w H' h' → Fly base H' C e → Same H H' → Q () { s with heap := h' }) :
    wpAny M A (noteFrame (.ref e) env) (fun _ s' => wpAny M A (setFlight (.ref e) none) Q E s') E s := by
  obtain ⟨t, he, hnt, ht⟩ := mx.there
  have hbn : base.get? e = none := by
    cases q : base.get? e with
    | none => rfl
    | some o => have := hsb e o q; rw [mx.new] at this; cases this
  have nH : H e = none := by
    cases q : H e with
    | none => rfl
    | some o =>
      have z : ∀ a o, H a = some o → h0.get? a ≠ none := fun a o q n => by
        have lt := hok.lt q
        have := (hok a o q)
        have ex : ∃ ob, h0.get? a = some ob := obj_of this
        obtain ⟨ob, eo⟩ := ex
        rw [n] at eo; cases eo
      exact absurd mx.new (z e o q)
  have hl1 : s.heap.FunFrames base (env :: outer) := hl.of_keeps fun b o hb _ => ⟨o, mx.keeps b o hb, rfl⟩
  refine note_first hfr hl1 hf he rfl rfl (a0 := .ref t) rfl rfl fun h' T c x => ?_
  have ne_e : ∀ b o, h0.get? b = some o → b ≠ e := fun b o q z => by subst z; rw [mx.new] at q; cases q
  have lt0 : ∀ b o, h0.get? b = some o → b < T := fun b o q => Nat.lt_of_lt_of_le (Heap.lt_size (mx.keeps b o q)) c.new
  have nT : H T = none := by
    cases q : H T with
    | none => rfl
    | some o =>
      obtain ⟨ob, eo⟩ := obj_of (hok T o q)
      exact absurd (lt0 T ob eo) (Nat.lt_irrefl _)
  have eT : T ≠ e := Nat.ne_of_gt (Nat.lt_of_lt_of_le (Heap.lt_size he) c.new)
  have sm : Same H (upd (upd H e (.ext (ExO C e T (.ref t)))) T (.ext (TbO T))) := fun b o q => by rw [upd_ne (ne_of_none q nT), upd_ne (ne_of_none q nH)]; exact q
  refine k h' (upd (upd H e (.ext (ExO C e T (.ref t)))) T (.ext (TbO T))) ?_ ?_ ⟨T, .ref t, by rw [upd_ne (Ne.symm eT), upd_same], upd_same, hbn, eT⟩ sm
  · refine ⟨fun b o q n hb _ => c.keep b o (ne_e b o q) hb (mx.keeps b o q), fun b o q n _ _ => c.slot b o (ne_e b o q) (mx.keeps b o q), fun b o q n _ => ?_, fun b o q _ => ?_, fun b xs q => sm b _ q, fun b o u q => sm b _ q, fun b ps q => ⟨#[], by rw [sm b _ q]; simp⟩⟩
    · rw [upd_ne (Nat.ne_of_lt (lt0 b o q)), upd_ne (ne_e b o q)]; exact n
    · obtain ⟨sl, z⟩ := c.slot b o (ne_e b o q) (mx.keeps b o q); exact ⟨_, z⟩
  · intro a o q
    by_cases h1 : a = T
    · subst h1; rw [upd_same] at q; cases q; exact ok_tbO c.tb
    · rw [upd_ne h1] at q
      by_cases h2 : a = e
      · subst h2; rw [upd_same] at q; cases q; exact ok_exO x
      · rw [upd_ne h2] at q
        have nf : a ∉ frs (env :: outer) := fun z => by rw [hfree a z] at q; cases q
        refine (hok a o q).stay (fun b u hb z => ?_) (fun b z => sm b _ z) fun b xs z => sm b _ z
        rcases hb with rfl | hb
        · exact c.keep b u (ne_e b u z) nf (mx.keeps b u z)
        · exact c.keep b u (ne_e b u z) (fun y => by rw [hfree b y] at hb; cases hb) (mx.keeps b u z)
end
end L2.Mr
namespace L2.Mr
open PySem PySem.Spec PyProof.Rows
/-! ### defs and calls -/
/-- an error behind a call: it flies -/
def CXm (P : Program) (w : World) (base : Heap) : CXT := fun outer H s E u s' => ∃ e C H', u = .ref e ∧ s'.os = s.os ∧ AllBare s'.gens ∧ Un (frs outer) [] H H' s.heap s'.heap ∧ HOk P w H' s'.heap ∧ Fly base H' C e ∧ E u none H'
/-- an error made here reaches what is wanted -/
def RaiseOk (X : Cx) (E : XK) : Prop := ∀ (pins : List (Addr × Obj)) (σ : St) (H : Hp) (s : Shared) (h' : Heap) (e : Addr) (C : Value) (args : List Value), Inv X pins σ H s → Heap.MadeExcOf s.heap h' e C args →
  (∀ H', Same H H' → (∃ T a0, H' e = some (.ext (ExO C e T a0))) → E (.ref e) none H') → X.xe (.ref e) { s with heap := h' }
structure Good (X : Cx) (G : Cfg) (E : XK) (k : Nat) : Prop where
  calm : X.calm = true
  room : Room k X.A
  K : X.K = G.K
  pas : Passes (CXm X.prog X.w X.base) X E
  own : PassesOwn (model X.prog X.w) X.A X.env X.xe
  rais : RaiseOk X E
/-- the wish is not changed by an error's own record -/
def Firm (E : XK) : Prop := ∀ e H H', SameX e H H' → (∃ C T a0 T' a0', H e = some (.ext (ExO C e T a0)) ∧ (∃ h, ExO C e T a0 h) ∧ H' e = some (.ext (ExO C e T' a0'))) → E (.ref e) none H → E (.ref e) none H'
section
variable {P : Program} {w : World} {K : PySem.W.Frag} {mg : Str → Option Value} {base : Heap} {N : List Str} {qual : Str} {scope : Scope} {f : Addr} {cdv : Value} {A : Around} {outer : List Env} {s0 : Shared} {H0 : Hp} {E0 : XK} {G : Cfg} {E : XK} {k : Nat}
theorem good_cx (hr : Room k (A.deeper (envOfC qual scope s0.heap.objs.size f cdv))) (hK : K = G.K) (hE : ∀ u H', E u none H' → E0 u none H') (hF : Firm E) :
    Good (cxOf (CXm P w base) P w K mg base N qual scope f cdv A outer s0 H0 E0) G E k where
  calm := rfl
  room := hr
  K := hK
  own := PassesOwn.leaving
  pas := by
    intro pins σ H s u s' I ⟨e, C, H', eu, os, bare, un, hok, fl, he⟩
    subst eu
    have I' := I.call' os un hok bare (fun b z => absurd z (by simp))
    refine wpAny_bind (note_fly (P := P) (w := w) (H := H') (base := base) I'.ok.frames I'.stack rfl hok I'.stkFree fl fun h'' H'' un2 hok2 fl2 sx => ?_)
    have I2 := I'.call (h' := h'') (g' := s'.gens) (d' := s'.drawn) (t' := s'.toks) un2 hok2 I'.bare (fun b z => absurd z (by simp))
    obtain ⟨T, a0, h1, _⟩ := id fl
    obtain ⟨T2, a2, h3, _⟩ := id fl2
    have xe1 : ExO C e T a0 s'.heap := (show ObjOk P w H' s'.heap e _ from hok e _ h1).1
    have : E (.ref e) none H'' := hF e H' H'' sx ⟨C, T, a0, T2, a2, h1, ⟨_, xe1⟩, h3⟩ he
    exact ⟨e, C, H'', rfl, I2.os, I2.bare, I2.base, hok2, fl2, hE _ _ this⟩
  rais := by
    intro pins σ H s h' e C args I mx he
    refine wpAny_bind (note_new (P := P) (w := w) (H := H) (base := base) I.ok.frames I.stack rfl I.hok I.stkFree I.bk mx fun h'' H'' un2 hok2 fl2 sm => ?_)
    have I2 := I.call (h' := h'') (g' := s.gens) (d' := s.drawn) (t' := s.toks) un2 hok2 I.bare (fun b z => absurd z (by simp))
    obtain ⟨T2, a2, h3, _⟩ := id fl2
    exact ⟨e, C, H'', rfl, I2.os, I2.bare, I2.base, hok2, fl2, hE _ _ (he H'' sm ⟨T2, a2, h3⟩)⟩
/-- within a comprehension no error may come -/
theorem good_blk {X : Cx} {sc : Scope} {N' : List Str} {s : Shared} {H : Hp} {ex : List Addr} (g : Good X G E k) : Good (blk X sc N' s H ex) G L2.E0 k where
  calm := g.calm
  room := g.room
  K := g.K
  own := PassesOwn.never
  pas := fun _ _ _ _ _ _ _ ⟨_, _, _, _, _, _, _, _, _, z⟩ => z
  rais := fun _ _ H s h' e C args I mx he => by
    have nH : H e = none := by
      cases q : H e with
      | none => rfl
      | some o =>
        obtain ⟨ob, eo⟩ := obj_of (I.hok e o q)
        rw [mx.new] at eo; cases eo
    exact he (upd H e (.ext (ExO C e 0 .none))) (same_upd nH) ⟨0, .none, upd_same⟩
/-! ### a def's mirror -/
def startEv (n : Nat) (ds : List Dv) : Ev := ds.map some ++ List.replicate (n - ds.length) none
def endOf : Sr → Rs Dv
  | .rt d h => .ok d h
  | .nx _ h => .ok .non h
  | .ex c h => .ex c h
  | _ => .bad
/-- np parameters, n names -/
def callM (np n : Nat) (mb : MS) : List Dv → Hs → Rs Dv := fun ds h => if ds.length = np then endOf (mb (startEv n ds) h) else .bad
def spOf (G : Cfg) (F : List Dv → Hs → Rs Dv) : Sp := fun vs H Q E => ∃ μ h ds, RelDL G μ h.length H ds vs ∧ Sim G μ h H ∧ Out G E μ h.length H (F ds h) (RelD G) Q
theorem start_ok {μ : Nat → Addr} {n : Nat} {H : Hp} {ds : List Dv} {vs : List V} (r : RelDL G μ n H ds vs) (N : List Str) : RelS G μ n H (startEv N.length ds) (start N vs) := by
  have hl := r.length
  refine ⟨by simp [startEv, start, hl], fun i d e => ?_⟩
  unfold startEv at e
  by_cases hi : i < ds.length
  · rw [List.getElem?_append_left (by simpa using hi), List.getElem?_map] at e
    cases q : ds[i]? with
    | none => rw [q] at e; cases e
    | some d' =>
      rw [q] at e; cases e
      obtain ⟨v, e1, r1⟩ := r.get q
      refine ⟨v, ?_, r1⟩
      unfold start
      rw [List.getElem?_append_left (by simp; omega), List.getElem?_map, e1]
      rfl
  · rw [List.getElem?_append_right (by simpa using hi), List.getElem?_replicate] at e
    split at e <;> cases e
/-- the wish within a body: its mirror has come to this error -/
def EB (G : Cfg) (μ0 : Nat → Addr) (n0 : Nat) (H0 : Hp) (r : Sr) : XK := fun u _ H' => ∃ c h' μ', r = .ex c h' ∧ Ext μ0 n0 H0 μ' h'.length H' ∧ Sim G μ' h' H' ∧ FlyE G H' c u
theorem Sim.sameX {μ : Nat → Addr} {h : Hs} {H H' : Hp} {e : Addr} (s : Sim G μ h H) (sx : SameX e H H') (hx : ∃ φ, H e = some (.ext φ)) : Sim G μ h H' ∧ ∀ (n : Nat), Ext μ n H μ n H' := by
  obtain ⟨φ, hx⟩ := hx
  have x : ∀ n : Nat, Ext μ n H μ n H' := fun n => ⟨Nat.le_refl _, fun _ _ => rfl, fun a o i q => sx a o (by rintro rfl; rw [hx] at q; cases q; exact i) q⟩
  refine ⟨⟨s.inj, fun i o q => ?_, s.tab.keep fun a o _ n2 q => sx a o (by rintro rfl; rw [hx] at q; cases q; exact n2 _ rfl) q⟩, x⟩
  have r := s.ob i o q
  cases o with
  | lst xs =>
    obtain ⟨vs, e1, r1⟩ := r
    exact ⟨vs, sx _ _ (ne_of e1 hx (by intro z; cases z)) e1, RelDL.mono (x _) _ _ r1⟩
theorem firm_EB {μ0 : Nat → Addr} {n0 : Nat} {H0 : Hp} {r : Sr} : Firm (EB G μ0 n0 H0 r) := by
  intro e H H' sx ⟨C, T, a0, T', a0', h1, ⟨hp, hx⟩, h3⟩ ⟨c, h', μ', er, x, s, e', φ, eu, h4, h5⟩
  cases eu
  obtain ⟨s2, x2⟩ := s.sameX sx ⟨_, h1⟩
  refine ⟨c, h', μ', er, x.trans (x2 _), s2, e, _, rfl, h3, fun hh z => ?_⟩
  rw [h1] at h4; cases h4
  obtain ⟨o, g1, g2⟩ := h5 hp hx
  obtain ⟨oe, vs, g3, g4, _⟩ := hx
  rw [g3] at g1; cases g1
  obtain ⟨oe', vs', g5, g6, _⟩ := z
  exact ⟨oe', g5, by rw [g6, ← g4, g2]⟩
/-- THE RULE: a def by its mirror -/
theorem fn_mir {x qual : Str} {st : Stmt} {fd : FuncData} {ps : List Str} {mb : MS} (Fn : Fun K x qual st f fd) (S : FnScope N ps (defScope st)) (hK : K = G.K)
    (hbody : ∀ (cdv : Value) (A : Around) (outer : List Env) (s : Shared) (H : Hp) (E₀ E : XK), Good (cxOf (CXm P w base) P w K mg base N qual (defScope st) f cdv A outer s H E₀) G E k → SndSs (cxOf (CXm P w base) P w K mg base N qual (defScope st) f cdv A outer s H E₀) G E (defBody st) mb) :
    FnOk P w K mg base (CXm P w base) (k + 1) f fd ps (spOf G (callM ps.length N.length mb)) := by
  obtain ⟨oc, od, kV, doc, pm, an, cdv, ct, osl, rfl, lk, hcd⟩ := Fn.ex
  have hlen : ∀ vs H Q E, spOf G (callM ps.length N.length mb) vs H Q E → vs.length = ps.length := fun vs H Q E ⟨μ, h, ds, r, sm, o⟩ => by
    rw [r.length]
    unfold callM at o
    by_cases hd : ds.length = ps.length
    · exact hd
    · rw [if_neg hd] at o; exact o.elim
  refine fn_of lk hcd S hlen fun A outer s H vs Q E hr hsp => ?_
  have hl := hlen _ _ _ _ hsp
  obtain ⟨μ, h, ds, r, sm, o⟩ := hsp
  have o' : Out G E μ h.length H (endOf (mb (startEv N.length ds) h)) (RelD G) Q := by
    unfold callM at o
    rw [if_pos (by rw [← r.length]; exact hl)] at o
    exact o
  refine ⟨_, hbody cdv A outer s H E (EB G μ h.length H (mb (startEv N.length ds) h)) (good_cx hr hK (fun u H' ⟨c, h', μ', er, x, s', fl⟩ => ?_) firm_EB) hK, ?_⟩
  · rw [er] at o'
    exact o' μ' H' u x s' fl
  · refine ⟨μ, startEv N.length ds, h, start_ok r N, sm, ?_⟩
    cases q : mb (startEv N.length ds) h with
    | bad => rw [q] at o'; exact o'.elim
    | bk ρ h' => rw [q] at o'; exact o'.elim
    | ct ρ h' => rw [q] at o'; exact o'.elim
    | rt d h' => rw [q] at o'; exact o'
    | nx ρ h' => rw [q] at o'; exact fun μ' H' σ' x' s' rs' => o' μ' H' .non x' s' rfl
    | ex c h' => exact fun μ' H' u x' s' fl => ⟨c, h', μ', rfl, x', s', fl⟩
/-- f(e, ..) -/
theorem snd_call {X : Cx} {F : List Dv → Hs → Rs Dv} {ps : List Str} {fd : FuncData} {x : Str} {p pos : Pos} {e : Expr} {es : List Expr} {ms : M (List Dv)} {j : Nat} (g : Good X G E k) (Fn : FnOk X.prog X.w X.K X.mg X.base (CXm X.prog X.w X.base) j f fd ps (spOf G F)) (hj : j ≤ k)
    (hg : Gl X x) (hm : X.mg x = some (.ref f)) (hk : PySem.W.keepIn X.K (.ref f) = true) (hb : Binds X.K fd ps []) (ha : SndA X G E (e :: es) ms)
    (hdb : (x == ("__debug__" : Str)) = false := by decide) (he : starEach (e :: es) X.env = (false, eval e X.env) :: starEach es X.env := by rfl) (hpl : (backTo pos (starEach es X.env)).any (·.1) = false := by rfl) :
    Snd X G E (.Call (.Name x p) (e :: es) [] pos) (mCall F ms) := fun hK =>
  PE.imp (pe_call Fn (g.room.mono hj) hg hm hk hb .nil g.pas (ha hK) hdb he hpl) fun σ H Q ⟨μ, ρ, h, rs, s, o⟩ => taOf_bind rs s o fun μ1 ds1 h1 vs H1 x1 rs1 s1 r1 o1 => by
    rw [List.append_nil]
    exact ⟨μ1, h1, ds1, r1, s1, o1⟩
end
end L2.Mr
namespace L2.Mr
open PySem PySem.Spec PyProof.Rows
/-! ### raise of an own class -/
abbrev bmV : List Value := [.type "ValueError", .type "Exception", .type "BaseException", .type "object"]
/-- the module's names are finitely many, so the library's reading of the top stands over any base -/
theorem top_read {K : PySem.W.Frag} {mg : Str → Option Value} {base : Heap} (p : Program) (m : Mod K mg base) : ∃ loose mb, PySem.W.TopRead p loose mg mb base := by
  obtain ⟨mb, hb, hbb⟩ := m.blt
  obtain ⟨o, es, ep, ho, hd, hk, hf⟩ := id m.glob
  refine ⟨es.toList.filterMap fun e => match e.key with
    | .str n _ => some n
    | _ => none, mb, m.glob, hb, m.nolimit, hbb, fun x _ hx _ _ _ => ?_⟩
  rw [← hf x]
  cases q : nsFind es x with
  | none => rfl
  | some v =>
    exfalso
    apply hx
    unfold nsFind findBy at q
    obtain ⟨e, he, _⟩ := Option.map_eq_some_iff.mp q
    have h1 := Array.find?_some he
    have h2 := Array.mem_of_find?_eq_some he
    obtain ⟨n, t, hn⟩ := hk e h2
    rw [hn] at h1
    have h3 : n = x := by simpa [Value.isStr] using h1
    exact List.mem_filterMap.mpr ⟨e, by simpa using h2, by rw [hn, h3]⟩
section
variable {X : Cx} {G : Cfg} {E : XK} {k : Nat} {x : Str} {C : Addr} {np cpos pos : Pos} {e : Expr} {es : List Expr} {t : TA} {ms : M (List Dv)} {c : Nat}
theorem ps_raise (g : Good X G E k) (hg : Gl X x) (hm : X.mg x = some (.ref C)) (hns : PySem.W.nsIn X.K mainGlobals x = some (some (.ref C))) (hx : PySem.W.excIn X.K C bmV "ValueError.__new__" = true) (ha : PA X (e :: es) t) (hd : (x == ("__debug__" : Str)) = false := by decide)
    (he : starEach (e :: es) X.env = (false, eval e X.env) :: starEach es X.env := by rfl) (hpl : (backTo cpos (starEach es X.env)).any (·.1) = false := by rfl) :
    PS X (.Raise (some (.Call (.Name x np) (e :: es) [] cpos)) none pos) (fun _ σ H => t σ H fun vs H1 => vs.length ≤ sizeLine ∧ ∀ e H', Same H1 H' → (∃ T a0, H' e = some (.ext (ExO (.ref C) e T a0))) → E (.ref e) none H') := by
  intro pins s σ H D I h
  obtain ⟨bm, N, nm, q, bs, hdct, sn, sub, ab, col, dd, k0, k1, k2, k3, k5, mN, hC, hN, hni, T⟩ := (let ⟨_, _, tr⟩ := top_read X.prog I.ok.mod; PySem.W.own_of_in I.ok.mod.kin tr hns hx).obj
  refine wpAny_Raise_call_subU (C := C) (nm := nm) (q := q) (N := N) (bs := bs) (bm := bm) (hdct := hdct) (sn := sn) (sub := sub) (ab := ab) (col := col) (dd := dd) (k0 := k0) (k1 := k1) (k2 := k2) (k3 := k3) (k5 := k5)
    PySem.F.excBase_ValueError (by decide) PySem.F.excBase_ValueError (mN := mN) (T.hasType (by decide)) (I.ok.hd g.calm) (by rw [he]; show (false || (backTo cpos (starEach es X.env)).any (·.1)) = false; rw [hpl]; rfl) hni (ld_glob I hg hm ⟨rfl, ?_⟩ hd)
  have hh := ha cpos pins s σ H _ I h
  rw [he] at hh ⊢
  refine Calls.evalArgs_plain (thn hh fun us s2 ⟨vs, H2, I2, r, hz, w⟩ => ⟨rfl, by rw [← r.length]; exact hz, I2.bk _ _ hC, hN.keeps I2.bk, T.keeps I2.bk, fun h' e' mx => ?_⟩)
  exact g.rais pins σ H2 s2 h' e' _ _ I2 mx fun H' sm z => w e' H' sm z
theorem flyE_of {H : Hp} {e : Addr} (hc : C = G.cl c) (z : ∃ T a0, H e = some (.ext (ExO (.ref C) e T a0))) : FlyE G H c (.ref e) := by
  obtain ⟨T, a0, z⟩ := z
  exact ⟨e, _, rfl, z, fun h ⟨oe, vs, h1, h2, _⟩ => ⟨oe, h1, by rw [h2, hc]⟩⟩
def mRaise (c : Nat) (ms : M (List Dv)) : MS := fun ρ h => (ms ρ h).thenS fun ds h1 => if ds.length ≤ 1000 then .ex c h1 else .bad
theorem ss_raise (g : Good X G E k) (hg : Gl X x) (hm : X.mg x = some (.ref C)) (hns : PySem.W.nsIn X.K mainGlobals x = some (some (.ref C))) (hx : PySem.W.excIn X.K C bmV "ValueError.__new__" = true) (hc : C = G.cl c) (ha : SndA X G E (e :: es) ms) (hd : (x == ("__debug__" : Str)) = false := by decide)
    (he : starEach (e :: es) X.env = (false, eval e X.env) :: starEach es X.env := by rfl) (hpl : (backTo cpos (starEach es X.env)).any (·.1) = false := by rfl) :
    SndS X G E (.Raise (some (.Call (.Name x np) (e :: es) [] cpos)) none pos) (mRaise c ms) := fun hK => PS.imp (ps_raise g hg hm hns hx (ha hK) hd he hpl) fun D σ H ⟨μ, ρ, h, rs, s, o⟩ =>
  ⟨μ, ρ, h, rs, s, (o.thenS (R := RelDL G)).mono fun vs H1 ⟨μ1, ds, h1, x1, s1, r1, o1⟩ => by
    split at o1
    · rename_i hl
      refine ⟨by rw [r1.length]; exact Nat.le_trans hl (by decide), fun e' H' sm z => ?_⟩
      exact o1 μ1 H' (.ref e') (Ext.same sm) (s1.same sm) (flyE_of hc z)
    · exact o1.elim⟩
/-! ### f-strings: some text -/
end
end L2.Mr
namespace L2.Mr
open PySem PySem.Spec PyProof.Rows PySem.W
/-! ### isinstance of a caught error -/
section
variable {prog : Program} {w : World} {A : Around} {E : Value → Shared → Prop} {h : Heap} {g : Array GenState} {d : Drawn} {t : Nat} {os : OsState} {a C : Addr} {o : Obj} {K : Frag}
/-- what the written part says of an own error's class -/
structure ExK (K : Frag) (C : Addr) : Prop where
  ga : findIn K (.ref C) "__getattribute__" = some (some (.builtin "BaseException.__getattribute__"))
  ng : findIn K (.ref C) "__getattr__" = some none
  cl : findIn K (.ref C) "__class__" = some (some (.builtin "object.__class__"))
  ob : mroIn K C (.type "object") = some true
  be : subIn K (.ref C) (.type "BaseException") = some true
  se : kitCls K (.ref C) (.ref C) = some true
  lk : ∃ oc od cd osl, K.lookup C = some ⟨oc, od, .cls cd, osl⟩
theorem kindGa : builtinKind "BaseException.__getattribute__" = some .slot ∧ splitId "BaseException.__getattribute__" = some ("BaseException", "__getattribute__") := by decide +kernel
theorem otherGa : (Value.builtin "BaseException.__getattribute__" == Value.builtin "object.__getattribute__") = false := by decide +kernel
section
variable {R : Result → Shared → Prop} {s : Shared}
/-- the record is an error: a built-in of errors takes it -/
theorem ga_takes {M : Model} {n : Value} {Q : Unit → Shared → Prop} (X : K.In s.heap) (I : InstAt s.heap a o C none) (k : ExK K C) (hq : Q () s) : wpAny M A (checkBuiltinCall "BaseException.__getattribute__" ⟨[.ref a, n], []⟩) Q E s := by
  have one : Looks M s.heap (isInstance (.ref a) (.type "BaseException")) true := I.type.andThen (looks_subIn X k.be)
  have two := F.args_bexc_ga (.ref a) n
  obtain ⟨hh, g, d, t, os⟩ := s
  unfold checkBuiltinCall
  rw [kindGa.1, kindGa.2]
  refine wpAny_bind (one.at ?_)
  repeat (first | assumption | wp_step)
/-- its look-up of __class__ -/
theorem ga_class {n : Tok} (X : K.In s.heap) (I : InstAt s.heap a o C none) (k : ExK K C) (hq : R (.ok (.ret (.ref C))) s) : codeAny (model prog w) A (.call (.builtin "BaseException.__getattribute__") ⟨[.ref a, .str "__class__" n], []⟩) R s := by
  refine codeAny_call_builtin F.excAttr_ValueError.ga.plain F.entry_bexc_ga (ga_takes X I k ?_)
  have own := I.type (M := model prog w)
  have entry := looks_findIn (M := model prog w) X k.cl
  have of_get := F.slot_gs_get.lookup
  have of_set := F.slot_gs_set.lookup
  have kind := F.typeOf_object_class
  have kindIs : s.TypeIs (.builtin "object.__class__") "getset_descriptor" := kind
  obtain ⟨hh, g, d, t, os⟩ := s
  repeat (any_goals (first | assumption | with_reducible refine own.at ?_ | with_reducible refine entry.at ?_ | wp_step))
  exact class_get (s := ⟨hh, g, d, t, os⟩) X I k.ob (by repeat (any_goals (first | assumption | wp_step)))
end
theorem exc_class {Q : Option Value → Shared → Prop} (X : K.In h) (I : InstAt h a o C none) (k : ExK K C) (hq : Q (some (.ref C)) ⟨h, g, d, t + 1, os⟩) :
    wpAny (model prog w) A (getAttr? (.ref a) "__class__") Q E ⟨h, g, d, t, os⟩ := by
  have own := I.type (M := model prog w)
  have first_ := looks_findIn (M := model prog w) X k.ga
  have then_ := looks_findIn (M := model prog w) X k.ng
  have bound := F.excAttr_ValueError.ga.bind (.ref a)
  have other := otherGa
  have apart : (onTheHeap (Value.ref C) && Value.builtin "BaseException.__getattribute__" == Value.builtin "object.__getattribute__") = false := by rw [other]; rfl
  unfold getAttr? getAttrBy?
  repeat (any_goals (first | assumption | with_reducible refine own.at ?_ | with_reducible refine first_.at ?_ | with_reducible refine then_.at ?_ | wp_step))
  exact ga_class X I k (by repeat (any_goals (first | assumption | wp_step)))
/-- an error's record as isinstance takes it -/
def ExInst (a C : Addr) (h : Heap) : Prop := ∃ o, InstAt h a o C none
theorem kitx_exc (k : ExK K C) : KitX K (.ref a) (.ref C) (ExInst a C) where
  ty := fun _ _ _ ⟨_, I⟩ => I.type
  it := fun _ _ X _ => (kit_cls X k.se).2.1
  ne := fun h tp dd its n sl X htp => by
    cases z : (Value.ref C == Value.ref tp) with
    | false => rfl
    | true =>
      obtain rfl : C = tp := by simpa using z
      obtain ⟨oc, od, cd, osl, lk⟩ := k.lk
      have := X _ _ lk
      rw [htp] at this
      simp at this
  ca := fun {prog w A E Q s} X ⟨o, I⟩ hq => by
    obtain ⟨hh, g, d, t, os⟩ := s
    exact exc_class X I k hq
end
/-! ### isinstance -/
inductive Ty where
  | non | bl | int | str | tup | lst | dct | exc (c : Nat)
def tyD : Dv → Hs → Option Ty
  | .non, _ => some .non
  | .bl _, _ => some .bl
  | .int _, _ => some .int
  | .str _, _ => some .str
  | .tup _, _ => some .tup
  | .ref i, h => match getL h i with
    | some _ => some .lst
    | none => none
  | .edc, _ => some .dct
  | .exc c, _ => some (.exc c)
  | .scr, _ => none
def valT (cl : Nat → Addr) : Ty → Value
  | .non => .type "NoneType"
  | .bl => .type "bool"
  | .int => .type "int"
  | .str => .type "str"
  | .tup => .type "tuple"
  | .lst => .type "list"
  | .dct => .type "dict"
  | .exc c => .ref (cl c)
def isiD (f : Ty → Option Bool) (d : Dv) (h : Hs) : Rs Dv := match tyD d h with
  | some ty => match f ty with
    | some b => .ok (.bl b) h
    | none => .bad
  | none => .bad
section
variable {X : Cx} {G : Cfg} {E : XK} {pins : List (Addr × Obj)} {σ : St} {H : Hp} {s : Shared}
/-- how a value's record stands to isinstance -/
theorem kitx_D {μ : Nat → Addr} {h : Hs} {d : Dv} {v : V} {u : Value} {ty : Ty} (I : Inv X pins σ H s) (sm : Sim G μ h H) (r : RelD G μ h.length H d v) (ru : RelV v u) (e : tyD d h = some ty) (hex : ∀ c, ty = .exc c → ExK X.K (G.cl c)) :
    ∃ P, KitX X.K u (valT G.cl ty) P ∧ P s.heap ∧ u ≠ .builtin "__main__.__loader__#opaque" := by
  cases d with
  | non => cases e; rw [RelD] at r; subst r; cases ru; exact ⟨_, kitx_none, trivial, fun z => nomatch z⟩
  | bl b => cases e; rw [RelD] at r; subst r; cases ru; exact ⟨_, kitx_bool, trivial, fun z => nomatch z⟩
  | int i => cases e; rw [RelD] at r; subst r; obtain ⟨t, rfl⟩ := ru; exact ⟨_, kitx_int, trivial, fun z => nomatch z⟩
  | str i => cases e; rw [RelD] at r; subst r; obtain ⟨t, rfl⟩ := ru; exact ⟨_, kitx_str, trivial, fun z => nomatch z⟩
  | tup ds =>
    cases e
    obtain ⟨a, vs, rfl, ea, _⟩ := r
    cases ru
    obtain ⟨_, _, _, o, h1, h2, _⟩ := (show ObjOk X.prog X.w H s.heap a (.tup vs) from I.hok a _ ea)
    exact ⟨_, kitx_tuple, ⟨o, h1, h2⟩, fun z => nomatch z⟩
  | ref i =>
    dsimp only [tyD] at e
    cases g : getL h i with
    | none => rw [g] at e; cases e
    | some xs =>
      rw [g] at e; cases e
      obtain ⟨_, rfl⟩ := r
      cases ru
      obtain ⟨vs, ea, _⟩ := sm.ob i _ (getL_some g)
      obtain ⟨_, _, n, _, h1⟩ := (show ObjOk X.prog X.w H s.heap (μ i) (.lst vs) from I.hok _ _ ea)
      exact ⟨_, kitx_list, ⟨_, h1, rfl⟩, fun z => nomatch z⟩
  | edc =>
    cases e
    obtain ⟨a, rfl, ea⟩ := r
    cases ru
    obtain ⟨_, _, vs, _, p⟩ := (show ObjOk X.prog X.w H s.heap a (.dK []) from I.hok a _ ea)
    obtain ⟨o, es, ep, h1, h2, _⟩ := p
    exact ⟨_, kitx_dict, ⟨o, h1, h2.1⟩, fun z => nomatch z⟩
  | exc c =>
    cases e
    obtain ⟨a, o, uo, rfl, ea, hc, hdn, vs, hd⟩ := r
    cases ru
    obtain ⟨h1, _⟩ := (show ObjOk X.prog X.w H s.heap a (.frz o uo) from I.hok a _ ea)
    refine ⟨_, kitx_exc (hex c rfl), ⟨o, h1, hc, ?_, ?_⟩, fun z => nomatch z⟩
    · unfold notCls; rw [hd]
    · rw [hdn]; trivial
  | scr => cases e
end
section
variable {X : Cx} {G : Cfg} {E : XK} {a b : Expr} {ma : M Dv} {p pos : Pos} {f : Ty → Option Bool}
theorem b_isi : bootBuiltins "isinstance" = some (.builtin "isinstance") := by decide +kernel
def rIsi (G : Cfg) (f : Ty → Option Bool) (c : V) : List V → Hp → VK → Prop := fun xs H Q => ∃ μ h d v ty bb, xs = [v, c] ∧ Sim G μ h H ∧ RelD G μ h.length H d v ∧ tyD d h = some ty ∧ f ty = some bb ∧ Q (.bl bb) H
theorem call_isi {c : V} {u : Value} (hc : (∃ T, c = .ty T) ∨ ∃ C, c = .ref C) (rc : RelV c u) (hf : ∀ ty bb, f ty = some bb → kitOne X.K (valT G.cl ty) u = some bb) (hex : ∀ c bb, f (.exc c) = some bb → ExK X.K (G.cl c)) : CallR X (.builtin "isinstance") (rIsi G f c) := by
  intro pins s σ H xs us Q I rv ⟨μ, h, d, v, ty, bb, e1, sm, r, et, ef, q⟩
  subst e1
  obtain ⟨u1, u2, rfl, r1, r2⟩ := vals2 rv
  have e2 : u2 = u := by
    rcases hc with ⟨T, rfl⟩ | ⟨C, rfl⟩ <;> (cases rc; cases r2; rfl)
  subst e2
  obtain ⟨P, Z, hP, hne⟩ := kitx_D I sm r r1 et (fun c z => by subst z; exact hex c bb ef)
  exact kia_one Z I.kIn hP (hf ty bb ef) hne fun tk => ⟨.bl bb, H, I.tok _, rfl, q⟩
theorem pe_ty {x : Str} {T : String} (hg : Gl X x) (hm : X.mg x = none) (hv : bootBuiltins x = some (.type T)) (hn : x ≠ "__name__" := by decide) (hd : (x == ("__debug__" : Str)) = false := by decide) : PE X (.Name x pos) (tC (.ty T)) :=
  fun pins s σ H Q I h => ld_blt I hg hm hv ⟨.ty T, H, I, rfl, h⟩ hn hd
theorem snd_isi {c : V} {u : Value} (hg : Gl X "isinstance") (hm : X.mg "isinstance" = none) (ha : Snd X G E a ma) (hb : PE X b (tC c)) (hc : (∃ T, c = .ty T) ∨ ∃ C, c = .ref C) (rc : RelV c u)
    (hf : ∀ ty bb, f ty = some bb → kitOne G.K (valT G.cl ty) u = some bb) (hex : ∀ c bb, f (.exc c) = some bb → ExK G.K (G.cl c))
    (he : starEach [a, b] X.env = [(false, eval a X.env), (false, eval b X.env)] := by rfl) (he2 : starEach [b] X.env = [(false, eval b X.env)] := by rfl) :
    Snd X G E (.Call (.Name "isinstance" p) [a, b] [] pos) (m1 (isiD f) ma) := fun hK =>
  PE.imp (pe_callB (call_isi (G := G) (f := f) hc rc (by rw [hK]; exact hf) (by rw [hK]; exact hex)) hg hm b_isi (pa_cons (ha hK) (pa_cons hb pa_nil he2) (by rw [he, he2])) (by decide) (by decide) (by rw [he, he2]) (by rw [he2]; rfl))
    fun σ H Q ⟨μ, ρ, h, rs, s, o⟩ => tOf_bind rs s o fun μ1 d h1 v H1 x1 rs1 s1 r1 o1 => by
      show rIsi G f c [v, c] H1 Q
      unfold isiD at o1
      cases q : tyD d h1 with
      | none => rw [q] at o1; exact o1.elim
      | some ty =>
        rw [q] at o1
        dsimp only at o1
        cases q2 : f ty with
        | none => rw [q2] at o1; exact o1.elim
        | some bb =>
          rw [q2] at o1
          exact ⟨μ1, h1, d, v, ty, bb, rfl, s1, r1, q, q2, o1.val s1 rfl⟩
/-! of several classes -/
def rIsiT (G : Cfg) (f : Ty → Option Bool) (cs : List V) : List V → Hp → VK → Prop := fun xs H Q => ∃ μ h d v ty bb tp, xs = [v, .ref tp] ∧ H tp = some (.tup cs) ∧ Sim G μ h H ∧ RelD G μ h.length H d v ∧ tyD d h = some ty ∧ f ty = some bb ∧ Q (.bl bb) H
theorem call_isiT {cs : List V} {us : List Value} (hcs : ∀ us', Vals cs us' → us' = us) (hf : ∀ ty bb, f ty = some bb → kitAny X.K (valT G.cl ty) us = some bb) (hex : ∀ c bb, f (.exc c) = some bb → ExK X.K (G.cl c)) : CallR X (.builtin "isinstance") (rIsiT G f cs) := by
  intro pins s σ H xs uu Q I rv ⟨μ, h, d, v, ty, bb, tp, e1, etp, sm, r, et, ef, q⟩
  subst e1
  obtain ⟨u1, u2, rfl, r1, r2⟩ := vals2 rv
  cases r2
  obtain ⟨_, its, rits, o, h1, h2, _, n, h3⟩ := (show ObjOk X.prog X.w H s.heap tp (.tup cs) from I.hok tp _ etp)
  have eits := hcs its rits
  subst eits
  obtain ⟨oc, od, odata, osl⟩ := o
  cases h2; cases h3
  obtain ⟨P, Z, hP, hne⟩ := kitx_D I sm r r1 et (fun c z => by subst z; exact hex c bb ef)
  exact kia_tup Z I.kIn hP h1 (hf ty bb ef) hne fun tk => ⟨.bl bb, H, I.tok _, rfl, q⟩
theorem snd_isiT {cs : List V} {us : List Value} {bs : List Expr} {kt : Nat} {tpos : Pos} (hg : Gl X "isinstance") (hm : X.mg "isinstance" = none) (ha : Snd X G E a ma) (hb : PA X bs (fun _ H Q => Q cs H)) (hl : cs.length ≤ sizeLine) (hcs : ∀ us', Vals cs us' → us' = us)
    (hf : ∀ ty bb, f ty = some bb → kitAny G.K (valT G.cl ty) us = some bb) (hex : ∀ c bb, f (.exc c) = some bb → ExK G.K (G.cl c))
    (he : starEach [a, .Tuple bs kt tpos] X.env = [(false, eval a X.env), (false, eval (.Tuple bs kt tpos) X.env)] := by rfl) (he2 : starEach [.Tuple bs kt tpos] X.env = [(false, eval (.Tuple bs kt tpos) X.env)] := by rfl) :
    Snd X G E (.Call (.Name "isinstance" p) [a, .Tuple bs kt tpos] [] pos) (m1 (isiD f) ma) := fun hK =>
  PE.imp (pe_callB (call_isiT (G := G) (f := f) hcs (by rw [hK]; exact hf) (by rw [hK]; exact hex)) hg hm b_isi (pa_cons (ha hK) (pa_cons (pe_tup hb) pa_nil he2) (by rw [he, he2])) (by decide) (by decide) (by rw [he, he2]) (by rw [he2]; rfl))
    fun σ H Q ⟨μ, ρ, h, rs, s, o⟩ => tOf_bind rs s o fun μ1 d h1 v H1 x1 rs1 s1 r1 o1 => by
      refine ⟨hl, fun tp htp => ?_⟩
      show rIsiT G f cs [v, .ref tp] (upd H1 tp (.tup cs)) Q
      unfold isiD at o1
      cases q : tyD d h1 with
      | none => rw [q] at o1; exact o1.elim
      | some ty =>
        rw [q] at o1
        dsimp only at o1
        cases q2 : f ty with
        | none => rw [q2] at o1; exact o1.elim
        | some bb =>
          rw [q2] at o1
          have x2 : Ext μ1 h1.length H1 μ1 h1.length (upd H1 tp (.tup cs)) := Ext.same (same_upd htp)
          exact ⟨μ1, h1, d, v, ty, bb, tp, rfl, upd_same, s1.same (same_upd htp), RelD.mono x2 _ _ r1, q, q2, o1 μ1 _ _ x2 (s1.same (same_upd htp)) rfl⟩
end
end L2.Mr
namespace L2.Mr
open PySem PySem.Spec PyProof.Rows
/-! ### all, any of bools -/
def blD : Dv → Option Bool
  | .bl b => some b
  | _ => none
theorem optL_len {α β : Type} {f : α → Option β} : ∀ {xs : List α} {ys : List β}, optL f xs = some ys → ys.length = xs.length
  | [], ys, e => by cases e; rfl
  | x :: xs, ys, e => by
    unfold optL at e
    cases q : f x with
    | none => rw [q] at e; cases e
    | some y =>
      rw [q] at e
      dsimp only at e
      cases q2 : optL f xs with
      | none => rw [q2] at e; cases e
      | some zs => rw [q2] at e; cases e; simp [optL_len q2]
theorem rel_bools {G : Cfg} {μ : Nat → Addr} {n : Nat} {H : Hp} : ∀ {xs : List Dv} {vs : List V} {bs : List Bool}, RelDL G μ n H xs vs → optL blD xs = some bs → vs = bs.map V.bl
  | [], vs, bs, r, e => by cases e; rw [RelDL] at r; exact r
  | x :: xs, vs, bs, r, e => by
    rw [RelDL] at r; obtain ⟨v, rr, rfl, r1, r2⟩ := r
    unfold optL at e
    cases x with
    | bl b =>
      dsimp only [blD] at e
      cases q : optL blD xs with
      | none => rw [q] at e; cases e
      | some zs =>
        rw [q] at e; cases e
        rw [RelD] at r1; subst r1
        rw [rel_bools r2 q]; rfl
    | _ => cases e
section
variable {X : Cx} {pins : List (Addr × Obj)} {σ : St} {H : Hp} {s : Shared}
theorem range_all (bs : List Bool) : (List.range bs.length).all (fun i => bs.getD i false) = bs.all id := by
  rw [Bool.eq_iff_iff, List.all_eq_true, List.all_eq_true]
  constructor
  · intro h b hb
    obtain ⟨i, hi, rfl⟩ := List.mem_iff_getElem.mp hb
    simpa [List.getD, hi] using h i (List.mem_range.mpr hi)
  · intro h i hi
    have hi := List.mem_range.mp hi
    simpa [List.getD, hi] using h _ (List.getElem_mem hi)
theorem bool_at {bs : List Bool} {its : List Value} (rv : Vals (bs.map V.bl) its) {i : Nat} {v : Value} (e : its.toArray[i]? = some v) : v = .bool (bs.getD i false) := by
  have hl := rv.length
  rw [List.length_map] at hl
  have e' : its[i]? = some v := by simpa using e
  have hi : i < its.length := (List.getElem?_eq_some_iff.mp e').1
  have hb : i < bs.length := by omega
  obtain ⟨u, e2, r⟩ := rv.get (i := i) (x := V.bl bs[i]) (by simp [hb])
  rw [e'] at e2; cases e2
  have hg : bs.getD i false = bs[i] := by simp [List.getD, hb]
  rw [hg]
  exact r
theorem truth_bools {bs : List Bool} {its : List Value} {A : Around} (rv : Vals (bs.map V.bl) its) : TruthOf X.prog X.w A (fun i v => its.toArray[i]? = some v) (fun i => bs.getD i false) := by
  intro i v s Q E e q
  rw [bool_at rv e]
  exact wpAny_truthy_bool q
/-- behind a walk by an iterator of its own all is tracked as it was -/
theorem after_walk {o : Obj} {h' : Heap} {tk : Nat} (I : Inv X pins σ H s) (k : ∀ b u, b ∉ [s.heap.objs.size] → (s.heap.push o).get? b = some u → h'.get? b = some u) : Inv X pins σ H { s with heap := h', toks := tk } := by
  have I1 : Inv X pins σ H { s with heap := s.heap.push o } := I.kept (t' := s.toks) fun b u e => Heap.get?_push_of_some _ e
  obtain ⟨f0, f1, f2, f3, f4, f5⟩ := I.fpOk (Nat.le_refl s.heap.objs.size) I.fresh
  exact I1.turned (t' := tk) (fun b u hb e => k b u (by simpa using hb) e) f0 f1 f3 f4 f5
theorem call_allB (hc : X.calm = true) : CallR X (.builtin "all") (fun xs H Q => ∃ (p : Addr) (bs : List Bool), xs = [.ref p] ∧ H p = some (.lst (bs.map V.bl)) ∧ Q (.bl (bs.all id)) H) := by
  intro pins s σ H xs us Q I rv ⟨p, bs, e, hp, q⟩
  subst e
  obtain ⟨u, rfl, ru⟩ := vals1 rv
  cases ru
  obtain ⟨its, rits, pl, hz⟩ := I.list (SqL.of hp)
  have hn : its.toArray.size = bs.length := by have := rits.length; simp at this ⊢; omega
  have ne : p ≠ s.heap.objs.size := Nat.ne_of_lt (I.hok.lt hp)
  refine call_all_walk (wpAny_pyIter_list pl.isList ⟨_, _, _, _, _, _, fun i => bs.getD i false, rfl, Walks.list (A := X.A.in1) (show X.A.in1.handled = none from I.ok.hd hc) _ p ne its.toArray, ⟨⟨_, Heap.get?_push_size _ rfl, rfl, rfl⟩, pl.isList.push _⟩, truth_bools rits, fun h' tk k => ?_⟩)
  rw [hn, range_all]
  exact ⟨.bl _, H, (after_walk (tk := tk) I k : Inv X pins σ H { s with heap := h', toks := tk }), rfl, q⟩
end
/-! ### a built-in of a list that has just come -/
section
variable {X : Cx} {G : Cfg} {E : XK} {e : Expr} {ml : M (List Dv)} {x : Str} {p pos : Pos} {bid T : String}
def mL (f : List Dv → Hs → Rs Dv) (ml : M (List Dv)) : M Dv := fun ρ h => (ml ρ h).bind f
def LstD (G : Cfg) (r : List V → Hp → VK → Prop) (f : List Dv → Hs → Rs Dv) : Prop := ∀ (E : XK) (μ : Nat → Addr) (h : Hs) (H : Hp) (xs : List Dv) (a : Addr) (vs : List V) (Q : VK), Sim G μ h H → H a = some (.lst vs) → RelDL G μ h.length H xs vs → Out G E μ h.length H (f xs h) (RelD G) Q → r [.ref a] H Q
theorem l_tOf {r : List V → Hp → VK → Prop} {f : List Dv → Hs → Rs Dv} (hd : LstD G r f) {σ : St} {H : Hp} {Q : VK} (t : tOf G E (mL f ml) σ H Q) : tCB r (tCons (tlOf G E ml) tNil) σ H Q := by
  obtain ⟨μ, ρ, h, rs, s, o⟩ := t
  refine ⟨μ, ρ, h, rs, s, (o.bind (R1 := RL G)).mono fun v H1 ⟨μ1, xs, h1, x1, s1, ⟨a, vs, ev, ea, _, r1⟩, o1⟩ => ?_⟩
  subst ev
  exact hd E μ1 h1 H1 xs a vs Q s1 ea r1 o1
theorem snd_lB {r : List V → Hp → VK → Prop} {f : List Dv → Hs → Rs Dv} (hc : CallR X (.builtin bid) r) (hd : LstD G r f) (hg : Gl X x) (hm : X.mg x = none) (hv : bootBuiltins x = some (.builtin bid)) (ha : SndL X G E e ml) (hn : x ≠ "__name__" := by decide) (hdb : (x == ("__debug__" : Str)) = false := by decide)
    (he : starEach [e] X.env = [(false, eval e X.env)] := by rfl) : Snd X G E (.Call (.Name x p) [e] [] pos) (mL f ml) := fun hK =>
  PE.imp (pe_callB hc hg hm hv (pa_cons (ha hK) pa_nil he) hn hdb he rfl) fun _ _ _ t => l_tOf hd t
theorem b_all : bootBuiltins "all" = some (.builtin "all") := by decide +kernel
def allF (xs : List Dv) (h : Hs) : Rs Dv := match optL blD xs with
  | some bs => .ok (.bl (bs.all id)) h
  | none => .bad
theorem snd_all (hc : X.calm = true) (hg : Gl X "all") (hm : X.mg "all" = none) (ha : SndL X G E e ml) (he : starEach [e] X.env = [(false, eval e X.env)] := by rfl) : Snd X G E (.Call (.Name "all" p) [e] [] pos) (mL allF ml) :=
  snd_lB (call_allB hc) (fun E μ h H xs a vs Q s ea r o => by
    unfold allF at o
    cases q : optL blD xs with
    | none => rw [q] at o; exact o.elim
    | some bs => rw [q] at o; exact ⟨a, bs, rfl, by rw [ea, rel_bools r q], o.val s rfl⟩) hg hm b_all ha (by decide) (by decide) he
end
/-! ### lists that change -/
section
variable {X : Cx} {G : Cfg} {E : XK} {o e i : Expr} {mo me mi : M Dv} {ml : M (List Dv)} {pos apos cpos : Pos}
theorem tyL {H : Hp} {a : Addr} {vs : List V} (e : H a = some (.lst vs)) : tyV X.K "list" (.ref a) H := .inl ⟨rfl, vs, SqL.of e⟩
def appD (o d : Dv) (h : Hs) : Rs Dv := match o with
  | .ref j => match getL h j with
    | some xs => if xs.length < 1000000 then .ok .non (h.set j (.lst (xs ++ [d]))) else .bad
    | none => .bad
  | _ => .bad
/-- the list must be there when it is looked up, too -/
def isL (o : Dv) (h : Hs) : Bool := match o with
  | .ref j => (getL h j).isSome
  | _ => false
def mApp (mo me : M Dv) : M Dv := fun ρ h => (mo ρ h).bind fun x h1 => if isL x h1 = true then (me ρ h1).bind fun d h2 => appD x d h2 else .bad
theorem isL_ok {μ : Nat → Addr} {h : Hs} {H : Hp} {x : Dv} {v : V} (s : Sim G μ h H) (r : RelD G μ h.length H x v) (e : isL x h = true) : tyV X.K "list" v H := by
  cases x with
  | ref j =>
    obtain ⟨xs, q⟩ := Option.isSome_iff_exists.mp (show (getL h j).isSome = true from e)
    obtain ⟨vs, ea, _⟩ := s.ob j _ (getL_some q)
    obtain ⟨_, rfl⟩ := r
    exact tyL ea
  | _ => cases e
theorem snd_app {y : Str} {np : Pos} (ho : Snd X G E (.Name y np) mo) (he : Snd X G E e me) (hs : starEach [e] X.env = [(false, eval e X.env)] := by rfl) (hl : (apos.endLine == cpos.line) = true := by rfl) : Snd X G E (.Call (.Attribute (.Name y np) "append" apos) [e] [] cpos) (mApp mo me) := fun hK =>
  PE.imp (pe_bm PySem.F.plainAttrs_list PySem.F.slot_list_append PySem.F.type_list_append mt_append (ho hK) (pa_cons (he hK) pa_nil hs) rfl (by rw [hs]; rfl) hl hs rfl) fun σ H Q ⟨μ, ρ, h, rs, s, oo⟩ => tOf_bind rs s oo fun μ1 x h1 vx H1 x1 rs1 s1 r1 o1 => by
    split at o1
    · rename_i hl
      refine ⟨isL_ok s1 r1 hl, tOf_bind rs1 s1 o1 fun μ2 d h2 vd H2 x2 rs2 s2 r2 o2 => ?_⟩
      cases x with
      | ref j =>
        dsimp only [appD] at o2
        cases q : getL h2 j with
        | none => rw [q] at o2; exact o2.elim
        | some xs =>
          rw [q] at o2
          dsimp only at o2
          split at o2
          · rename_i hz
            obtain ⟨vs, ea, ra⟩ := s2.ob j _ (getL_some q)
            obtain ⟨_, rfl⟩ := RelD.mono x2 _ _ r1
            obtain ⟨x3, s3⟩ := s2.write (getL_some q) (ra.append (RelDL.cons r2 RelDL.nil))
            exact ⟨_, vs, vd, rfl, rfl, ea, by rw [ra.length]; exact Nat.lt_of_lt_of_le hz (by decide), o2 μ2 _ _ x3 s3 rfl⟩
          · exact o2.elim
      | _ => exact o2.elim
    · exact o1.elim
end
end L2.Mr
namespace L2.Mr
open PySem PySem.Spec PyProof.Rows
section
variable {X : Cx} {G : Cfg} {E : XK} {e i : Expr} {mo me mi : M Dv} {ml : M (List Dv)} {pos apos cpos np : Pos} {y : Str}
/-! ### x.extend([..]) -/
/-! ### x[i] = v -/
def setD (o i d : Dv) (h : Hs) : Option Hs := match o, i with
  | .ref j, .int k => match getL h j with
    | some xs => match ixN xs.length k with
      | some n => some (h.set j (.lst (xs.set n d)))
      | none => none
    | none => none
  | _, _ => none
def mSetIx (mo mi me : M Dv) : MS := fun ρ h => (me ρ h).thenS fun d h1 => (mo ρ h1).thenS fun o h2 => (mi ρ h2).thenS fun i h3 => match setD o i d h3 with
  | some h4 => .nx ρ h4
  | none => .bad
theorem ss_setIx {o : Expr} {spos : Pos} (ho : Snd X G E o mo) (hi : Snd X G E i mi) (he : Snd X G E e me)
    (ha : ∀ v, assign (.Subscript o i spos) X.env v = (do
      let ov ← holding [v] (eval o X.env)
      let iv ← holding [v, ov] (eval i X.env)
      standAt spos
      holding [v, ov, iv] (setItem ov iv v)
      release [v, ov, iv] []) := by intro _; rfl)
    (hs : swapsWithSole [.Subscript o i spos] e pos.line X.env = pure false := by rfl) (hw : swappedStores [.Subscript o i spos] e X.env = pure none := by rfl)
    (h1 : (assignEach [.Subscript o i spos] X.env).map (·.2) = [assign (.Subscript o i spos) X.env] := by rfl) : SndS X G E (.Assign [.Subscript o i spos] e pos) (mSetIx mo mi me) := fun hK =>
  PS.imp (ps_asg (he hK) (pg_sub (ho hK) (hi hK) set_list ha) hs hw h1) fun D σ H ⟨μ, ρ, h, rs, s, oo⟩ => tOf_thenS rs s oo fun μ1 d h1 v H1 x1 rs1 s1 r1 o1 => tOf_thenS rs1 s1 o1 fun μ2 ob h2 vo H2 x2 rs2 s2 r2 o2 => tOf_thenS rs2 s2 o2 fun μ3 ix h3 vi H3 x3 rs3 s3 r3 o3 => by
    cases ob with
    | ref j =>
      cases ix with
      | int k =>
        dsimp only [setD] at o3
        cases q : getL h3 j with
        | none => rw [q] at o3; exact o3.elim
        | some xs =>
          rw [q] at o3
          dsimp only at o3
          cases q2 : ixN xs.length k with
          | none => rw [q2] at o3; exact o3.elim
          | some n =>
            rw [q2] at o3
            obtain ⟨vs, ea, ra⟩ := s3.ob j _ (getL_some q)
            obtain ⟨_, rfl⟩ := RelD.mono x3 _ _ r2
            rw [RelD] at r3; subst r3
            obtain ⟨x4, s4⟩ := s3.write (getL_some q) (RelDL.set (RelD.mono (x2.trans x3) _ _ r1) n ra)
            exact ⟨_, vs, k, n, rfl, rfl, ea, by rw [ra.length]; exact q2, o3 μ3 _ σ x4 s4 (rs3.mono x4)⟩
      | _ => exact o3.elim
    | _ => cases ix <;> exact o3.elim
end
end L2.Mr
namespace L2.Mr
open PySem PySem.Spec PyProof.Rows
/-! ### zip of two tuples -/
section
variable {prog : Program} {w : World} {A : Around} {E : Value → Shared → Prop} {s : Shared}
theorem tup_draw {it t : Addr} {i : Nat} {items : Array Value} {x : Value} {Q : Value → Shared → Prop} (hit : s.heap.IsTupleIter it t i) (ht : s.heap.IsTuple t items) (hx : items[i]? = some x)
    (k : ∀ h', h'.IsTupleIter it t (i + 1) → Heap.SameBut it s.heap h' → Q x { s with heap := h' }) : wpAny (model prog w) A (Builtin.SmallTypes.nextOf (.ref it)) Q E s := by
  obtain ⟨o, ho, hc, hd⟩ := id hit
  obtain ⟨ol, hol, hcl, nl, hdl⟩ := id ht
  refine wpAny_bind (wpAny_callSpecial?_slot (name := Str.ofString "__next__") hit.typeIs F.slot_tuple_iterator_next (wpAny_call_entry F.slot_tuple_iterator_next hit.typeIs F.entry_tuple_iterator_next ?_ (F.args_tuple_iterator_next_1 _)))
  have q0 : ∀ {Q' : Value → Shared → Prop} {E' : Value → Shared → Prop} {B : Around}, Q' (.ref t) s → wpAny (model prog w) B (field (.ref it) 0) Q' E' s := fun q => wpAny_field ho hd (x := .ref t) rfl q
  have q1 : ∀ {Q' : Value → Shared → Prop} {E' : Value → Shared → Prop} {B : Around}, Q' (.int i 0) s → wpAny (model prog w) B (field (.ref it) 1) Q' E' s := fun q => wpAny_field ho hd (x := .int i 0) rfl q
  refine wpAny_bind (wpAny_pure (wpAny_bind (q0 ?_)))
  dsimp only
  rw [if_neg (by simp)]
  refine wpAny_bind (q1 (wpAny_bind (wpAny_seqItems hol hdl ?_)))
  rw [show ((i : Int)).toNat = i from Int.toNat_natCast i]
  dsimp only
  rw [hx]
  refine wpAny_bind (wpAny_setField ho hd (by simp) (wpAny_pure ⟨x, rfl, wpAny_pure (k _ ⟨_, Heap.get?_update_self _ ho (Obj.isFreed_of_fields (Obj.data_mapFields hd _)), ?_, ?_⟩ (Heap.SameBut.update ..))⟩))
  · rw [Obj.cls_mapFields]; exact hc
  · rw [Obj.data_mapFields hd]; simp [rawInt]
end
end L2.Mr
namespace L2.Mr
open PySem PySem.Spec PyProof.Rows
section
variable {prog : Program} {w : World} {A : Around} {E : Value → Shared → Prop} {s : Shared}
/-- StopIteration is raised: two new records, all else as it was -/
theorem stop_raise {α : Type} {Q : α → Shared → Prop} (hh : A.handled = none) (k : ∀ h' e, (∀ b o, s.heap.get? b = some o → h'.get? b = some o) → (∃ o, h'.get? e = some o ∧ o.cls = .type "StopIteration") → E (.ref e) { s with heap := h' }) :
    wpAny (model prog w) A (Builtin.SmallTypes.stopIteration : Sem α) Q E s := by
  have e0 : firstArgMember (.type "StopIteration") [] = pure Value.none := by
    show (pure (if _ then Value.none else Value.none) : Sem Value) = _
    rw [ite_self]
  unfold Builtin.SmallTypes.stopIteration newExc newTuple
  refine wpAny_bind (wpAny_bind (wpAny_newObj_type (wpAny_bind (wpAny_of_eq e0 (wpAny_newObj_type (wpAny_raiseNew_none hh (k _ _ (fun b o q => Heap.get?_push_of_some _ (Heap.get?_push_of_some _ q)) ⟨_, Heap.get?_push_size _ rfl, rfl⟩)) (by size_fits)))) (by size_fits)))
/-- behind the last item -/
theorem tup_done {it t : Addr} {i : Nat} {items : Array Value} {Q : Value → Shared → Prop} (hh : A.handled = none) (hit : s.heap.IsTupleIter it t i) (ht : s.heap.IsTuple t items) (hx : items[i]? = none)
    (k : ∀ h' e, Heap.ExtBut it s.heap h' → (∃ o, h'.get? e = some o ∧ o.cls = .type "StopIteration") → E (.ref e) { s with heap := h' }) : wpAny (model prog w) A (Builtin.SmallTypes.nextOf (.ref it)) Q E s := by
  obtain ⟨o, ho, hc, hd⟩ := id hit
  obtain ⟨ol, hol, hcl, nl, hdl⟩ := id ht
  refine wpAny_bind (wpAny_callSpecial?_slot (name := Str.ofString "__next__") hit.typeIs F.slot_tuple_iterator_next (wpAny_call_entry F.slot_tuple_iterator_next hit.typeIs F.entry_tuple_iterator_next ?_ (F.args_tuple_iterator_next_1 _)))
  have q0 : ∀ {Q' : Value → Shared → Prop} {E' : Value → Shared → Prop} {B : Around}, Q' (.ref t) s → wpAny (model prog w) B (field (.ref it) 0) Q' E' s := fun q => wpAny_field ho hd (x := .ref t) rfl q
  have q1 : ∀ {Q' : Value → Shared → Prop} {E' : Value → Shared → Prop} {B : Around}, Q' (.int i 0) s → wpAny (model prog w) B (field (.ref it) 1) Q' E' s := fun q => wpAny_field ho hd (x := .int i 0) rfl q
  refine wpAny_bind (wpAny_pure (wpAny_bind (q0 ?_)))
  dsimp only
  rw [if_neg (by simp)]
  refine wpAny_bind (q1 (wpAny_bind (wpAny_seqItems hol hdl ?_)))
  rw [show ((i : Int)).toNat = i from Int.toNat_natCast i]
  dsimp only
  rw [hx]
  refine wpAny_bind (wpAny_rule (wpAny_bind (wpAny_setField ho hd (by simp) (stop_raise (show A.in1.handled = none from hh) fun h' e kp st => k h' e (fun b u hb q => kp b u ?_) st))))
  rw [Heap.get?_update_other _ _ (Ne.symm hb)]
  exact q
end
end L2.Mr
namespace L2.Mr
open PySem PySem.Spec PyProof.Rows
/-- an iterator by its draws: draw i gives xs[i] and turns its own record alone; behind them it stops -/
structure Draws (prog : Program) (w : World) (it src : Addr) (xs : List Value) (st : Nat → Heap → Prop) : Prop where
  keep : ∀ i h h', st i h → (∀ b o, b = it ∨ b = src → h.get? b = some o → h'.get? b = some o) → st i h'
  there : ∀ i h, st i h → ∃ o vs, h.get? it = some o ∧ o.data = .fields vs
  item : ∀ (A : Around) (i : Nat) (x : Value) (s : Shared) (Q : Value → Shared → Prop) (E : Value → Shared → Prop), xs[i]? = some x → st i s.heap →
    (∀ h', st (i + 1) h' → Heap.SameBut it s.heap h' → Q x { s with heap := h' }) → wpAny (model prog w) A (Builtin.SmallTypes.nextOf (.ref it)) Q E s
  done : ∀ (A : Around) (i : Nat) (s : Shared) (Q : Value → Shared → Prop) (E : Value → Shared → Prop), A.handled = none → xs[i]? = none → st i s.heap →
    (∀ h' e, Heap.ExtBut it s.heap h' → (∃ o, h'.get? e = some o ∧ o.cls = .type "StopIteration") → E (.ref e) { s with heap := h' }) → wpAny (model prog w) A (Builtin.SmallTypes.nextOf (.ref it)) Q E s
/-- four records, all apart -/
structure Four (z TI TO i j u v : Addr) : Prop where
  a : z ≠ TO
  b : z ≠ i
  c : z ≠ j
  d : TO ≠ i
  e : TO ≠ j
  f : i ≠ j
  g : TI ≠ z
  h : TI ≠ TO
  k : TI ≠ i
  l : TI ≠ j
  u1 : u ≠ z
  u2 : u ≠ TO
  u3 : u ≠ i
  u4 : u ≠ j
  v1 : v ≠ z
  v2 : v ≠ TO
  v3 : v ≠ i
  v4 : v ≠ j
theorem ne2 {b x y c : Addr} (h : b = x ∨ b = y) (p : x ≠ c) (q : y ≠ c) : b ≠ c := by
  rcases h with h | h
  · rw [h]; exact p
  · rw [h]; exact q
/-- all but these stays -/
def But (z TO i j : Addr) (h h' : Heap) : Prop := ∀ b o, b ≠ z → b ≠ TO → b ≠ i → b ≠ j → h.get? b = some o → h'.get? b = some o
section
variable {prog : Program} {w : World} {A : Around} {E : Value → Shared → Prop} {s : Shared} {z TI TO i j u v : Addr} {xs ys : List Value} {st su : Nat → Heap → Prop}
theorem zip_item {n : Nat} {x y a b : Value} {Q : Value → Shared → Prop} (F4 : Four z TI TO i j u v) (P : Draws prog w i u xs st) (R : Draws prog w j v ys su) (hz : IsZip s.heap z TI TO .none) (hTI : IsPair s.heap TI (.ref i) (.ref j)) (hTO : IsPair s.heap TO a b)
    (p : st n s.heap) (r : su n s.heap) (hx : xs[n]? = some x) (hy : ys[n]? = some y)
    (k : ∀ h' T, s.heap.objs.size ≤ T → IsZip h' z TI TO (rawInt T) → IsPair h' TI (.ref i) (.ref j) → IsPair h' TO x y → st (n + 1) h' → su (n + 1) h' → IsPair h' T x y → But z TO i j s.heap h' → Q (.ref T) { s with heap := h' }) :
    wpAny (model prog w) A (Builtin.«zip.__next__» ⟨[.ref z], []⟩) (fun fin s' => ∃ v, fin = .done (.ret v) ∧ Q v s') E s := by
  refine wpAny_bind (wpAny_pure (wpAny_bind (wpAny_field hz rfl (x := .bool false) rfl (wpAny_bind (wpAny_field hz rfl (x := .ref TI) rfl (wpAny_bind (wpAny_seqItems hTI rfl ?_)))))))
  have fr : ∀ {Q' : Bool → Shared → Prop} {E' : Value → Shared → Prop}, Q' true s → wpAny (model prog w) A (Builtin.SmallTypes.ownedTupleIsFree (.ref z)) Q' E' s := fun q => wpAny_bind (wpAny_field hz rfl (x := .none) rfl (wpAny_pure q))
  refine wpAny_bind (fr ?_)
  rw [if_pos rfl]
  refine wpAny_bind (wpAny_rule (wpAny_bind (wpAny_field hz rfl (x := .ref TO) rfl (wpAny_bind (wpAny_setField_rec hz (by simp) fun g1 z1 b1 => ?_)))))
  have z1' : IsZip g1 z TI TO .ellipsis := z1
  -- the first draw
  refine wpAny_bind ?_
  show wpAny _ _ (forIn [(Value.ref i, 0), (Value.ref j, 1)] _ _) _ _ _
  rw [List.forIn_cons]
  refine wpAny_bind (wpAny_bind (wpAny_onRaise ?_))
  show wpAny _ _ (Builtin.SmallTypes.nextOf (.ref i) >>= _) _ _ _
  refine wpAny_bind (P.item A n x _ _ _ hx (P.keep n _ _ p fun b o hb q => b1.extBut _ _ (ne2 hb (Ne.symm F4.b) F4.u1) q) fun g2 p2 b2 => wpAny_pure ?_)
  have t2 : IsPair g2 TO a b := b2.extBut _ _ F4.d (b1.extBut _ _ (Ne.symm F4.a) hTO)
  refine wpAny_bind (wpAny_seqItems t2 rfl (wpAny_bind (wpAny_updateSeq_pair t2 fun g3 t3 b3 => wpAny_bind (wpAny_letGo (wpAny_pure ?_)))))
  have t3' : IsPair g3 TO x b := t3
  -- the second one
  dsimp only
  rw [List.forIn_cons]
  refine wpAny_bind (wpAny_bind (wpAny_onRaise ?_))
  show wpAny _ _ (Builtin.SmallTypes.nextOf (.ref j) >>= _) _ _ _
  have r3 : su n g3 := R.keep n _ _ r fun b o hb q => b3.extBut _ _ (ne2 hb (Ne.symm F4.e) F4.v2) (b2.extBut _ _ (ne2 hb (Ne.symm F4.f) F4.v3) (b1.extBut _ _ (ne2 hb (Ne.symm F4.c) F4.v1) q))
  refine wpAny_bind (R.item A n y _ _ _ hy r3 fun g4 r4 b4 => wpAny_pure ?_)
  have t4 : IsPair g4 TO x b := b4.extBut _ _ F4.e t3'
  refine wpAny_bind (wpAny_seqItems t4 rfl (wpAny_bind (wpAny_updateSeq_pair t4 fun g5 t5 b5 => wpAny_bind (wpAny_letGo (wpAny_pure ?_)))))
  have t5' : IsPair g5 TO x y := t5
  dsimp only
  rw [List.forIn_nil]
  refine wpAny_pure ?_
  refine wpAny_bind (wpAny_seqItems t5' rfl (wpAny_bind (wpAny_newTuple ?_)))
  have z5 : IsZip g5 z TI TO .ellipsis := b5.extBut _ _ F4.a (b4.extBut _ _ F4.c (b3.extBut _ _ F4.a (b2.extBut _ _ F4.b z1')))
  have sz : g5.objs.size = s.heap.objs.size := by rw [b5.1, b4.1, b3.1, b2.1, b1.1]
  have all5 : But z TO i j s.heap g5 := fun c o c1 c2 c3 c4 q => b5.extBut _ _ c2 (b4.extBut _ _ c4 (b3.extBut _ _ c2 (b2.extBut _ _ c3 (b1.extBut _ _ c1 q))))
  have p5 : st (n + 1) g5 := P.keep _ _ _ p2 fun b o hb q => b5.extBut _ _ (ne2 hb (Ne.symm F4.d) F4.u2) (b4.extBut _ _ (ne2 hb F4.f F4.u4) (b3.extBut _ _ (ne2 hb (Ne.symm F4.d) F4.u2) q))
  have r5 : su (n + 1) g5 := R.keep _ _ _ r4 fun b o hb q => b5.extBut _ _ (ne2 hb (Ne.symm F4.e) F4.v2) q
  -- it is handed out
  generalize hob : ({ cls := .type "tuple", dict := none, data := .seq [x, y].toArray } : Obj) = ob
  have zp : IsZip (g5.push ob) z TI TO .ellipsis := Heap.get?_push_of_some _ z5
  refine wpAny_bind (wpAny_bind (wpAny_setField_rec zp (by simp) fun g7 z7 b7 => ?_))
  have z7' : IsZip g7 z TI TO (rawInt g5.objs.size) := z7
  refine wpAny_setField_rec z7' (by simp) fun g8 z8 b8 => wpAny_pure ⟨_, rfl, ?_⟩
  have up : ∀ c o, c ≠ z → g5.get? c = some o → g8.get? c = some o := fun c o c1 q => b8.extBut _ _ c1 (b7.extBut _ _ c1 (Heap.get?_push_of_some _ q))
  have lz : z < g5.objs.size := Heap.lt_size z5
  have T8 : IsPair g8 g5.objs.size x y := b8.extBut _ _ (Nat.ne_of_gt lz) (b7.extBut _ _ (Nat.ne_of_gt lz) (by rw [← hob]; exact Heap.get?_push_size _ rfl))
  refine k g8 g5.objs.size (Nat.le_of_eq sz.symm) z8 (up _ _ F4.g (all5 _ _ F4.g F4.h F4.k F4.l hTI)) (up _ _ (Ne.symm F4.a) t5') (P.keep _ _ _ p5 fun b o hb q => up _ _ (ne2 hb (Ne.symm F4.b) F4.u1) q) (R.keep _ _ _ r5 fun b o hb q => up _ _ (ne2 hb (Ne.symm F4.c) F4.v1) q) T8 fun c o c1 c2 c3 c4 q => up _ _ c1 (all5 c o c1 c2 c3 c4 q)
end
end L2.Mr
namespace L2.Mr
open PySem PySem.Spec PyProof.Rows
section
variable {prog : Program} {w : World} {A : Around} {E : Value → Shared → Prop} {s : Shared} {z TI TO i j u v : Addr} {xs ys : List Value} {st su : Nat → Heap → Prop}
theorem zip_stop {n : Nat} {a b : Value} {Q : PySem.Fin → Shared → Prop} (hh : A.handled = none) (F4 : Four z TI TO i j u v) (P : Draws prog w i u xs st) (R : Draws prog w j v ys su) (hz : IsZip s.heap z TI TO .none) (hTI : IsPair s.heap TI (.ref i) (.ref j)) (hTO : IsPair s.heap TO a b)
    (p : st n s.heap) (r : su n s.heap) (hend : xs[n]? = none ∨ ys[n]? = none)
    (k : ∀ h' e, But z TO i j s.heap h' → (∃ o, h'.get? e = some o ∧ o.cls = .type "StopIteration") → E (.ref e) { s with heap := h' }) :
    wpAny (model prog w) A (Builtin.«zip.__next__» ⟨[.ref z], []⟩) Q E s := by
  refine wpAny_bind (wpAny_pure (wpAny_bind (wpAny_field hz rfl (x := .bool false) rfl (wpAny_bind (wpAny_field hz rfl (x := .ref TI) rfl (wpAny_bind (wpAny_seqItems hTI rfl ?_)))))))
  have fr : ∀ {Q' : Bool → Shared → Prop} {E' : Value → Shared → Prop}, Q' true s → wpAny (model prog w) A (Builtin.SmallTypes.ownedTupleIsFree (.ref z)) Q' E' s := fun q => wpAny_bind (wpAny_field hz rfl (x := .none) rfl (wpAny_pure q))
  refine wpAny_bind (fr ?_)
  rw [if_pos rfl]
  refine wpAny_bind (wpAny_rule (wpAny_bind (wpAny_field hz rfl (x := .ref TO) rfl (wpAny_bind (wpAny_setField_rec hz (by simp) fun g1 z1 b1 => ?_)))))
  have z1' : IsZip g1 z TI TO .ellipsis := z1
  have p1 : st n g1 := P.keep n _ _ p fun b o hb q => b1.extBut _ _ (ne2 hb (Ne.symm F4.b) F4.u1) q
  -- whatever stops: the mark is set back, the error goes on
  have fin : ∀ (g : Heap) (e : Addr), IsZip g z TI TO .ellipsis → But z TO i j s.heap g → (∃ o, g.get? e = some o ∧ o.cls = .type "StopIteration") →
      wpAny (model prog w) A (setField (.ref z) 0 .none) (fun _ s' => E (.ref e) s') E { s with heap := g } := fun g e zz bt ⟨o, he, hc⟩ =>
    wpAny_setField_rec zz (by simp) fun g' _ b' => k g' e (fun c u c1 c2 c3 c4 q => b'.extBut _ _ c1 (bt c u c1 c2 c3 c4 q)) ⟨o, b'.extBut _ _ (fun q => by subst q; rw [zz] at he; cases he; simp at hc) he, hc⟩
  refine wpAny_bind ?_
  show wpAny _ _ (forIn [(Value.ref i, 0), (Value.ref j, 1)] _ _) _ _ _
  rw [List.forIn_cons]
  refine wpAny_bind (wpAny_bind (wpAny_onRaise ?_))
  show wpAny _ _ (Builtin.SmallTypes.nextOf (.ref i) >>= _) _ _ _
  cases hx : xs[n]? with
  | none => exact wpAny_bind (P.done A n _ _ _ hh hx p1 fun g2 e b2 he => fin g2 e (b2 _ _ F4.b z1') (fun c u c1 _ c3 _ q => b2 _ _ c3 (b1.extBut _ _ c1 q)) he)
  | some x =>
    have hy : ys[n]? = none := by
      rcases hend with q | q
      · rw [hx] at q; cases q
      · exact q
    refine wpAny_bind (P.item A n x _ _ _ hx p1 fun g2 p2 b2 => wpAny_pure ?_)
    have t2 : IsPair g2 TO a b := b2.extBut _ _ F4.d (b1.extBut _ _ (Ne.symm F4.a) hTO)
    refine wpAny_bind (wpAny_seqItems t2 rfl (wpAny_bind (wpAny_updateSeq_pair t2 fun g3 t3 b3 => wpAny_bind (wpAny_letGo (wpAny_pure ?_)))))
    dsimp only
    rw [List.forIn_cons]
    refine wpAny_bind (wpAny_bind (wpAny_onRaise ?_))
    show wpAny _ _ (Builtin.SmallTypes.nextOf (.ref j) >>= _) _ _ _
    have r3 : su n g3 := R.keep n _ _ r fun b o hb q => b3.extBut _ _ (ne2 hb (Ne.symm F4.e) F4.v2) (b2.extBut _ _ (ne2 hb (Ne.symm F4.f) F4.v3) (b1.extBut _ _ (ne2 hb (Ne.symm F4.c) F4.v1) q))
    exact wpAny_bind (R.done A n _ _ _ hh hy r3 fun g4 e b4 he => fin g4 e (b4 _ _ F4.c (b3.extBut _ _ F4.a (b2.extBut _ _ F4.b z1'))) (fun c u c1 c2 c3 c4 q => b4 _ _ c4 (b3.extBut _ _ c2 (b2.extBut _ _ c3 (b1.extBut _ _ c1 q)))) he)
/-- the tuple iterator, by its draws -/
theorem draws_tup {it t : Addr} {items : Array Value} (hne : t ≠ it) : Draws prog w it t items.toList (fun i h => h.IsTupleIter it t i ∧ h.IsTuple t items) where
  keep := fun i h h' ⟨⟨o, e, r⟩, ⟨o2, e2, r2⟩⟩ k => ⟨⟨o, k _ _ (.inl rfl) e, r⟩, ⟨o2, k _ _ (.inr rfl) e2, r2⟩⟩
  there := fun i h ⟨⟨o, e, _, d⟩, _⟩ => ⟨o, _, e, d⟩
  item := fun A i x s Q E hx ⟨a, b⟩ k => tup_draw a b (by simpa using hx) fun h' a' sb => k h' ⟨a', b.extBut sb.extBut hne⟩ sb
  done := fun A i s Q E hh hx ⟨a, b⟩ k => tup_done hh a b (by simpa using hx) k
end
end L2.Mr
namespace L2.Mr
open PySem PySem.Spec PyProof.Rows
/-! ### zip as what is walked -/
/-- the pairs of two tuples -/
def Itz (K : PySem.W.Frag) (t u : Addr) : It :=
  ⟨fun i H => ∃ vs ws v w, SqT K H t vs ∧ SqT K H u ws ∧ vs[i]? = some v ∧ ws[i]? = some w,
   fun i H x H' => ∃ p v w, x = .ref p ∧ H p = none ∧ H' = upd H p (.tup [v, w]) ∧ (∀ vs, SqT K H t vs → vs[i]? = some v) ∧ ∀ ws, SqT K H u ws → ws[i]? = some w,
   fun i H => ∃ vs ws, SqT K H t vs ∧ SqT K H u ws ∧ (vs.length ≤ i ∨ ws.length ≤ i)⟩
/-- the records of a zip at its turn n -/
structure ZipAt (z TI TO i j t u : Addr) (n : Nat) (h : Heap) : Prop where
  zp : IsZip h z TI TO .none
  ti : IsPair h TI (.ref i) (.ref j)
  to : ∃ a b, IsPair h TO a b
  i1 : h.IsTupleIter i t n
  i2 : h.IsTupleIter j u n
section
variable {X : Cx} {pins : List (Addr × Obj)} {σ : St} {H : Hp} {s : Shared}
/-- some untracked records of ours have turned, one tuple is new -/
theorem Inv.turns {h' : Heap} {ch : List Addr} {T : Addr} {vs : List V} {its : List Value} (I : Inv X pins σ H s) (hch : ∀ b ∈ ch, FpOk X pins H b) (k : ∀ b o, b ∉ ch → s.heap.get? b = some o → h'.get? b = some o) (there : ∀ b ∈ ch, ∃ o, h'.get? b = some o)
    (hT : s.heap.objs.size ≤ T) (hv : Vals vs its) (hl : vs.length ≤ sizeLine) (tp : IsTupX h' T its.toArray) : Inv X pins σ (upd H T (.tup vs)) { s with heap := h' } := by
  have nT : H T = none := I.hok.fresh hT
  have nch : ∀ b o, H b = some o → b ∉ ch := fun b o q z => by rw [(hch b z).1] at q; cases q
  have un : Un (frs X.stack) ch H (upd H T (.tup vs)) s.heap h' :=
    ⟨fun b o q _ _ hb => k b o hb q, fun b o q _ _ hb => ⟨o.slots, k b o hb q⟩, fun b o q n _ => by rw [upd_ne (Nat.ne_of_lt (Nat.lt_of_lt_of_le (Heap.lt_size q) hT))]; exact n,
      fun b o q hb => ⟨o, k b o hb q⟩, fun b xs q => same_upd nT b _ q, fun b o u q => same_upd nT b _ q, fun b ps q => ⟨#[], by rw [same_upd nT b _ q]; simp⟩⟩
  have ok : HOk X.prog X.w (upd H T (.tup vs)) h' := fun b o q => by
    by_cases hb : b = T
    · subst hb; rw [upd_same] at q; cases q; exact ⟨hl, its, hv, tp⟩
    · rw [upd_ne hb] at q
      refine (I.hok b o q).stay (fun c v hc z => k c v ?_ z) (fun c z => same_upd nT c _ z) fun c xs z => same_upd nT c _ z
      rcases hc with rfl | hc
      · exact nch c o q
      · exact nch c _ hc
  exact I.call (g' := s.gens) (d' := s.drawn) (t' := s.toks) un ok I.bare fun b hb => let ⟨_, f1, _, f3, f4, f5⟩ := hch b hb; ⟨f3, f1, f4, f5⟩
theorem Inv.turns0 {h' : Heap} {ch : List Addr} (I : Inv X pins σ H s) (hch : ∀ b ∈ ch, FpOk X pins H b) (k : ∀ b o, b ∉ ch → s.heap.get? b = some o → h'.get? b = some o) : Inv X pins σ H { s with heap := h' } := by
  have nch : ∀ b o, H b = some o → b ∉ ch := fun b o q z => by rw [(hch b z).1] at q; cases q
  refine I.call (g' := s.gens) (d' := s.drawn) (t' := s.toks) (ch := ch) ⟨fun b o q _ _ hb => k b o hb q, fun b o q _ _ hb => ⟨o.slots, k b o hb q⟩, fun _ _ _ n _ => n, fun b o q hb => ⟨o, k b o hb q⟩, fun _ _ q => q, fun _ _ _ q => q, fun b ps q => ⟨#[], by rw [q]; simp⟩⟩ (fun b o q => ?_) I.bare fun b hb => let ⟨_, f1, _, f3, f4, f5⟩ := hch b hb; ⟨f3, f1, f4, f5⟩
  refine (I.hok b o q).stay (fun c v hc z => k c v ?_ z) (fun _ z => z) fun _ _ z => z
  rcases hc with rfl | hc
  · exact nch c o q
  · exact nch c _ hc
end
end L2.Mr
namespace L2.Mr
open PySem PySem.Spec PyProof.Rows
theorem turn_zip {P : Program} {w : World} {K : PySem.W.Frag} {elts : List Expr} {kk : Nat} {tp : Pos} {z TI TO i j t u : Addr} (F4 : Four z TI TO i j t u) (hti : t ≠ i) (huj : u ≠ j) :
    Turn P w K (.Tuple elts kk tp) (Itz K t u) [z, TI, TO, i, j] z (ZipAt z TI TO i j t u) where
  mem := by simp
  obj := fun n h st b hb => by
    obtain ⟨zp, ti, ⟨a, b', to⟩, ⟨o1, e1, _, d1⟩, ⟨o2, e2, _, d2⟩⟩ := st
    simp at hb
    rcases hb with rfl | rfl | rfl | rfl | rfl
    · exact ⟨_, zp, fun v q => by cases q⟩
    · exact ⟨_, ti, fun v q => by cases q⟩
    · exact ⟨_, to, fun v q => by cases q⟩
    · exact ⟨_, e1, fun v q => by rw [d1] at q; cases q⟩
    · exact ⟨_, e2, fun v q => by rw [d2] at q; cases q⟩
  keep := fun n h h' st k => by
    obtain ⟨zp, ti, ⟨a, b', to⟩, ⟨o1, e1, r1⟩, ⟨o2, e2, r2⟩⟩ := st
    exact ⟨k _ (by simp) _ zp, k _ (by simp) _ ti, ⟨a, b', k _ (by simp) _ to⟩, ⟨o1, k _ (by simp) _ e1, r1⟩, ⟨o2, k _ (by simp) _ e2, r2⟩⟩
  item := by
    intro X hP hw hK hc n pins s σ H E I hf st hg
    subst hP hw hK
    obtain ⟨vs, ws, v, w', hq, hr, hv, hw'⟩ := hg
    obtain ⟨its, rv, p1, z1⟩ := I.tuple hq
    obtain ⟨jts, rw', p2, z2⟩ := I.tuple hr
    obtain ⟨x, hx, rx⟩ := rv.get hv
    obtain ⟨y, hy, ry⟩ := rw'.get hw'
    obtain ⟨zp, ti, ⟨a, b, to⟩, i1, i2⟩ := st
    have hT : s.TypeIs (.ref z) "zip" := ⟨_, zp, rfl⟩
    unfold pyNext
    refine wpAny_bind (wpAny_attempt (wpAny_callSpecial?_slot (name := Str.ofString "__next__") hT F.slot_zip_next (wpAny_call_entry F.slot_zip_next hT F.entry_zip_next
      (zip_item F4 (draws_tup (items := its.toArray) hti) (draws_tup (items := jts.toArray) huj) zp ti to ⟨i1, p1⟩ ⟨i2, p2⟩ (by simpa using hx) (by simpa using hy) fun h' T hnew a1 a2 a3 a4 a5 a6 bt => wpAny_pure ⟨_, rfl, ?_⟩) (F.args_zip_next_1 _))))
    refine wpAny_letOwnedTupleGo_zip a1 fun h2 z2' sb => ?_
    have kp : ∀ b o, b ∉ [z, TI, TO, i, j] → s.heap.get? b = some o → h2.get? b = some o := fun b o hb q => by
      simp at hb
      obtain ⟨n1, n2, n3, n4, n5⟩ := hb
      exact sb.extBut _ _ n1 (bt b o n1 n3 n4 n5 q)
    have Tz : T ≠ z := Nat.ne_of_gt (Nat.lt_of_lt_of_le (Heap.lt_size zp) hnew)
    have T2 : IsPair h2 T x y := sb.extBut _ _ Tz a6
    have th : ∀ b ∈ [z, TI, TO, i, j], ∃ o, h2.get? b = some o := fun b hb => by
      obtain ⟨⟨o1, e1, _⟩, _⟩ := a4
      obtain ⟨⟨o2, e2, _⟩, _⟩ := a5
      simp at hb
      rcases hb with rfl | rfl | rfl | rfl | rfl
      · exact ⟨_, z2'⟩
      · exact ⟨_, sb.extBut _ _ F4.g a2⟩
      · exact ⟨_, sb.extBut _ _ (Ne.symm F4.a) a3⟩
      · exact ⟨_, sb.extBut _ _ (Ne.symm F4.b) e1⟩
      · exact ⟨_, sb.extBut _ _ (Ne.symm F4.c) e2⟩
    have I2 := Inv.turns (T := T) (vs := [v, w']) (its := [x, y]) I hf kp th hnew (.cons rx (.cons ry .nil)) (by show 2 ≤ sizeLine; decide) ⟨_, T2, rfl, rfl, _, rfl⟩
    have nT : H T = none := I.hok.fresh hnew
    refine ⟨.ref T, _, I2, rfl, ⟨T, v, w', rfl, nT, rfl, fun vs' h' => by rw [I.tuple_inj h' hq]; exact hv, fun ws' h' => by rw [I.tuple_inj h' hr]; exact hw'⟩, ?_, fun b hb => ?_⟩
    · exact ⟨z2', sb.extBut _ _ F4.g a2, ⟨_, _, sb.extBut _ _ (Ne.symm F4.a) a3⟩, a4.1.extBut sb.extBut (Ne.symm F4.b), a5.1.extBut sb.extBut (Ne.symm F4.c)⟩
    · obtain ⟨o, q, _⟩ : ∃ o, s.heap.get? b = some o ∧ True := by
        obtain ⟨o1, e1, _⟩ := i1
        obtain ⟨o2, e2, _⟩ := i2
        simp at hb
        rcases hb with rfl | rfl | rfl | rfl | rfl
        · exact ⟨_, zp, trivial⟩
        · exact ⟨_, ti, trivial⟩
        · exact ⟨_, to, trivial⟩
        · exact ⟨_, e1, trivial⟩
        · exact ⟨_, e2, trivial⟩
      rw [upd_ne (Nat.ne_of_lt (Nat.lt_of_lt_of_le (Heap.lt_size q) hnew))]
      exact (hf b hb).1
  done := by
    intro X hP hw hK hc n pins s σ H E I hf st hg
    subst hP hw hK
    obtain ⟨vs, ws, hq, hr, hend⟩ := hg
    obtain ⟨its, rv, p1, z1⟩ := I.tuple hq
    obtain ⟨jts, rw', p2, z2⟩ := I.tuple hr
    have l1 := rv.length
    have l2 := rw'.length
    obtain ⟨zp, ti, ⟨a, b, to⟩, i1, i2⟩ := st
    have hT : s.TypeIs (.ref z) "zip" := ⟨_, zp, rfl⟩
    unfold pyNext
    refine wpAny_bind (wpAny_attempt (wpAny_callSpecial?_slot (name := Str.ofString "__next__") hT F.slot_zip_next (wpAny_call_entry F.slot_zip_next hT F.entry_zip_next
      (zip_stop (show X.A.in1.handled = none from I.ok.hd hc) F4 (draws_tup (items := its.toArray) hti) (draws_tup (items := jts.toArray) huj) zp ti to ⟨i1, p1⟩ ⟨i2, p2⟩ (by
        rcases hend with q | q
        · exact .inl (by simp; omega)
        · exact .inr (by simp; omega)) fun h' e bt ⟨o, he, hcl⟩ => wpAny_bind (wpAny_isInstance (T := "StopIteration") (b := true) ⟨o, he, hcl⟩ isSubtype_stop (wpAny_pure ⟨rfl, ?_⟩))) (F.args_zip_next_1 _))))
    refine Inv.turns0 I hf fun b o hb q => ?_
    simp at hb
    exact bt b o hb.1 hb.2.2.1 hb.2.2.2.1 hb.2.2.2.2 q
  self := fun _ _ _ _ _ st h => wpAny_pyIter_zip st.zp h
end L2.Mr
namespace L2.Mr
open PySem PySem.Spec PyProof.Rows
/-- what a new zip leaves -/
def ZipNew (t u : Addr) (h : Heap) (z : Addr) (h' : Heap) : Prop := ∃ TI TO i j, ZipAt z TI TO i j t u 0 h' ∧ Four z TI TO i j t u ∧ (∀ b ∈ [z, TI, TO, i, j], h.objs.size ≤ b) ∧ ∀ b o, h.get? b = some o → h'.get? b = some o
theorem new_at {h h' : Heap} {o : Obj} (e : h' = h.push o) (nf : o.isFreed = false) : h'.get? h.objs.size = some o := by rw [e]; exact Heap.get?_push_size _ nf
theorem apart5 (n t u : Nat) (lt : t < n) (lu : u < n) : Four (n + 4) (n + 2) (n + 3) n (n + 1) t u := by
  have ne : ∀ {a b : Nat}, (a < b ∨ b < a) → a ≠ b := fun h => by omega
  exact ⟨ne (by omega), ne (by omega), ne (by omega), ne (by omega), ne (by omega), ne (by omega), ne (by omega), ne (by omega), ne (by omega), ne (by omega), ne (by omega), ne (by omega), ne (by omega), ne (by omega), ne (by omega), ne (by omega), ne (by omega), ne (by omega)⟩
/-- five records laid one behind the other -/
theorem five {t u : Addr} {hp h1 h2 h3 h4 h5 : Heap} {n : Nat} (hn : n = hp.objs.size) (lt : t < n) (lu : u < n)
    (e1 : h1 = hp.push { cls := .type "tuple_iterator", data := .fields #[.ref t, .int 0 0] }) (e2 : h2 = h1.push { cls := .type "tuple_iterator", data := .fields #[.ref u, .int 0 0] }) (e3 : h3 = h2.push { cls := .type "tuple", data := .seq #[.ref n, .ref (n + 1)] })
    (e4 : h4 = h3.push { cls := .type "tuple", data := .seq #[.none, .none] }) (e5 : h5 = h4.push { cls := .type "zip", data := .fields #[.none, .bool false, .bool false, .ref (n + 2), .ref (n + 3)] }) : ZipNew t u hp (n + 4) h5 := by
  have z1 : h1.objs.size = n + 1 := by rw [e1, Heap.size_push, hn]
  have z2 : h2.objs.size = n + 2 := by rw [e2, Heap.size_push, z1]
  have z3 : h3.objs.size = n + 3 := by rw [e3, Heap.size_push, z2]
  have z4 : h4.objs.size = n + 4 := by rw [e4, Heap.size_push, z3]
  have up : ∀ (h : Heap) (o : Obj) (b : Addr) (q : Obj), h.get? b = some q → (h.push o).get? b = some q := fun h o b q e => Heap.get?_push_of_some _ e
  have g1 := new_at e1 rfl
  have g2 := new_at e2 rfl
  have g3 := new_at e3 rfl
  have g4 := new_at e4 rfl
  have g5 := new_at e5 rfl
  rw [← hn] at g1
  rw [z1] at g2
  rw [z2] at g3
  rw [z3] at g4
  rw [z4] at g5
  have u2 : ∀ b q, h2.get? b = some q → h5.get? b = some q := fun b q e => by rw [e5, e4, e3]; exact up _ _ _ _ (up _ _ _ _ (up _ _ _ _ e))
  have u1 : ∀ b q, h1.get? b = some q → h5.get? b = some q := fun b q e => u2 b q (by rw [e2]; exact up _ _ _ _ e)
  have u3 : ∀ b q, h3.get? b = some q → h5.get? b = some q := fun b q e => by rw [e5, e4]; exact up _ _ _ _ (up _ _ _ _ e)
  have u4 : ∀ b q, h4.get? b = some q → h5.get? b = some q := fun b q e => by rw [e5]; exact up _ _ _ _ e
  refine ⟨n + 2, n + 3, n, n + 1, ⟨g5, u3 _ _ g3, ⟨_, _, u4 _ _ g4⟩, ⟨_, u1 _ _ g1, rfl, rfl⟩, ⟨_, u2 _ _ g2, rfl, rfl⟩⟩, ?_, ?_, fun b q e => u1 b q (by rw [e1]; exact up _ _ _ _ e)⟩
  · exact apart5 n t u lt lu
  · intro b hb
    rw [← hn]
    simp at hb
    rcases hb with rfl | rfl | rfl | rfl | rfl
    · exact Nat.le_add_right _ _
    · exact Nat.le_add_right _ _
    · exact Nat.le_add_right _ _
    · exact Nat.le_refl _
    · exact Nat.le_add_right _ _
theorem zip_made {t u : Addr} (xs ys : Array Value) : Meets (Builtin.«zip.__new__» ⟨[.type "zip", .ref t, .ref u], []⟩) (fun _ R s => s.heap.IsTuple t xs ∧ s.heap.IsTuple u ys ∧ ∀ h' z, ZipNew t u s.heap z h' → R (.ok (.ret (.ref z))) { s with heap := h' }) :=
  .of_wp fun prog w A R s h => by
    obtain ⟨ht, hu, k⟩ := h
    obtain ⟨hp, g, d, tk, os⟩ := s
    have sub := sub_zip
    have ht' : (⟨hp, g, d, tk, os⟩ : Shared).heap.IsTuple t xs := ht
    have hu' : (⟨hp.push { cls := .type "tuple_iterator", data := .fields #[.ref t, .int 0 0] }, g, d, tk, os⟩ : Shared).heap.IsTuple u ys := hu.push _
    wp_walk using wpAny_pyIter_tuple ht', wpAny_pyIter_tuple hu'
    have lt : t < hp.objs.size := by obtain ⟨o, e, _⟩ := ht; exact Heap.lt_size e
    have lu : u < hp.objs.size := by obtain ⟨o, e, _⟩ := hu; exact Heap.lt_size e
    simp only [Heap.size_push]
    refine ⟨_, rfl, k _ _ (five rfl lt lu rfl rfl rfl rfl ?_)⟩
    simp only [Heap.size_push]
    rfl
end L2.Mr
namespace L2.Mr
open PySem PySem.Spec PyProof.Rows
section
variable {X : Cx} {G : Cfg} {E : XK} {a b : Expr} {elts : List Expr} {kk : Nat} {tp p pos : Pos} {ta : TA} {ms : M (List Dv)}
def iZip (K : PySem.W.Frag) (ta : TA) : TI := fun σ H R => ta σ H fun vs H1 => ∃ t u xs ys, vs = [.ref t, .ref u] ∧ SqT K H1 t xs ∧ SqT K H1 u ys ∧ R (Itz K t u) H1
theorem b_zip : bootBuiltins "zip" = some (.type "zip") := by decide +kernel
theorem pi_zip (hg : Gl X "zip") (hm : X.mg "zip" = none) (ha : PA X [a, b] ta) (hs : starEach [a, b] X.env = [(false, eval a X.env), (false, eval b X.env)] := by rfl) (hs2 : starEach [b] X.env = [(false, eval b X.env)] := by rfl) :
    PI X (.Tuple elts kk tp) (.Call (.Name "zip" p) [a, b] [] pos) (iZip X.K ta) := by
  intro pins s σ H R I h
  refine Call_ (ld_blt I hg hm b_zip (PyProof.Rows.callWith_type1 (thn (ha pos pins s σ H _ I h) fun us s1 ⟨vs, H1, I1, r1, q1⟩ => ?_) (by rw [hs, hs2]) (by rw [hs2]; rfl)))
  obtain ⟨t, u, xs, ys, e, hq, hr, q⟩ := q1
  subst e
  obtain ⟨u1, u2, rfl, e1, e2⟩ := vals2 r1
  cases e1
  cases e2
  obtain ⟨its, rv, p1, _⟩ := I1.tuple hq
  obtain ⟨jts, rw', p2, _⟩ := I1.tuple hr
  refine callType_new F.called_zip (by decide) (F.typeCall_zip_2 _ _) (F.newCall_zip_2 _ _) (fun obj => F.args_object_init_3 obj _ _) F.entry_zip_new (zip_made its.toArray jts.toArray) ⟨p1, p2, fun h' z nz => ?_⟩
  obtain ⟨TI, TO, i, j, za, f4, fresh, kp⟩ := nz
  refine ⟨⟨_, za.zp, rfl⟩, ?_⟩
  have I2 : Inv X pins σ H1 { s1 with heap := h' } := I1.kept (t' := s1.toks) kp
  refine wpAny_pyIter_zip za.zp ⟨z, [z, TI, TO, i, j], _, _, H1, rfl, I2, turn_zip f4 f4.u3 f4.v4, za, fun b hb => I1.fpOk (fresh b hb) (I1.hok.fresh (fresh b hb)), q⟩
/-- the pairs, as data -/
def srcZ (xs ys : List Dv) : Src := srcL ((xs.zip ys).map fun q => .tup [q.1, q.2])
def zipS : List Dv → Hs → Rs Src
  | [.tup xs, .tup ys], h => .ok (srcZ xs ys) h
  | _, _ => .bad
theorem ItOk.zip {μ : Nat → Addr} {n : Nat} {H : Hp} {t u : Addr} {vs ws : List V} {xs ys : List Dv} {K : PySem.W.Frag} (e : H t = some (.tup vs)) (e' : H u = some (.tup ws)) (r : RelDL G μ n H xs vs) (r' : RelDL G μ n H ys ws) : ItOk G μ n H (srcZ xs ys) (Itz K t u) := by
  intro k μ2 h2 H2 x2 s2
  have f := x2.im t (.tup vs) trivial e
  have f' := x2.im u (.tup ws) trivial e'
  have g := RelDL.mono x2 _ _ r
  have g' := RelDL.mono x2 _ _ r'
  have hl : (srcZ xs ys).n = min xs.length ys.length := by simp [srcZ, srcL]
  constructor
  · intro hk d hd
    have hd' : ((xs.zip ys).map fun q => Dv.tup [q.1, q.2])[k]? = some d := hd
    rw [List.getElem?_map] at hd'
    cases q : (xs.zip ys)[k]? with
    | none => rw [q] at hd'; cases hd'
    | some xy =>
      rw [q] at hd'; cases hd'
      obtain ⟨qx, qy⟩ := List.getElem?_zip_eq_some.mp q
      obtain ⟨v, ev, rv⟩ := g.get qx
      obtain ⟨w', ew, rw'⟩ := g'.get qy
      refine ⟨⟨vs, ws, v, w', SqT.of f, SqT.of f', ev, ew⟩, fun x H' hy => ?_⟩
      obtain ⟨pp, v1, w1, rfl, np, rfl, a1, a2⟩ := hy
      have b1 := a1 vs (SqT.of f)
      have b2 := a2 ws (SqT.of f')
      rw [ev] at b1; rw [ew] at b2
      cases b1; cases b2
      have sm : Same H2 (upd H2 pp (.tup [v, w'])) := same_upd np
      exact ⟨sm, pp, _, rfl, upd_same, RelDL.cons (RelD.mono (Ext.same sm) _ _ rv) (RelDL.cons (RelD.mono (Ext.same sm) _ _ rw') RelDL.nil)⟩
  · intro hk _
    refine ⟨vs, ws, SqT.of f, SqT.of f', ?_⟩
    rw [g.length, g'.length, hk, hl]
    omega
theorem si_zip (hg : Gl X "zip") (hm : X.mg "zip" = none) (ha : SndA X G E [a, b] ms) (hs : starEach [a, b] X.env = [(false, eval a X.env), (false, eval b X.env)] := by rfl) (hs2 : starEach [b] X.env = [(false, eval b X.env)] := by rfl) :
    SndI X G E (.Tuple elts kk tp) (.Call (.Name "zip" p) [a, b] [] pos) (mas zipS ms) := fun hK =>
  PI.imp (pi_zip hg hm (ha hK) hs hs2) fun σ H R ⟨μ, ρ, h, rs, s, o⟩ => taOf_bind rs s o fun μ1 ds h1 vs H1 x1 rs1 s1 r1 o1 => by
    unfold zipS at o1
    split at o1
    · rename_i xs ys
      obtain ⟨v, v', rfl, rv, rv'⟩ := relDL_two r1
      obtain ⟨t, us, rfl, e, r⟩ := rv
      obtain ⟨u, ws, rfl, e', r'⟩ := rv'
      exact ⟨t, u, us, ws, rfl, SqT.of e, SqT.of e', o1.val s1 (ItOk.zip e e' r r')⟩
    · exact o1.elim
end
end L2.Mr
namespace L2.Mr
open PySem PySem.Spec PyProof.Rows PySem.W
section
variable {prog : Program} {w : World} {A : Around} {E : Value → Shared → Prop} {s : Shared} {K : Frag} {e C N : Addr} {o : Obj}
/-- the error at e against an own class N -/
theorem exc_matches {Q : Bool → Shared → Prop} (X : K.In s.heap) (he : s.heap.get? e = some o) (hc : o.cls = .ref C) (hn : subIn K (.ref N) (.type "BaseException") = some true) (ht : subIn K (.type "type") (.type "tuple") = some false) (hk : kitCls K (.ref N) (.ref N) = some true) {b : Bool} (hs : subIn K (.ref C) (.ref N) = some b) (q : Q b s) :
    wpAny (model prog w) A (excMatches (.ref e) (.ref N)) Q E s := by
  have L1 := (kit_cls (M := model prog w) X hk).1
  have L2 := (kit_cls (M := model prog w) X hk).2.1
  have L3 := looks_subIn (M := model prog w) X hn
  have L4 := looks_subIn (M := model prog w) X hs
  have L5 := looks_subIn (M := model prog w) X ht
  obtain ⟨hp, g, d, tk, os⟩ := s
  unfold excMatches
  repeat (any_goals (first | assumption | (with_reducible refine wpAny_loadPart_at he ?_; rw [hc]) | with_reducible refine L1.at ?_ | with_reducible refine L2.at ?_ | with_reducible refine L3.at ?_ | with_reducible refine L4.at ?_ | with_reducible refine L5.at ?_ | wp_step))
  cases b
  all_goals (repeat (any_goals (first | assumption | wp_step)))
end
end L2.Mr
/-! A lambda without parameters: its object, its context, its run by the mirror of its body. -/
namespace L2.Mr
open PySem PySem.Spec PyProof.Rows
def cxLam (P : Program) (w : World) (K : PySem.W.Frag) (mg : Str → Option Value) (base : Heap) (N : List Str) (qual : Str) (scope : Scope) (f : Addr) (cd : Value) (cl : List (Str × Addr)) (A : Around) (outer : List Env) (s : Shared) (H : Hp) (E : XK) : Cx where
  prog := P
  w := w
  K := K
  mg := mg
  base := base
  A := A.deeper (PySem.W.envX qual scope s.heap.objs.size f cd cl)
  N := N
  s₀ := s
  H₀ := H
  env := PySem.W.envX qual scope s.heap.objs.size f cd cl
  outer := outer
  stack := PySem.W.envX qual scope s.heap.objs.size f cd cl :: outer
  ex := []
  calm := true
  fn := fun _ => false
  pn := []
  xe := fun e s' => wpAny (model P w) (A.deeper (PySem.W.envX qual scope s.heap.objs.size f cd cl)) (leaving (PySem.W.envX qual scope s.heap.objs.size f cd cl) e) (fun _ s'' => CXm P w base outer H s E e s'') (fun e' s'' => CXm P w base outer H s E e' s'') s'
structure LamScope (N : List Str) (sc : Scope) : Prop where
  kind : sc.kind = .function
  co : sc.isCoroutine = false
  gen : sc.isGenerator = false
  nocell : ∀ x ∈ sc.names, x.2 ≠ .cell
  fr : ∀ x ∈ N, sc.names.lookup x = some .free
  all : ∀ x ∈ sc.names, x.2 = .free → x.1 ∈ N
/-- the closure at f: its text, its code, its cells and what stands in them -/
structure LamAt (G : Cfg) (base : Heap) (H : Hp) (μ : Nat → Addr) (n : Nat) (N : List Str) (params : Arguments) (body : Expr) (scope : Scope) (f c' : Addr) (cl : List (Str × Addr)) (ds : List Dv) : Prop where
  ob : ∃ pm ctv, H f = some (.frz (PySem.W.kla_obj "<lambda>" G.lq params body scope cl pm c' ctv) (.own 0))
  cd : ∃ oc, H c' = some (.frz oc (.own 0)) ∧ CodeQ G.lq oc
  inj : ∀ x y c, cl.lookup x = some c → cl.lookup y = some c → x = y
  len : ds.length = N.length
  at_ : ∀ (i : Nat) (x : Str), N[i]? = some x → ∃ c, cl.lookup x = some c
  cell : ∀ (x : Str) (c : Addr), cl.lookup x = some c → ∃ o u, base.get? c = some o ∧ o.data = .cell u
  val : ∀ (i : Nat) (x : Str) (c : Addr) (d : Dv), N[i]? = some x → ds[i]? = some d → cl.lookup x = some c → ∃ o u v, base.get? c = some o ∧ o.data = .cell (some u) ∧ RelV v u ∧ RelD G μ n H d v
section
variable {P : Program} {w : World} {K : PySem.W.Frag} {mg : Str → Option Value} {base : Heap} {N : List Str} {qual : Str} {scope : Scope} {f : Addr} {cdv : Value} {cl : List (Str × Addr)} {A : Around} {outer : List Env} {s0 : Shared} {H0 : Hp} {E0 : XK} {G : Cfg} {E : XK} {k : Nat}
theorem good_lam (hr : Room k (A.deeper (PySem.W.envX qual scope s0.heap.objs.size f cdv cl))) (hK : K = G.K) (hE : ∀ u H', E u none H' → E0 u none H') (hF : Firm E) :
    Good (cxLam P w K mg base N qual scope f cdv cl A outer s0 H0 E0) G E k where
  calm := rfl
  room := hr
  K := hK
  own := PassesOwn.leaving
  pas := by
    intro pins σ H s u s' I ⟨e, C, H', eu, os, bare, un, hok, fl, he⟩
    subst eu
    have I' := I.call' os un hok bare (fun b z => absurd z (by simp))
    refine wpAny_bind (note_fly (P := P) (w := w) (H := H') (base := base) I'.ok.frames I'.stack rfl hok I'.stkFree fl fun h'' H'' un2 hok2 fl2 sx => ?_)
    have I2 := I'.call (h' := h'') (g' := s'.gens) (d' := s'.drawn) (t' := s'.toks) un2 hok2 I'.bare (fun b z => absurd z (by simp))
    obtain ⟨T, a0, h1, _⟩ := id fl
    obtain ⟨T2, a2, h3, _⟩ := id fl2
    have xe1 : ExO C e T a0 s'.heap := (show ObjOk P w H' s'.heap e _ from hok e _ h1).1
    have : E (.ref e) none H'' := hF e H' H'' sx ⟨C, T, a0, T2, a2, h1, ⟨_, xe1⟩, h3⟩ he
    exact ⟨e, C, H'', rfl, I2.os, I2.bare, I2.base, hok2, fl2, hE _ _ this⟩
  rais := by
    intro pins σ H s h' e C args I mx he
    refine wpAny_bind (note_new (P := P) (w := w) (H := H) (base := base) I.ok.frames I.stack rfl I.hok I.stkFree I.bk mx fun h'' H'' un2 hok2 fl2 sm => ?_)
    have I2 := I.call (h' := h'') (g' := s.gens) (d' := s.drawn) (t' := s.toks) un2 hok2 I.bare (fun b z => absurd z (by simp))
    obtain ⟨T2, a2, h3, _⟩ := id fl2
    exact ⟨e, C, H'', rfl, I2.os, I2.bare, I2.base, hok2, fl2, hE _ _ (he H'' sm ⟨T2, a2, h3⟩)⟩
end
def exOf {α : Type} : Rs α → Sr
  | .ex c h => .ex c h
  | _ => .bad
section
variable {P : Program} {w : World} {K : PySem.W.Frag} {mg : Str → Option Value} {base : Heap} {N : List Str} {params : Arguments} {body : Expr} {scope : Scope} {f c' : Addr} {cl : List (Str × Addr)} {A : Around} {outer : List Env} {s : Shared} {H : Hp} {E : XK} {G : Cfg} {k : Nat} {μ : Nat → Addr} {h : Hs} {ds : List Dv}
theorem inv_lam {h1 : Heap} {tk : Nat} {σ : St} {E₀ : XK} (S : LamScope N scope) (hd : A.handled = none) (e0 : Env0 P w K mg base A outer s H) (L : LamAt G base H μ h.length N params body scope f c' cl ds)
    (hall : ∀ x c, cl.lookup x = some c → x ∈ N)
    (hns : h1.Ns s.heap.objs.size fun _ => none) (hk1 : ∀ b o, s.heap.get? b = some o → h1.get? b = some o)
    (hσ : σ.length = N.length) (hv : ∀ (i : Nat) (x : Str) (v : V), N[i]? = some x → σ[i]? = some (some v) → ∃ c o u, cl.lookup x = some c ∧ base.get? c = some o ∧ o.data = .cell (some u) ∧ RelV v u) :
    Inv (cxLam P w K mg base N G.lq scope f (.ref c') cl A outer s H E₀) [] σ H { s with heap := h1, toks := tk } := by
  have noA : ∀ b : Addr, b ∉ (cxLam P w K mg base N G.lq scope f (.ref c') cl A outer s H E₀).ex := fun b z => absurd (show b ∈ ([] : List Addr) from z) (by simp)
  have kfree : ∀ x, scope.names.lookup x = some .free → x ∈ N := fun x e => S.all _ (PySem.mem_of_lookup e) rfl
  refine ⟨⟨e0.mod, S.kind, rfl, rfl, Nat.le_refl _, L.inj, fun x hx => ?_, fun x c z => (nomatch z), fun _ => hd, Around.frames_deeper e0.frames, .inr ⟨rfl, rfl⟩, fun b z => absurd z (noA b), e0.bs, e0.bsz, fun b _ _ => noA b, fun b z => absurd z (noA b), e0.funs, e0.frf⟩,
    rfl, e0.bare, Un.kept hk1, ⟨_, hns, fun i x v h1' h2 h3 => ?_⟩, fun x c e => ?_, e0.hok.fresh (Nat.le_refl _), fun x c e => ?_, fun p hp => absurd (show p ∈ ([] : List (Addr × Obj)) from hp) (by simp), e0.hok.kept hk1, hσ⟩
  · have hx : scope.names.lookup x = some .cell ∨ scope.names.lookup x = some .free := hx
    rcases hx with hx | hx
    · exact absurd rfl (S.nocell _ (PySem.mem_of_lookup hx))
    · obtain ⟨i, hi⟩ := List.getElem?_of_mem (kfree x hx)
      exact L.at_ i x hi
  · obtain ⟨c, o, u, e1, e2, e3, r⟩ := hv i x v h1' h2
    refine ⟨u, r, .inr ⟨.inr (S.fr x (List.mem_of_getElem? h1')), c, e1, o, hk1 _ _ (e0.bs _ _ e2).1, e3⟩⟩
  · obtain ⟨o, u, e2, e3⟩ := L.cell x c e
    exact ⟨u, o, hk1 _ _ (e0.bs _ _ e2).1, e3⟩
  · obtain ⟨o, u, e2, e3⟩ := L.cell x c e
    exact (e0.bs _ _ e2).2
/-- THE CALL of a closure -/
theorem lam_run {me : M Dv} {Q : VK} (S : LamScope N scope) (hK : K = G.K) (hb : ∀ (cl : List (Str × Addr)) (pm cdv ct : Value), bindArgs (PySem.W.kla_fn "<lambda>" G.lq params body scope cl pm cdv ct) ⟨[], []⟩ = pure [])
    (hbody : ∀ (f : Addr) (cdv : Value) (cl : List (Str × Addr)) (A : Around) (outer : List Env) (s : Shared) (H : Hp) (E₀ E : XK), Good (cxLam P w K mg base N G.lq scope f cdv cl A outer s H E₀) G E k → Snd (cxLam P w K mg base N G.lq scope f cdv cl A outer s H E₀) G E body me)
    (hr : Room (k + 1) A) (e0 : Env0 P w K mg base A outer s H) (L : LamAt G base H μ h.length N params body scope f c' cl ds) (hall : ∀ x c, cl.lookup x = some c → x ∈ N) (sm : Sim G μ h H) (o : Out G E μ h.length H (me (ds.map some) h) (RelD G) Q) :
    codeAny (model P w) A (.call (.ref f) ⟨[], []⟩) (CR (CXm P w base) outer P w H s Q E) s := by
  obtain ⟨pm, ctv, ho⟩ := L.ob
  obtain ⟨oc, hc, vs, t, hcd, hq⟩ := L.cd
  have lim : s.heap.NoLimit := e0.mod.nolimit.keeps fun b o e => (e0.bs b o e).1
  have gc : s.heap.get? c' = some oc := (e0.hok c' _ hc).1
  refine PySem.W.kla_callFunE hr.depth (e0.hok f _ ho).1 rfl S.co S.gen rfl ⟨c', oc, vs, t, rfl, gc, hcd, hq⟩ ?_
  rw [hb]
  refine wpAny_pure (wpAny_newFunctionEnv S.nocell (fun x hx => absurd hx (by simp)) (fun h₁ hns hsb => ⟨lim.fresh _ hsb, ?_⟩) S.kind)
  show codeAny _ _ (.expr body (PySem.W.envX G.lq scope s.heap.objs.size f (.ref c') cl)) _ _
  have hk₁ : ∀ b o, s.heap.get? b = some o → h₁.get? b = some o := fun b o e => hsb.extBut b o (Nat.ne_of_lt (Heap.lt_size e)) (Heap.get?_push_of_some _ e)
  -- the values in the cells
  have hvs : ∀ (i : Nat), i < N.length → ∃ v : V, ∀ d, ds[i]? = some d → RelD G μ h.length H d v ∧ ∀ x, N[i]? = some x → ∃ c o u, cl.lookup x = some c ∧ base.get? c = some o ∧ o.data = .cell (some u) ∧ RelV v u := fun i hi => by
    obtain ⟨x, hx⟩ : ∃ x, N[i]? = some x := ⟨_, List.getElem?_eq_getElem hi⟩
    obtain ⟨d, hd⟩ : ∃ d, ds[i]? = some d := ⟨_, List.getElem?_eq_getElem (by rw [L.len]; exact hi)⟩
    obtain ⟨c, ec⟩ := L.at_ i x hx
    obtain ⟨oo, u, v, e1, e2, r1, r2⟩ := L.val i x c d hx hd ec
    refine ⟨v, fun d' hd' => ?_⟩
    rw [hd] at hd'; cases hd'
    refine ⟨r2, fun x' hx' => ?_⟩
    rw [hx] at hx'; cases hx'
    exact ⟨c, oo, u, ec, e1, e2, r1⟩
  have hch : ∃ vs : List V, vs.length = N.length ∧ ∀ (i : Nat) (v : V), vs[i]? = some v → ∀ d, ds[i]? = some d → RelD G μ h.length H d v ∧ ∀ x, N[i]? = some x → ∃ c o u, cl.lookup x = some c ∧ base.get? c = some o ∧ o.data = .cell (some u) ∧ RelV v u := by
    have : ∀ m, m ≤ N.length → ∃ vs : List V, vs.length = m ∧ ∀ (i : Nat) (v : V), vs[i]? = some v → ∀ d, ds[i]? = some d → RelD G μ h.length H d v ∧ ∀ x, N[i]? = some x → ∃ c o u, cl.lookup x = some c ∧ base.get? c = some o ∧ o.data = .cell (some u) ∧ RelV v u := by
      intro m
      induction m with
      | zero => exact fun _ => ⟨[], rfl, fun i v e => by simp at e⟩
      | succ m ih =>
        intro hm
        obtain ⟨vs, hl, hv⟩ := ih (by omega)
        obtain ⟨v, hv'⟩ := hvs m (by omega)
        refine ⟨vs ++ [v], by simp [hl], fun i v' e d hd => ?_⟩
        by_cases hi : i < vs.length
        · rw [List.getElem?_append_left hi] at e
          exact hv i v' e d hd
        · rw [List.getElem?_append_right (by omega)] at e
          have : i = m := by
            have := (List.getElem?_eq_some_iff.mp e).1
            simp at this; omega
          subst this
          simp [hl] at e; subst e
          exact hv' d hd
    exact this _ (Nat.le_refl _)
  obtain ⟨vs', hl, hv⟩ := hch
  have I : Inv (cxLam P w K mg base N G.lq scope f (.ref c') cl A outer s H E) [] (vs'.map some) H { s with heap := h₁, toks := s.toks + ([] : List (Str × Value)).length } := by
    refine inv_lam S hr.hd e0 L hall hns hk₁ (by simp [hl]) fun i x v h1 h2 => ?_
    have h3 : vs'[i]? = some v := by
      rw [List.getElem?_map] at h2
      cases q : vs'[i]? with
      | none => rw [q] at h2; cases h2
      | some a => rw [q] at h2; cases h2; rfl
    obtain ⟨d, hd⟩ : ∃ d, ds[i]? = some d := ⟨_, List.getElem?_eq_getElem (by rw [L.len]; exact (List.getElem?_eq_some_iff.mp h1).1)⟩
    exact (hv i v h3 d hd).2 x h1
  have rs : RelS G μ h.length H (ds.map some) (vs'.map some) := ⟨by simp [hl, L.len], fun i d e => by
    have h3 : ds[i]? = some d := by
      rw [List.getElem?_map] at e
      cases q : ds[i]? with
      | none => rw [q] at e; cases e
      | some a => rw [q] at e; cases e; rfl
    have hi : i < vs'.length := by rw [hl, ← L.len]; exact (List.getElem?_eq_some_iff.mp h3).1
    exact ⟨vs'[i], by rw [List.getElem?_map, List.getElem?_eq_getElem hi]; rfl, (hv i _ (List.getElem?_eq_getElem hi) d h3).1⟩⟩
  have gd : Good (cxLam P w K mg base N G.lq scope f (.ref c') cl A outer s H E) G (EB G μ h.length H (exOf (me (ds.map some) h))) k := good_lam (hr.deeper _) hK (fun u H' ⟨c, h', μ', er, x, s', fl⟩ => by
    cases q : me (ds.map some) h with
    | ok d hh => rw [q] at er; cases er
    | bad => rw [q] at er; cases er
    | ex c1 h1 =>
      rw [q] at er o
      cases er
      exact o μ' H' u x s' fl) firm_EB
  refine PySem.W.kla_codeExpr (wpAny_mono (hbody f (.ref c') cl A outer s H E _ gd hK [] _ (vs'.map some) H Q I ⟨μ, ds.map some, h, rs, sm, ?_⟩) (fun u s' ⟨v, H', J, rv, q⟩ => ⟨v, H', J.os, J.bare, J.base, J.hok, rv, q⟩) fun e s' hs => hs)
  cases q : me (ds.map some) h with
  | ok d hh => rw [q] at o; exact o
  | bad => rw [q] at o; exact o
  | ex c1 h1 => exact fun μ' H' u x' s' fl => ⟨c1, h1, μ', rfl, x', s', fl⟩
end
end L2.Mr
/-! try: x() / except C as e: y = e, with x a closure. -/
namespace L2.Mr
open PySem PySem.Spec PyProof.Rows
section
variable {X : Cx} {pins : List (Addr × Obj)} {σ : St} {H : Hp} {s : Shared}
/-- a plain local name goes -/
theorem inv_unbind {i : Nat} {x : Str} {h' : Heap} {tk : Nat} {m : Str → Option Value} {v : Option Value} (I : Inv X pins σ H s) (hN : X.N.Nodup) (hi : X.N[i]? = some x) (hn : s.heap.Ns X.env.locals m)
    (hl : ∀ (i : Nat) (x : Str) (v : V), X.N[i]? = some x → σ[i]? = some (some v) → Vis X.env.scope x → ∃ u, RelV v u ∧ Look X.env s.heap m x u)
    (hs : Heap.SameBut X.env.locals s.heap h') (hn' : h'.Ns X.env.locals (fun y => if y = x then v else m y)) : Inv X pins (σ.set i none) H { s with heap := h', toks := tk } := by
  have cne := I.cne
  have hok : HOk X.prog X.w H h' := fun b ob e => by
    refine (I.hok b ob e).stay (fun c w' hc q => (hs.2 c ?_).trans q) (fun _ q => q) fun _ _ q => q
    rintro rfl
    have hfree := I.free
    rcases hc with hc | hc
    · rw [← hc] at e; rw [hfree] at e; cases e
    · rw [hfree] at hc; cases hc
  refine ⟨I.ok, I.os, I.bare, ⟨fun b o e n hb hx => ?_, fun b o e n hb hx => ?_, I.base.free, fun b o e hx => ?_, I.base.tups, I.base.frzs, I.base.tbls⟩, ⟨_, hn', fun j y v' e1 e2 e3 => ?_⟩, fun y c e => ?_, I.free, I.freeC, fun p hp => ?_, hok, by simpa using I.len⟩
  · exact (hs.2 b (Nat.ne_of_lt (Nat.lt_of_lt_of_le (Heap.lt_size e) I.ok.above))).trans (I.base.keep b o e n hb hx)
  · obtain ⟨sl, e1⟩ := I.base.slot b o e n hb hx
    exact ⟨sl, (hs.2 b (Nat.ne_of_lt (Nat.lt_of_lt_of_le (Heap.lt_size e) I.ok.above))).trans e1⟩
  · obtain ⟨o', e1⟩ := I.base.there b o e hx
    exact ⟨o', (hs.2 b (Nat.ne_of_lt (Nat.lt_of_lt_of_le (Heap.lt_size e) I.ok.above))).trans e1⟩
  · by_cases hj : j = i
    · subst hj
      have hiσ : j < σ.length := by rw [I.len]; exact (List.getElem?_eq_some_iff.mp hi).1
      rw [List.getElem?_set_self hiσ] at e2
      cases e2
    · rw [List.getElem?_set_ne (Ne.symm hj)] at e2
      obtain ⟨u', r', q⟩ := hl j y v' e1 e2 e3
      refine ⟨u', r', ?_⟩
      rcases q with ⟨k, e⟩ | ⟨k, c, e, z⟩
      · refine .inl ⟨k, ?_⟩
        have : y ≠ x := fun e => hj (nodup_ix hN e1 (e ▸ hi))
        show (if y = x then v else m y) = some u'
        rw [if_neg this]; exact e
      · exact .inr ⟨k, c, e, z.sameBut hs (cne y c e)⟩
  · obtain ⟨w', z⟩ := I.cell y c e
    exact ⟨w', z.sameBut hs (cne y c e)⟩
  · obtain ⟨e, n, ne, nf, d⟩ := I.pin p hp
    exact ⟨(hs.2 p.1 ne).trans e, n, ne, nf, d⟩
/-- within an except suite -/
def cxMark (X : Cx) (e : Value) : Cx := { X with A := X.A.mark (some e), calm := false, xe := fun _ _ => False }
theorem inv_mark (e : Value) (I : Inv X pins σ H s) : Inv (cxMark X e) pins σ H s :=
  have ok := I.ok
  ⟨⟨ok.mod, ok.kind, ok.glob, ok.blt, ok.above, ok.inj, ok.has, ok.cab, fun z => (nomatch z), ok.frames, ok.stk, ok.exf, ok.bs, ok.bsz, ok.noex, ok.exfs, ok.funs, ok.frf⟩, I.os, I.bare, I.base, I.loc, I.cell, I.free, I.freeC, I.pin, I.hok, I.len⟩
theorem inv_unmark {e : Value} (ok : X.Ok) (I : Inv (cxMark X e) pins σ H s) : Inv X pins σ H s := ⟨ok, I.os, I.bare, I.base, I.loc, I.cell, I.free, I.freeC, I.pin, I.hok, I.len⟩
end
section
variable {X : Cx} {G : Cfg} {E : XK} {k : Nat} {N : List Str} {params : Arguments} {body : Expr} {scope : Scope} {me : M Dv} {ncl : Nat} {NE : Addr}
theorem try_ok {x xn en nm : Str} {p cpos epos np xp ep apos hpos tpos : Pos} {pins : List (Addr × Obj)} {σ : St} {H : Hp} {s : Shared} {D : Ends} {f c' : Addr} {cl : List (Str × Addr)} {μ : Nat → Addr} {h : Hs} {ds : List Dv}
    (hK : X.K = G.K) (hst : X.stack = X.env :: X.outer) (hfr : X.env.frame = some X.env.locals) (hnd : X.N.Nodup) (h0 : X.N[0]? = some x) (h1 : X.N[1]? = some xn) (h2 : X.N[2]? = some en) (hfn : ∀ y, X.fn y = true)
    (l0 : X.env.scope.names.lookup x = some .local) (l1 : X.env.scope.names.lookup xn = some .local) (l2 : X.env.scope.names.lookup en = some .local)
    (d0 : (x == ("__debug__" : Str)) = false) (c0 : (x == ("__classdict__" : Str)) = false) (d2 : (en == ("__debug__" : Str)) = false) (c2 : (en == ("__classdict__" : Str)) = false) (dn : (nm == ("__debug__" : Str)) = false)
    (hsw : swapsWith (.Call (.Name x p) [] [] cpos) none epos.line X.env = pure false) (hsw2 : swapsWith (.Name en ep) (some (.Name xn xp)) apos.line X.env = pure false)
    (hg : Gl X nm) (hm : X.mg nm = some (.ref NE)) (hx1 : PySem.W.subIn X.K (.ref NE) (.type "BaseException") = some true) (hx2 : PySem.W.subIn X.K (.type "type") (.type "tuple") = some false) (hx3 : PySem.W.kitCls X.K (.ref NE) (.ref NE) = some true)
    (hsub : ∀ c, c < ncl → PySem.W.subIn X.K (.ref (G.cl c)) (.ref NE) = some true)
    (S : LamScope N scope) (hb : ∀ (cl : List (Str × Addr)) (pm cdv ct : Value), bindArgs (PySem.W.kla_fn "<lambda>" G.lq params body scope cl pm cdv ct) ⟨[], []⟩ = pure [])
    (hbody : ∀ (f : Addr) (cdv : Value) (cl : List (Str × Addr)) (A : Around) (outer : List Env) (s : Shared) (H : Hp) (E₀ E : XK), Good (cxLam X.prog X.w X.K X.mg X.base N G.lq scope f cdv cl A outer s H E₀) G E k → Snd (cxLam X.prog X.w X.K X.mg X.base N G.lq scope f cdv cl A outer s H E₀) G E body me)
    (hr : Room (k + 1) X.A) (I : Inv X pins σ H s) (hσ : σ[0]? = some (some (.ref f))) (L : LamAt G X.base H μ h.length N params body scope f c' cl ds) (hall : ∀ x c, cl.lookup x = some c → x ∈ N) (sm : Sim G μ h H)
    (hD : match me (ds.map some) h with
      | .ok _ h1 => ∀ μ' H', Ext μ h.length H μ' h1.length H' → Sim G μ' h1 H' → D.nx σ H'
      | .ex c h1 => c < ncl ∧ ∀ μ' H' a, Ext μ h.length H μ' h1.length H' → Sim G μ' h1 H' → RelD G μ' h1.length H' (.exc c) (.ref a) → D.nx (((σ.set 2 (some (.ref a))).set 1 (some (.ref a))).set 2 none) H'
      | .bad => False) :
    wpAny (model X.prog X.w) X.A (exec (.Try [.Expr (.Call (.Name x p) [] [] cpos) epos] [.ExceptHandler (some (.Name nm np)) (some en) [.Assign [.Name xn xp] (.Name en ep) apos] hpos] [] [] tpos) X.env) (SP X pins D) X.xe s := by
  have hcls : (X.env.scope.kind == .class || (X.env.scope.kind == .module && X.env.locals != X.env.globals)) = false := by rw [I.ok.kind]; rfl
  refine wpAny_Try_except ?_
  obtain ⟨pm, ctv, ho⟩ := L.ob
  refine wpAny_execs_cons (wpAny_Expr_any (wpAny_Call_Name_kw (thn (wpAny_mono (pe_var (X := X.nox) (pos := p) h0 (.inl l0) d0 c0 pins s σ H (fun v H' => v = .ref f ∧ H' = H) (I.wish _) ⟨_, hσ, rfl, rfl⟩) (fun _ _ q => q) fun _ _ z => False.elim z) fun u s1 ⟨v, H', I', r, e1, e2⟩ => ?_)) I.quiet hsw)
  subst e1; subst e2
  cases r
  have I1 : Inv X pins σ H' s1 := I'.unwish
  refine PySem.W.callWith_F0 ⟨_, _, _, _, (I1.hok f _ ho).1⟩ ?_
  refine wpAny_call (codeAny_mono (lam_run (E := EB G μ h.length H' (exOf (me (ds.map some) h))) (Q := fun _ H2 => ∃ d hh μ', me (ds.map some) h = .ok d hh ∧ Ext μ h.length H' μ' hh.length H2 ∧ Sim G μ' hh H2) S hK hb hbody hr I1.env0 L hall sm ?_) fun r s' hq => ?_)
  · cases q : me (ds.map some) h with
    | ok d hh => exact fun μ' H' v x' s' _ => ⟨d, hh, μ', rfl, x', s'⟩
    | bad => rw [q] at hD; exact hD.elim
    | ex c1 h1 => exact fun μ' H' u x' s' fl => ⟨c1, h1, μ', rfl, x', s', fl⟩
  cases r with
  | ok fl =>
    cases fl with
    | ret u =>
      obtain ⟨v, H2, I2, r2, d, hh, μ', e1, x1, s1⟩ := I1.after hq
      refine wpAny_execs_nil (wpAny_execs_nil ?_)
      rw [e1] at hD
      exact ⟨σ, H2, I2, hD μ' H2 x1 s1⟩
    | next => exact False.elim hq
    | brk => exact False.elim hq
    | cont => exact False.elim hq
  | error ev =>
    obtain ⟨e, C, H2, rfl, os, bare, un, hok, fl, c, hh, μ', er, x1, sm1, e', φ, eu, g1, g2⟩ := hq
    cases eu
    cases qm : me (ds.map some) h with
    | ok d h3 => rw [qm] at er; cases er
    | bad => rw [qm] at er; cases er
    | ex c3 h3 =>
    rw [qm] at er hD
    cases er
    obtain ⟨hc, hD⟩ := hD
    have I2 : Inv X pins σ H2 s' := I1.call' os un hok bare (fun b z => absurd z (by simp))
    refine note_fly (P := X.prog) (w := X.w) (H := H2) (base := X.base) (env := X.env) (outer := X.outer) (by rw [← hst]; exact I2.ok.frames) (by rw [← hst]; exact I2.stack) hfr hok (by rw [← hst]; exact I2.stkFree) fl fun h4 H4 un4 hok4 fl4 sx4 => ?_
    have I4 : Inv X pins σ H4 { s' with heap := h4 } := I2.call (h' := h4) (g' := s'.gens) (d' := s'.drawn) (t' := s'.toks) (by rw [hst]; exact un4) hok4 I2.bare (fun b z => absurd z (by simp))
    obtain ⟨sm4, x4⟩ := sm1.sameX sx4 ⟨_, g1⟩
    -- the class of the error
    obtain ⟨T, a0, w1, w2, w3, w4⟩ := id fl4
    obtain ⟨T0, b0, v1, _, _, _⟩ := id fl
    have hC : C = .ref (G.cl c) := by
      have xo : ExO C e T0 b0 s'.heap := (show ObjOk X.prog X.w H2 s'.heap e _ from hok e _ v1).1
      rw [v1] at g1; cases g1
      obtain ⟨oo, q1, q2⟩ := g2 _ xo
      obtain ⟨o2, vs2, q3, q4, _⟩ := xo
      rw [q3] at q1; cases q1
      rw [← q4, q2]
    subst hC
    have xo4 : ExO (.ref (G.cl c)) e T a0 h4 := (show ObjOk X.prog X.w H4 h4 e _ from hok4 e _ w1).1
    obtain ⟨oe, vs, y1, y2, y3, y4, y5, y6⟩ := id xo4
    -- the test
    refine wpAny_handleBy_cons (codeAny_handlers_test (wpAny_mono (ld_glob (X := cxMark X (.ref e)) (E := fun _ _ => False) (Q := fun u s5 => u = .ref NE ∧ Inv X pins σ H4 s5 ∧ s5.heap = h4) (inv_mark _ I4) hg hm ⟨rfl, I4, rfl⟩ dn) (fun cv s5 hs5 => ?_) fun _ _ z => False.elim z)) (by intro z; cases z)
    obtain ⟨rfl, I5, e5⟩ := hs5
    refine exc_matches (K := X.K) I5.kIn (by rw [e5]; exact y1) y2 hx1 hx2 hx3 (hsub c hc) ?_
    -- the suite
    obtain ⟨oT, ts, z1, z2, z3⟩ : TbO T h4 := (show ObjOk X.prog X.w H4 h4 T _ from hok4 T _ w2).1
    have l3 : 3 < ts.size := (Array.getElem?_eq_some_iff.mp z3).1
    refine codeAny_handlers_suite_as (land (e := e) (T := T) (by rw [e5]; exact y1) y3 y5 (by rw [e5]; exact z1) z2 l3 fun h6 sb6 tb6 => ?_)
    rw [e5] at sb6
    have ge6 : h6.get? e = some oe := sb6.extBut _ _ (Ne.symm w4) y1
    have I6 : Inv X pins σ (upd H4 T (.ext (TbO T))) { s5 with heap := h6 } := I5.write (x := T) (e := T) (o := .ext (TbO T)) (h' := h6) (t' := s5.toks) (by rw [w2]; trivial) (.inl rfl) (fun b u hb q => by rw [e5] at q; exact sb6.extBut _ _ hb q) (let ⟨oo, _, q, _⟩ := tb6; ⟨oo, q⟩) (ok_tbO tb6)
    have se : Same H4 (upd H4 T (.ext (TbO T))) := fun b o q => by
      by_cases hb : b = T
      · subst hb; rw [w2] at q; cases q; exact upd_same
      · rw [upd_ne hb]; exact q
    have w1' : (upd H4 T (.ext (TbO T))) e = some (.ext (ExO (.ref (G.cl c)) e T a0)) := se _ _ w1
    have I7 : Inv X pins σ (upd (upd H4 T (.ext (TbO T))) e (.frz oe (.own 0))) { s5 with heap := h6 } := I6.write (x := e) (e := e) (o := .frz oe (.own 0)) (h' := h6) (t' := s5.toks) (by rw [w1']; trivial) (.inl rfl) (fun b u hb q => q) ⟨_, ge6⟩ ⟨ge6, oe, ge6⟩
    have sx7 : SameX e (upd H4 T (.ext (TbO T))) (upd (upd H4 T (.ext (TbO T))) e (.frz oe (.own 0))) := fun b o hb q => by rw [upd_ne hb]; exact q
    obtain ⟨sm7, x7⟩ := (sm4.same se).sameX sx7 ⟨_, w1'⟩
    have xx : Ext μ h.length H' μ' hh.length (upd (upd H4 T (.ext (TbO T))) e (.frz oe (.own 0))) := x1.trans ((x4 _).trans ((Ext.same se).trans (x7 _)))
    generalize hH7 : upd (upd H4 T (.ext (TbO T))) e (.frz oe (.own 0)) = H7 at *
    have rl : RelD G μ' hh.length H7 (.exc c) (.ref e) := by
      rw [RelD, ← hH7]
      exact ⟨e, oe, .own 0, rfl, upd_same, y2, y6, vs, y3⟩
    refine store_ok (v := .ref e) I7 hnd h2 (.inl l2) rfl (fun s8 I8 => ?_) (.inr l2)
    have I8' : Inv (cxMark X (.ref e)) pins (σ.set 2 (some (.ref e))) H7 s8 := inv_mark _ I8
    have hlen : 2 < σ.length := by rw [I.len]; exact (List.getElem?_eq_some_iff.mp h2).1
    refine wpAny_mono (pss_one (ps_set (X := cxMark X (.ref e)) (i := 1) (pos := apos) (pos' := xp) hnd h1 (.inl l1) (pe_var (X := cxMark X (.ref e)) (pos := ep) h2 (.inl l2) d2 c2) hsw2 (.inr l1)) pins s8 (σ.set 2 (some (.ref e))) H7 { nx := fun σ' H' => σ' = (σ.set 2 (some (.ref e))).set 1 (some (.ref e)) ∧ H' = H7, rt := fun _ _ => False } I8' ⟨.ref e, List.getElem?_set_self hlen, rfl, rfl⟩) (fun fl9 s9 hs9 => ?_) fun _ _ z => False.elim z
    cases fl9 with
    | ret u => obtain ⟨_, _, _, _, _, z⟩ := hs9; exact z.elim
    | brk => obtain ⟨_, _, _, z⟩ := hs9; exact z.elim
    | cont => obtain ⟨_, _, _, z⟩ := hs9; exact z.elim
    | next =>
      obtain ⟨σ9, H9, I9, e9, f9⟩ := hs9
      subst e9; subst f9
      have I9' : Inv X pins _ H9 s9 := inv_unmark I8.ok I9
      obtain ⟨m, hn, hl⟩ := id I9'.loc
      refine wpAny_nameGoes_keeps l2 hn hcls fun h10 v10 hn10 hs10 => ?_
      exact ⟨_, H9, inv_unbind I9' hnd h2 hn hl hs10 hn10, hD μ' H9 e xx sm7 rl⟩
end
end L2.Mr
/-! A def that calls a closure within a try and tells what came. -/
namespace L2.Mr
open PySem PySem.Spec PyProof.Rows
def endOfN : Sr → Rs Dv
  | .rt d h => .ok d h
  | .nx _ h => .ok .non h
  | _ => .bad
def refEv (n : Nat) (d : Dv) : Ev := none :: some d :: List.replicate (n - 2) none
def refM (n ncl : Nat) (mb : MS) : Rs Dv → Rs Dv
  | .ok _ h1 => endOfN (mb (refEv n .non) h1)
  | .ex c h1 => if c < ncl then endOfN (mb (refEv n (.exc c)) h1) else .bad
  | .bad => .bad
def spRef (G : Cfg) (base : Heap) (Nl : List Str) (params : Arguments) (body : Expr) (scope : Scope) (me : M Dv) (n ncl : Nat) (mb : MS) : Sp := fun vs H Q E =>
  ∃ f c' cl ds μ h, vs = [.ref f] ∧ LamAt G base H μ h.length Nl params body scope f c' cl ds ∧ (∀ x c, cl.lookup x = some c → x ∈ Nl) ∧ Sim G μ h H ∧ Out G E μ h.length H (refM n ncl mb (me (ds.map some) h)) (RelD G) Q
theorem endOfN_out {G : Cfg} {E : XK} {μ μ1 : Nat → Addr} {n n1 : Nat} {H H1 : Hp} {r : Sr} {Q : VK} (o : Out G E μ n H (endOfN r) (RelD G) Q) (x : Ext μ n H μ1 n1 H1) : SOut G (fun _ _ _ => False) μ1 n1 H1 r { nx := fun _ H' => Q .non H', rt := Q } := by
  cases r with
  | nx ρ h' => exact fun μ' H' σ' y s _ => o μ' H' .non (x.trans y) s rfl
  | rt d h' => exact fun μ' H' v y s r => o μ' H' v (x.trans y) s r
  | bk ρ h' => exact o.elim
  | ct ρ h' => exact o.elim
  | ex c h' => exact o.elim
  | bad => exact o
theorem relS_ref {G : Cfg} {μ : Nat → Addr} {n : Nat} {H : Hp} {m : Nat} {d : Dv} {v : V} {σ : St} (hl : σ.length = m) (hm : 2 ≤ m) (h1 : σ[1]? = some (some v)) (r : RelD G μ n H d v) : RelS G μ n H (refEv m d) σ := by
  refine ⟨by simp [refEv, hl]; omega, fun i d' e => ?_⟩
  unfold refEv at e
  match i, e with
  | 0, e => simp at e
  | 1, e => simp at e; subst e; exact ⟨v, h1, r⟩
  | i + 2, e =>
    simp only [List.getElem?_cons_succ, List.getElem?_replicate] at e
    split at e <;> cases e
section
variable {P : Program} {w : World} {K : PySem.W.Frag} {mg : Str → Option Value} {base : Heap} {f : Addr} {G : Cfg} {k : Nat} {Nm Nl : List Str} {params : Arguments} {body : Expr} {scope : Scope} {me : M Dv} {ncl : Nat} {NE : Addr} {mb : MS}
theorem fn_ref {x xn en nm q qual : Str} {st : Stmt} {fd : FuncData} {p cpos epos np xp ep apos hpos tpos zpos zp npos : Pos} {j : Nat} {rest : List Stmt} (Fn : Fun K q qual st f fd) (S : FnScope Nm [x] (defScope st)) (hK : K = G.K)
    (hdef : defBody st = .Assign [.Name xn zp] (.Constant .none j npos) zpos :: .Try [.Expr (.Call (.Name x p) [] [] cpos) epos] [.ExceptHandler (some (.Name nm np)) (some en) [.Assign [.Name xn xp] (.Name en ep) apos] hpos] [] [] tpos :: rest)
    (h0 : Nm[0]? = some x) (h1 : Nm[1]? = some xn) (h2 : Nm[2]? = some en)
    (l0 : (defScope st).names.lookup x = some .local) (l1 : (defScope st).names.lookup xn = some .local) (l2 : (defScope st).names.lookup en = some .local)
    (d0 : (x == ("__debug__" : Str)) = false) (c0 : (x == ("__classdict__" : Str)) = false) (d2 : (en == ("__debug__" : Str)) = false) (c2 : (en == ("__classdict__" : Str)) = false) (dn : (nm == ("__debug__" : Str)) = false)
    (hsw : ∀ L cd, swapsWith (.Call (.Name x p) [] [] cpos) none epos.line (envOfC qual (defScope st) L f cd) = pure false) (hsw2 : ∀ L cd, swapsWith (.Name en ep) (some (.Name xn xp)) apos.line (envOfC qual (defScope st) L f cd) = pure false)
    (hsw3 : ∀ L cd, swapsWith (.Constant .none j npos) (some (.Name xn zp)) zpos.line (envOfC qual (defScope st) L f cd) = pure false)
    (hg : (defScope st).names.lookup nm = some .globalImplicit) (hm : mg nm = some (.ref NE)) (hx1 : PySem.W.subIn K (.ref NE) (.type "BaseException") = some true) (hx2 : PySem.W.subIn K (.type "type") (.type "tuple") = some false) (hx3 : PySem.W.kitCls K (.ref NE) (.ref NE) = some true)
    (hsub : ∀ c, c < ncl → PySem.W.subIn K (.ref (G.cl c)) (.ref NE) = some true)
    (LS : LamScope Nl scope) (hb : ∀ (cl : List (Str × Addr)) (pm cdv ct : Value), bindArgs (PySem.W.kla_fn "<lambda>" G.lq params body scope cl pm cdv ct) ⟨[], []⟩ = pure [])
    (hbody : ∀ (f : Addr) (cdv : Value) (cl : List (Str × Addr)) (A : Around) (outer : List Env) (s : Shared) (H : Hp) (E₀ E : XK), Good (cxLam P w K mg base Nl G.lq scope f cdv cl A outer s H E₀) G E k → Snd (cxLam P w K mg base Nl G.lq scope f cdv cl A outer s H E₀) G E body me)
    (hrest : ∀ (cdv : Value) (A : Around) (outer : List Env) (s : Shared) (H : Hp) (E₀ E : XK), Good (cxOf (CXm P w base) P w K mg base Nm qual (defScope st) f cdv A outer s H E₀) G E (k + 1) → SndSs (cxOf (CXm P w base) P w K mg base Nm qual (defScope st) f cdv A outer s H E₀) G E rest mb) :
    FnOk P w K mg base (CXm P w base) (k + 2) f fd [x] (spRef G base Nl params body scope me Nm.length ncl mb) := by
  obtain ⟨oc, od, kV, doc, pm, an, cdv, ct, osl, rfl, lk, hcd⟩ := Fn.ex
  have hNl : 2 < Nm.length := (List.getElem?_eq_some_iff.mp h2).1
  refine fn_of lk hcd S (fun vs H Q E ⟨f, c', cl, ds, μ, h, e, _⟩ => by rw [e]; rfl) fun A outer s H vs Q E hr hsp => ?_
  obtain ⟨fl, c', cl, ds, μ, h, rfl, L, hall, sm, o⟩ := hsp
  refine ⟨fun D σ H1 => σ = start Nm [.ref fl] ∧ H1 = H ∧ D = { nx := fun _ H' => Q .non H', rt := Q }, ?_, rfl, rfl, rfl⟩
  intro pins s1 σ H1 D I ⟨eσ, eH, eD⟩
  subst eH
  have hσl : σ.length = Nm.length := I.len
  have hσ0 : σ[0]? = some (some (.ref fl)) := by rw [eσ]; rfl
  rw [hdef]
  have gd : Good (cxOf (CXm P w base) P w K mg base Nm qual (defScope st) f cdv A outer s H1 E) G (fun _ _ _ => False) (k + 1) := good_cx hr hK (fun _ _ z => z.elim) (fun _ _ _ _ _ z => z)
  have hset : (σ.set 1 (some .non))[0]? = some (some (.ref fl)) := by rw [List.getElem?_set_ne (by decide)]; exact hσ0
  refine wpAny_execs_cons (thn (ps_set (X := cxOf (CXm P w base) P w K mg base Nm qual (defScope st) f cdv A outer s H1 E) (i := 1) (pos := zpos) (pos' := zp) S.nd h1 (.inl l1) (pe_non (j := j) (pos := npos)) (hsw3 _ _) (.inl rfl) pins s1 σ H1 { nx := fun σ' H' => σ' = σ.set 1 (some .non) ∧ H' = H1, rt := fun _ _ => False } I ⟨rfl, rfl⟩) fun fl2 s2 q2 => ?_)
  cases fl2 with
  | ret u => obtain ⟨_, _, _, _, _, z⟩ := q2; exact z.elim
  | brk => obtain ⟨_, _, _, z⟩ := q2; exact z.elim
  | cont => obtain ⟨_, _, _, z⟩ := q2; exact z.elim
  | next =>
    obtain ⟨σ2, H2, I2, e2, f2⟩ := q2
    subst e2; subst f2
    refine wpAny_execs_cons (thn (try_ok (X := cxOf (CXm P w base) P w K mg base Nm qual (defScope st) f cdv A outer s H2 E) (G := G) (N := Nl) (me := me) (ncl := ncl) (NE := NE) (k := k) (D := { nx := tsOf G (fun _ _ _ => False) mb D, rt := fun _ _ => False })
      hK rfl rfl S.nd h0 h1 h2 (fun _ => rfl) l0 l1 l2 d0 c0 d2 c2 dn (hsw _ _) (hsw2 _ _) hg hm hx1 hx2 hx3 hsub LS hb hbody hr I2 hset L hall sm ?_) fun fl3 s3 q3 => ?_)
    · cases qm : me (ds.map some) h with
      | bad => rw [qm] at o; exact o
      | ok d hh =>
        rw [qm] at o
        intro μ' H' x' s'
        refine ⟨μ', refEv Nm.length .non, hh, relS_ref (v := .non) (by rw [List.length_set]; exact hσl) (by omega) (List.getElem?_set_self (by omega)) rfl, s', ?_⟩
        rw [eD]
        exact endOfN_out o x'
      | ex c hh =>
        rw [qm] at o
        unfold refM at o
        dsimp only at o
        split at o
        · rename_i hc
          refine ⟨hc, fun μ' H' a x' s' r' => ?_⟩
          refine ⟨μ', refEv Nm.length (.exc c), hh, relS_ref (v := .ref a) (by simp only [List.length_set]; exact hσl) (by omega) ?_ r', s', ?_⟩
          · rw [List.getElem?_set_ne (by decide), List.getElem?_set_self (by simp only [List.length_set]; omega)]
          · rw [eD]
            exact endOfN_out o x'
        · exact o.elim
    · cases fl3 with
      | ret u => obtain ⟨_, _, _, _, _, z⟩ := q3; exact z.elim
      | brk => obtain ⟨_, _, _, z⟩ := q3; exact z.elim
      | cont => obtain ⟨_, _, _, z⟩ := q3; exact z.elim
      | next =>
        obtain ⟨σ3, H3, I3, q3⟩ := q3
        exact hrest cdv A outer s H2 E _ gd hK pins s3 σ3 H3 D I3 q3
end
end L2.Mr
/-! A lambda is made: its code is kept in the table of the code around it. -/
namespace L2.Mr
open PySem PySem.Spec PyProof.Rows
theorem triples_app : ∀ (l : List Value) (a b : Int) (t u : Tok) (c : Value), TriplesOk l → TriplesOk (l ++ [.int a t, .int b u, c]) := by
  intro l a b t u c h
  fun_induction TriplesOk l with
  | case1 => trivial
  | case2 x t y u z rest ih => exact ih h
  | case3 l h1 h2 => exact h.elim
theorem among_app {pos : Pos} {cv c : Value} {a b : Int} {t u : Tok} : ∀ (l : List Value), TriplesOk l → codeAmong pos (l ++ [.int a t, .int b u, c]) = some cv → codeAmong pos l = some cv ∨ cv = c := by
  intro l h
  fun_induction TriplesOk l with
  | case1 =>
    intro e
    simp only [List.nil_append, codeAmong] at e
    split at e
    · cases e; exact .inr rfl
    · cases e
  | case2 x t y u z rest ih =>
    intro e
    simp only [List.cons_append, codeAmong] at e ⊢
    split at e
    · rename_i hc; rw [if_pos hc]; exact .inl e
    · rename_i hc; rw [if_neg hc]; exact ih h e
  | case3 l h1 h2 => exact h.elim
/-- the builtins' module, in the base -/
def BMain (mg : Str → Option Value) (base : Heap) : Prop := ∃ bm ob, mg "__builtins__" = some (.ref bm) ∧ bm ≠ builtinsNs ∧ base.get? bm = some ob ∧ ob.cls = .type "module" ∧ ob.dict = some builtinsNs ∧ ob.data = .plain
/-- all but the tables stands as it stood -/
def SameT (H H' : Hp) : Prop := ∀ a o, (∀ ps, o ≠ .tbl ps) → H a = some o → H' a = some o
section
variable {X : Cx} {G : Cfg} {params : Arguments} {body : Expr} {scope : Scope} {lpos : Pos} {c P : Addr}
theorem pe_lam (hdef : defaultsOf params X.env = ([], [])) (hq : X.env.qual ++ "<lambda>" = G.lq) (hP : G.tab = some P) (hcode : X.env.code = .ref c) (hC : PySem.W.CodeHd X.base c P) (hB : BMain X.mg X.base)
    (hfree : ∀ x, (x, NameKind.free) ∈ scope.names → X.env.kindOf x = some .cell ∨ X.env.kindOf x = some .free) :
    PE X (.Lambda params body scope lpos) (fun σ H Q => TabOk G H ∧ ∀ f c' pm ctv oc H1, SameT H H1 → TabOk G H1 → H1 f = some (.frz (PySem.W.kla_obj "<lambda>" G.lq params body scope (closL X.env scope.names []) pm c' ctv) (.own 0)) → H1 c' = some (.frz oc (.own 0)) → CodeQ G.lq oc → Q (.ref f) H1) := by
  intro pins s σ H Q I ⟨hT, h⟩
  obtain ⟨ps, t1, t2, t3⟩ := hT P hP
  have gP : s.heap.get? P = some (PySem.W.tabObj ps) := I.hok P _ t1
  have hcl : closureFor scope X.env = pure (closL X.env scope.names []) := closureFor_eq fun x hx => I.ok.has x (hfree x hx)
  have hgs : s.heap.Ns mainGlobals X.mg := I.mod.glob.keeps I.bk
  obtain ⟨bm, ob, b1, b2, b3, b4, b5, b6⟩ := hB
  have b3' := I.bk _ _ b3
  have hgP : mainGlobals ≠ P := fun q => by
    obtain ⟨o, es, ep, e, hd, _⟩ := hgs
    rw [q, gP] at e; cases e; cases hd
  have hbP : bm ≠ P := fun q => by rw [q, gP] at b3'; cases b3'; cases b4
  have hbG : bm ≠ mainGlobals := fun q => by
    obtain ⟨o, es, ep, e, hd, _⟩ := hgs
    rw [← q, b3'] at e; cases e; rw [hd] at b6; cases b6
  have hba : s.heap.BuiltinsAt X.mg P := ⟨bm, ob, b1, b2, hbG, hbP, b3', b4, b5, b6⟩
  refine PySem.W.kla_eval hdef ?_
  rw [hq]
  cases hc : codeAmong lpos ps.toList with
  | some cv =>
    obtain ⟨c', oc, ec, h2, h3⟩ := t3 lpos cv hc
    subst ec
    refine PySem.W.kla_makeFunctionHit (mg := X.mg) hcl I.ok.glob hgs hcode (hC.keeps I.bk) gP t2 hc hba fun ctv h' tk hk hsz => ?_
    have hn : H h'.objs.size = none := I.hok.fresh hsz
    have kk : ∀ b u, s.heap.get? b = some u → (h'.push { cls := .type "function", data := .func (PySem.W.kla_fn "<lambda>" G.lq params body scope (closL X.env scope.names []) ((X.mg "__name__").getD .none) (.ref c') ctv) }).get? b = some u := fun b u q => Heap.get?_push_of_some _ (hk b u q)
    have gf := Heap.get?_push_size h' (o := PySem.W.kla_obj "<lambda>" G.lq params body scope (closL X.env scope.names []) ((X.mg "__name__").getD .none) c' ctv) rfl
    have I1 := I.laid (a := h'.objs.size) (o := .frz (PySem.W.kla_obj "<lambda>" G.lq params body scope (closL X.env scope.names []) ((X.mg "__name__").getD .none) c' ctv) (.own 0)) (t' := tk) kk hsz ⟨gf, _, gf⟩
    have sm : Same H (upd H h'.objs.size (.frz (PySem.W.kla_obj "<lambda>" G.lq params body scope (closL X.env scope.names []) ((X.mg "__name__").getD .none) c' ctv) (.own 0))) := same_upd hn
    exact ⟨.ref h'.objs.size, _, I1, rfl, h _ c' _ ctv oc _ (fun a o _ q => sm a o q) (hT.keep fun a o _ _ q => sm a o q) upd_same (sm _ _ h2) h3⟩
  | none =>
    refine PySem.W.kla_makeFunction (mg := X.mg) hcl I.ok.glob hgs hcode (hC.keeps I.bk) gP t2 hc hgP hba fun c' ctv h' tk hx hge hlt hrec htb => ?_
    obtain ⟨c₂, oc, vs, t, e2, hoc, hd, hv⟩ := hrec
    cases e2
    generalize hfo : PySem.W.kla_obj "<lambda>" G.lq params body scope (closL X.env scope.names []) ((X.mg "__name__").getD .none) c' ctv = fo
    have nfo : fo.isFreed = false := by rw [← hfo]; rfl
    have gf : (h'.push fo).get? h'.objs.size = some fo := Heap.get?_push_size h' nfo
    have goc : (h'.push fo).get? c' = some oc := Heap.get?_push_of_some _ hoc
    have gP' := Heap.get?_push_of_some fo htb
    generalize hps : ps ++ #[rawInt lpos.line, rawInt lpos.col, .ref c'] = ps' at gP'
    have lP : P < s.heap.objs.size := Heap.lt_size gP
    have kk : ∀ b u, b ≠ P → s.heap.get? b = some u → (h'.push fo).get? b = some u := fun b u hb q => Heap.get?_push_of_some _ (hx b u hb q)
    have lt0 : ∀ b u, s.heap.get? b = some u → b < s.heap.objs.size := fun b u q => Heap.lt_size q
    have nPc : P ≠ c' := Nat.ne_of_lt (Nat.lt_of_lt_of_le lP hge)
    have nPf : P ≠ h'.objs.size := Nat.ne_of_lt (Nat.lt_of_lt_of_le lP (Nat.le_trans hge (Nat.le_of_lt hlt)))
    have ncf : c' ≠ h'.objs.size := Nat.ne_of_lt hlt
    have lH : ∀ b o, H b = some o → b < s.heap.objs.size := fun b o q => I.hok.lt q
    have H1e : ∀ b, b ≠ P → b < s.heap.objs.size → upd (upd (upd H P (.tbl ps')) c' (.frz oc (.own 0))) h'.objs.size (.frz fo (.own 0)) b = H b := fun b h1 h2 => by
      rw [upd_ne (Nat.ne_of_lt (Nat.lt_of_lt_of_le h2 (Nat.le_trans hge (Nat.le_of_lt hlt)))), upd_ne (Nat.ne_of_lt (Nat.lt_of_lt_of_le h2 hge)), upd_ne h1]
    have eP : upd (upd (upd H P (.tbl ps')) c' (.frz oc (.own 0))) h'.objs.size (.frz fo (.own 0)) P = some (.tbl ps') := by rw [upd_ne nPf, upd_ne nPc, upd_same]
    have ec : upd (upd (upd H P (.tbl ps')) c' (.frz oc (.own 0))) h'.objs.size (.frz fo (.own 0)) c' = some (.frz oc (.own 0)) := by rw [upd_ne ncf, upd_same]
    have ef : upd (upd (upd H P (.tbl ps')) c' (.frz oc (.own 0))) h'.objs.size (.frz fo (.own 0)) h'.objs.size = some (.frz fo (.own 0)) := upd_same
    have cases1 : ∀ b o, upd (upd (upd H P (.tbl ps')) c' (.frz oc (.own 0))) h'.objs.size (.frz fo (.own 0)) b = some o → (b = h'.objs.size ∧ o = .frz fo (.own 0)) ∨ (b = c' ∧ o = .frz oc (.own 0)) ∨ (b = P ∧ o = .tbl ps') ∨ (b ≠ P ∧ H b = some o) := fun b o q => by
      by_cases q1 : b = h'.objs.size
      · subst q1; rw [upd_same] at q; cases q; exact .inl ⟨rfl, rfl⟩
      rw [upd_ne q1] at q
      by_cases q2 : b = c'
      · subst q2; rw [upd_same] at q; cases q; exact .inr (.inl ⟨rfl, rfl⟩)
      rw [upd_ne q2] at q
      by_cases q3 : b = P
      · subst q3; rw [upd_same] at q; cases q; exact .inr (.inr (.inl ⟨rfl, rfl⟩))
      rw [upd_ne q3] at q
      exact .inr (.inr (.inr ⟨q3, q⟩))
    generalize upd (upd (upd H P (.tbl ps')) c' (.frz oc (.own 0))) h'.objs.size (.frz fo (.own 0)) = H1 at *
    have keepO : ∀ b o, (∀ ps, o ≠ .tbl ps) → H b = some o → H1 b = some o := fun b o hn q => by
      rw [H1e b (fun z => by subst z; rw [t1] at q; cases q; exact hn _ rfl) (lH b o q)]; exact q
    have un : Un X.fs [] H H1 s.heap (h'.push fo) := by
      have nP : ∀ b, H b = none → b ≠ P := fun b n z => by subst z; rw [t1] at n; cases n
      refine ⟨fun b o q n _ _ => kk b o (nP b n) q, fun b o q n _ _ => ⟨o.slots, kk b o (nP b n) q⟩, fun b o q n _ => by rw [H1e b (nP b n) (lt0 b o q)]; exact n, fun b o q _ => ?_, fun b xs q => keepO b _ (fun _ z => by cases z) q, fun b o u q => keepO b _ (fun _ z => by cases z) q, fun b qs q => ?_⟩
      · by_cases hb : b = P
        · subst hb; exact ⟨_, gP'⟩
        · exact ⟨_, kk b o hb q⟩
      · by_cases hb : b = P
        · subst hb
          rw [t1] at q; cases q
          exact ⟨#[rawInt lpos.line, rawInt lpos.col, .ref c'], by rw [eP, hps]⟩
        · exact ⟨#[], by rw [H1e b hb (lH b _ q), q]; simp⟩
    have hok1 : HOk X.prog X.w H1 (h'.push fo) := fun b o q => by
      rcases cases1 b o q with ⟨rfl, rfl⟩ | ⟨rfl, rfl⟩ | ⟨rfl, rfl⟩ | ⟨hb, q⟩
      · exact ⟨gf, _, gf⟩
      · exact ⟨goc, _, goc⟩
      · exact gP'
      · refine (I.hok b o q).stay (fun b2 u hb2 z => kk b2 u ?_ z) (fun b2 z => keepO b2 _ (fun _ z => by cases z) z) fun b2 xs z => keepO b2 _ (fun _ z => by cases z) z
        rcases hb2 with rfl | hb2
        · exact hb
        · rintro rfl; rw [t1] at hb2; cases hb2
    have I1 : Inv X pins σ H1 { s with heap := h'.push fo, toks := tk } := I.un un hok1
    refine ⟨.ref h'.objs.size, H1, I1, rfl, h h'.objs.size c' ((X.mg "__name__").getD .none) ctv oc H1 keepO ?_ (by rw [hfo]; exact ef) ec ⟨vs, t, hd, hv⟩⟩
    intro P' eP'
    rw [hP] at eP'; cases eP'
    have hl : ps'.toList = ps.toList ++ [rawInt lpos.line, rawInt lpos.col, .ref c'] := by rw [← hps]; simp
    refine ⟨ps', eP, by rw [hl]; exact triples_app _ _ _ _ _ _ t2, fun pos cv q => ?_⟩
    rw [hl] at q
    rcases among_app _ t2 q with q | q
    · obtain ⟨a, oa, z1, z2, z3⟩ := t3 pos cv q
      exact ⟨a, oa, z1, keepO a _ (fun _ z => by cases z) z2, z3⟩
    · exact ⟨c', oc, q, ec, vs, t, hd, hv⟩
end
end L2.Mr
/-! told(lambda: ..): a closure is made and handed to the def that tells what it refused. -/
namespace L2.Mr
open PySem PySem.Spec PyProof.Rows
def capD : List Nat → Ev → Option (List Dv)
  | [], _ => some []
  | i :: r, ρ => match ρ[i]? with
    | some (some d) => (match capD r ρ with
      | some ds => some (d :: ds)
      | none => none)
    | _ => none
theorem capD_get {ρ : Ev} : ∀ {caps : List Nat} {ds : List Dv}, capD caps ρ = some ds → ds.length = caps.length ∧ ∀ (i : Nat) (d : Dv), ds[i]? = some d → ∃ j, caps[i]? = some j ∧ ρ[j]? = some (some d)
  | [], ds, e => by
    unfold capD at e; cases e
    exact ⟨rfl, fun i d e => by simp at e⟩
  | j :: r, ds, e => by
    unfold capD at e
    split at e
    · rename_i d0 h0
      split at e
      · rename_i ds0 h1
        cases e
        obtain ⟨l, k⟩ := capD_get h1
        refine ⟨by simp [l], fun i d q => ?_⟩
        cases i with
        | zero => simp at q; subst q; exact ⟨j, rfl, h0⟩
        | succ i => exact k i d (by simpa using q)
      · cases e
    · cases e
def mRef (caps : List Nat) (n ncl : Nat) (mb : MS) (me : M Dv) : M Dv := fun ρ h => match capD caps ρ with
  | some ds => refM n ncl mb (me (ds.map some) h)
  | none => .bad
/-- the base and some cells -/
def baseC (base h : Heap) (cs : List Addr) : Heap := PySem.W.hideAll h ((List.range h.objs.size).filter fun b => !((base.get? b).isSome || cs.contains b))
theorem baseC_get {base h : Heap} {cs : List Addr} {b : Addr} {o : Obj} (e : h.get? b = some o) (hb : (∃ u, base.get? b = some u) ∨ b ∈ cs) : (baseC base h cs).get? b = some o :=
  PySem.W.hideAll_get _ e fun z => by
    have := (List.mem_filter.mp z).2
    rcases hb with ⟨u, hb⟩ | hb
    · simp [hb] at this
    · simp [hb] at this
theorem of_baseC {base h : Heap} {cs : List Addr} {b : Addr} {o : Obj} (e : (baseC base h cs).get? b = some o) : h.get? b = some o ∧ ((∃ u, base.get? b = some u) ∨ b ∈ cs) := by
  have e1 := PySem.W.of_hideAll _ e
  refine ⟨e1, ?_⟩
  by_cases hb : (∃ u, base.get? b = some u) ∨ b ∈ cs
  · exact hb
  · exfalso
    have hm : b ∈ (List.range h.objs.size).filter fun b => !((base.get? b).isSome || cs.contains b) := by
      refine List.mem_filter.mpr ⟨List.mem_range.mpr (Heap.lt_size e1), ?_⟩
      cases q : base.get? b with
      | some u => exact absurd (.inl ⟨u, q⟩) hb
      | none =>
        have : b ∉ cs := fun z => hb (.inr z)
        simp [this]
    have := PySem.W.hideAll_none (h := h) _ hm
    unfold baseC at e
    rw [this] at e; cases e
theorem Out.ext {α β : Type} {G : Cfg} {E : XK} {μ μ1 : Nat → Addr} {n n1 : Nat} {H H1 : Hp} {r : Rs α} {R : (Nat → Addr) → Nat → Hp → α → β → Prop} {Q : β → Hp → Prop} (o : Out G E μ n H r R Q) (x : Ext μ n H μ1 n1 H1) : Out G E μ1 n1 H1 r R Q := by
  cases r with
  | bad => exact o
  | ex c h' => exact fun μ' H' u y => o μ' H' u (x.trans y)
  | ok d h' => exact fun μ' H' u y => o μ' H' u (x.trans y)
theorem clos_env {env : Env} {scope : Scope} {x : Str} {c : Addr} (hf : ∀ x, (x, NameKind.free) ∈ scope.names → ∃ c, env.cells.lookup x = some c) (e : (closL env scope.names []).lookup x = some c) : (x, NameKind.free) ∈ scope.names ∧ env.cells.lookup x = some c := by
  rcases closL_case _ _ e with q | ⟨q1, q2⟩
  · cases q
  · obtain ⟨c', h'⟩ := hf x q1
    rw [h'] at q2
    subst q2
    exact ⟨q1, h'⟩
section
variable {X : Cx} {G : Cfg} {E : XK} {k : Nat} {q x : Str} {p pos lpos : Pos} {params : Arguments} {body : Expr} {scope : Scope} {c P fr : Addr} {fdr : FuncData} {Nl : List Str} {me : M Dv} {n ncl j : Nat} {mb : MS} {caps : List Nat}
theorem snd_ref (g : Good X G E k) (hj : j ≤ k) (hfn : ∀ y, X.fn y = true)
    (F : ∀ base, X.K.In base → base.Ns mainGlobals X.mg → FnOk X.prog X.w X.K X.mg base (CXm X.prog X.w base) j fr fdr [x] (spRef G base Nl params body scope me n ncl mb))
    (hg : Gl X q) (hm : X.mg q = some (.ref fr)) (hk : PySem.W.keepIn X.K (.ref fr) = true) (hb : Binds X.K fdr [x] [])
    (hdef : defaultsOf params X.env = ([], [])) (hq : X.env.qual ++ "<lambda>" = G.lq) (hP : G.tab = some P) (hcode : X.env.code = .ref c) (hC : PySem.W.CodeHd X.base c P) (hB : BMain X.mg X.base)
    (LS : LamScope Nl scope) (hkind : ∀ y ∈ Nl, X.env.scope.names.lookup y = some .cell) (hcl : caps.length = Nl.length) (hcap : ∀ (i j : Nat) (y : Str), caps[i]? = some j → Nl[i]? = some y → X.N[j]? = some y)
    (hdb : (q == ("__debug__" : Str)) = false) (he : starEach [.Lambda params body scope lpos] X.env = [(false, eval (.Lambda params body scope lpos) X.env)] := by rfl) :
    Snd X G E (.Call (.Name q p) [.Lambda params body scope lpos] [] pos) (mRef caps n ncl mb me) := by
  intro hK pins s σ H Q I ⟨μ, ρ, h, rs, sm, o⟩
  unfold mRef at o
  cases hcd : capD caps ρ with
  | none => rw [hcd] at o; exact o.elim
  | some ds =>
  rw [hcd] at o
  obtain ⟨hdl, hdg⟩ := capD_get hcd
  have hfree : ∀ y, (y, NameKind.free) ∈ scope.names → X.env.kindOf y = some .cell ∨ X.env.kindOf y = some .free := fun y hy => .inl (hkind y (LS.all _ hy rfl))
  have hfc : ∀ y, (y, NameKind.free) ∈ scope.names → ∃ c, X.env.cells.lookup y = some c := fun y hy => I.ok.has y (hfree y hy)
  refine wpAny_Call_Name_kw (ld_glob I hg hm ?_ hdb)
  refine PySem.W.callWith_K (h₀ := X.base) I.ok.mod.kin hk (thn (pa_cons (pe_lam (G := G) (lpos := lpos) (body := body) hdef hq hP hcode hC hB hfree) pa_nil he pos pins s σ H
    (fun vs H1 => ∃ f c' pm ctv oc, vs = [.ref f] ∧ SameT H H1 ∧ TabOk G H1 ∧ H1 f = some (.frz (PySem.W.kla_obj "<lambda>" G.lq params body scope (closL X.env scope.names []) pm c' ctv) (.own 0)) ∧ H1 c' = some (.frz oc (.own 0)) ∧ CodeQ G.lq oc) I
    ⟨sm.tab, fun f c' pm ctv oc H1 st tb e1 e2 e3 => ⟨f, c', pm, ctv, oc, rfl, st, tb, e1, e2, e3⟩⟩) fun us s1 ⟨vs, H1, I1, r, f, c', pm, ctv, oc, ev, st, tb, e1, e2, e3⟩ => ⟨I1.kIn, ?_⟩) he rfl
  subst ev
  generalize hcs : closL X.env scope.names [] = cl at *
  -- the base with the cells
  have kb : ∀ b u, X.base.get? b = some u → (baseC X.base s1.heap (cl.map (·.2))).get? b = some u := fun b u e => baseC_get (I1.bk _ _ e) (.inl ⟨u, e⟩)
  have clc : ∀ y cc, (y, cc) ∈ cl → cl.lookup y = some cc → X.env.cells.lookup y = some cc := fun y cc _ e => (clos_env hfc (by rw [hcs]; exact e)).2
  have memc : ∀ b, b ∈ cl.map (·.2) → ∃ y, X.env.cells.lookup y = some b := fun b hb => by
    obtain ⟨⟨y, cc⟩, hm1, rfl⟩ := List.mem_map.mp hb
    have : ∀ (l : List (Str × NameKind)) (acc : List (Str × Addr)), (∀ y cc, (y, cc) ∈ acc → X.env.cells.lookup y = some cc) → (∀ y, (y, NameKind.free) ∈ l → ∃ c, X.env.cells.lookup y = some c) → ∀ y cc, (y, cc) ∈ closL X.env l acc → X.env.cells.lookup y = some cc := by
      intro l
      induction l with
      | nil => exact fun acc h1 _ => h1
      | cons a l ih =>
        obtain ⟨y0, k0⟩ := a
        intro acc h1 h2
        rw [closL]
        refine ih _ (fun y cc hm2 => ?_) fun y hy => h2 y (List.mem_cons_of_mem _ hy)
        cases hk0 : k0 == NameKind.free with
        | true =>
          rw [hk0, if_pos rfl] at hm2
          rcases List.mem_cons.mp hm2 with z | z
          · cases z
            have ek : k0 = .free := by cases k0 <;> first | rfl | cases hk0
            subst ek
            obtain ⟨c3, h3⟩ := h2 y0 (List.mem_cons_self ..)
            rw [h3]; rfl
          · exact h1 _ _ z
        | false =>
          rw [hk0, if_neg (by simp)] at hm2
          exact h1 _ _ hm2
    exact ⟨y, this scope.names [] (fun _ _ z => by cases z) hfc y cc (by rw [hcs]; exact hm1)⟩
  have M0 := I1.ok.mod
  have nsk : ∀ {a : Addr} {m : Str → Option Value}, X.base.Ns a m → (baseC X.base s1.heap (cl.map (·.2))).Ns a m := fun hn => hn.keeps kb
  have hM : Mod X.K X.mg (baseC X.base s1.heap (cl.map (·.2))) := ⟨M0.kin.keeps kb, nsk M0.glob, (let ⟨mb, a, b⟩ := M0.blt; ⟨mb, nsk a, b⟩), M0.nolimit.keeps kb⟩
  have hbs : ∀ b u, (baseC X.base s1.heap (cl.map (·.2))).get? b = some u → s1.heap.get? b = some u ∧ H1 b = none := fun b u e => by
    obtain ⟨g1, g2⟩ := of_baseC e
    refine ⟨g1, ?_⟩
    rcases g2 with ⟨u', g2⟩ | g2
    · exact (I1.bs _ _ g2).2
    · obtain ⟨y, hy⟩ := memc b g2
      exact I1.freeC y b hy
  have nbf : ∀ b ∈ frs X.stack, (baseC X.base s1.heap (cl.map (·.2))).get? b = none := fun b hb => by
    cases qq : (baseC X.base s1.heap (cl.map (·.2))).get? b with
    | none => rfl
    | some u =>
      exfalso
      obtain ⟨g1, g2⟩ := of_baseC qq
      rcases g2 with ⟨u', g2⟩ | g2
      · have := (I1.stack.mem hb).1
        rw [this] at g2; cases g2
      · obtain ⟨y, hy⟩ := memc b g2
        rcases List.mem_cons.mp (I1.stkSub b hb) with z | z
        · exact I1.cne y b hy z
        · obtain ⟨v0, ob, ho1, hd1⟩ := I1.cell y b hy
          have fm : ∀ z ∈ X.fs, z < X.s₀.heap.objs.size := fun z hz => by
            obtain ⟨_, o2, h2, _⟩ := I1.ok.funs.mem hz
            exact Heap.lt_size h2
          exact absurd (Nat.lt_of_lt_of_le (fm b z) (I1.ok.cab y b (hfn y) hy)) (Nat.lt_irrefl _)
  have hfun : s1.heap.FunFrames (baseC X.base s1.heap (cl.map (·.2))) X.stack := by
    have all : ∀ (l : List Env), (∀ b ∈ frs l, b ∈ frs X.stack) → s1.heap.FunFrames X.base l → s1.heap.FunFrames (baseC X.base s1.heap (cl.map (·.2))) l := by
      intro l
      induction l with
      | nil => intro _ _; trivial
      | cons env r ih =>
        intro hs hl
        obtain ⟨hk', ⟨L, o', hf', hn', ho', hd'⟩, hr'⟩ := hl
        have hL : L ∈ frs (env :: r) := by unfold frs; rw [List.filterMap_cons, hf']; exact List.mem_cons_self
        exact ⟨hk', ⟨L, o', hf', nbf L (hs L hL), ho', hd'⟩, ih (fun b hb => hs b (by unfold frs; rw [List.filterMap_cons, hf']; exact List.mem_cons_of_mem _ hb)) hr'⟩
    exact all X.stack (fun _ hb => hb) I1.stack
  have e0 : Env0 X.prog X.w X.K X.mg (baseC X.base s1.heap (cl.map (·.2))) X.A X.stack s1 H1 := ⟨I1.ok.frames, hM, hbs, Nat.le_of_eq (PySem.W.hideAll_size _ _), hfun, I1.stkFree, I1.hok, I1.bare⟩
  have xt : Ext μ h.length H μ h.length H1 := ⟨Nat.le_refl _, fun _ _ => rfl, fun a u im z => st a u (fun ps w => by subst w; exact im) z⟩
  have sm1 : Sim G μ h H1 := ⟨sm.inj, fun i ob z => by
    have r0 := sm.ob i ob z
    cases ob with
    | lst xs => obtain ⟨vs, z1, z2⟩ := r0; exact ⟨vs, st _ _ (fun _ w => by cases w) z1, RelDL.mono xt _ _ z2⟩, tb⟩
  have look : ∀ y cc, cl.lookup y = some cc → (y, NameKind.free) ∈ scope.names ∧ X.env.cells.lookup y = some cc := fun y cc e => clos_env hfc (by rw [hcs]; exact e)
  have memL : ∀ y cc, cl.lookup y = some cc → cc ∈ cl.map (·.2) := fun y cc e => List.mem_map.mpr ⟨(y, cc), PySem.mem_of_lookup e, rfl⟩
  have L : LamAt G (baseC X.base s1.heap (cl.map (·.2))) H1 μ h.length Nl params body scope f c' cl ds := by
    refine ⟨⟨pm, ctv, e1⟩, ⟨oc, e2, e3⟩, fun y z cc a b => I1.ok.inj y z cc (look y cc a).2 (look z cc b).2, hdl.trans hcl, fun i y hy => ?_, fun y cc e => ?_, fun i y cc d hy hd e => ?_⟩
    · have hf1 := LS.fr y (List.mem_of_getElem? hy)
      have := closL_mem (env := X.env) (x := y) scope.names [] (.inl (PySem.mem_of_lookup hf1))
      rw [hcs] at this
      exact ⟨_, this⟩
    · obtain ⟨v0, ob, ho1, hd1⟩ := I1.cell y cc (look y cc e).2
      exact ⟨ob, v0, baseC_get ho1 (.inr (memL y cc e)), hd1⟩
    · obtain ⟨jj, hjj, hρ⟩ := hdg i d hd
      obtain ⟨v, hv, rd⟩ := rs.at_ jj d hρ
      have hNj := hcap i jj y hjj hy
      have hyk := hkind y (List.mem_of_getElem? hy)
      obtain ⟨m, hn, hl⟩ := I1.loc
      obtain ⟨u, ru, lk⟩ := hl jj y v hNj hv (.inr (.inl hyk))
      rcases lk with ⟨kl, _⟩ | ⟨_, c4, ec4, ob, ho1, hd1⟩
      · have kl' : X.env.scope.names.lookup y = some .local := kl
        rw [hyk] at kl'; cases kl'
      · rw [(look y cc e).2] at ec4; cases ec4
        exact ⟨ob, u, v, baseC_get ho1 (.inr (memL y cc e)), hd1, ru, RelD.mono xt _ _ rd⟩
  have hall : ∀ y cc, cl.lookup y = some cc → y ∈ Nl := fun y cc e => LS.all _ (look y cc e).1 rfl
  have hlen : (us ++ ([] : List Value)).length = [x].length := by rw [List.append_nil, ← r.length]; rfl
  have hbt := hb s1 us I1.kIn hlen
  rw [List.append_nil] at hbt
  refine wpAny_call (codeAny_mono ((F _ hM.kin hM.glob).run X.A X.stack s1 H1 ⟨us, []⟩ us [.ref f] Q E (g.room.mono hj) e0 hbt r ⟨f, c', cl, ds, μ, h, rfl, L, hall, sm1, o.ext xt⟩) fun rr s' hq' => ?_)
  cases rr with
  | ok fl =>
    cases fl with
    | ret u => exact I1.after hq'
    | next => exact False.elim hq'
    | brk => exact False.elim hq'
    | cont => exact False.elim hq'
  | error ev =>
    obtain ⟨e, C, H', eu, os, bare, un, hok, fl, hE⟩ := hq'
    refine g.pas pins σ H1 s1 ev s' I1 ⟨e, C, H', eu, os, bare, un, hok, ?_, hE⟩
    obtain ⟨T, a0, w1, w2, w3, w4⟩ := fl
    refine ⟨T, a0, w1, w2, ?_, w4⟩
    cases qq : X.base.get? e with
    | none => rfl
    | some u => have := kb e u qq; rw [w3] at this; cases this
end
end L2.Mr
namespace L2.Mr
open PySem PySem.Spec PyProof.Rows
/-! ### in, not in -/
section
variable {X : Cx} {G : Cfg}
open Classical in
/-- is the value, as data, the same as t -/
noncomputable def isT (H : Hp) (tx : Dt) (u : Value) : Bool := decide (∃ v t, RelV v u ∧ Den Tru H t v ∧ deq t tx = true)
open Classical in
theorem isT_of {H : Hp} {tx t : Dt} {u : Value} {v : V} (r : RelV v u) (d : Den Tru H t v) : isT H tx u = deq t tx := by
  unfold isT
  cases q : deq t tx with
  | true => exact decide_eq_true ⟨v, t, r, d, q⟩
  | false =>
    refine decide_eq_false fun ⟨v', t', r', d', q'⟩ => ?_
    have e := r'.inj r
    subst e
    rw [Den.inj t' t v' d' d, q] at q'
    cases q'
theorem any_isT {H : Hp} {tx : Dt} : ∀ {ts : List Dt} {vs : List V} {us : List Value}, DenL Tru H ts vs → Vals vs us → us.any (isT H tx) = ts.any fun t => deq t tx
  | [], _, _, d, r => by rw [DenL] at d; subst d; cases r; rfl
  | t :: ts, _, _, d, r => by
    rw [DenL] at d; obtain ⟨v, rr, rfl, d1, d2⟩ := d
    cases r with
    | cons r1 r2 => rw [List.any_cons, List.any_cons, isT_of r1 d1, any_isT d2 r2]
def rInG (K : PySem.W.Frag) (neg : Bool) : R2 := fun x y H Q => ∃ a vs ts tx, y = .ref a ∧ (SqL K H a vs ∨ SqT K H a vs) ∧ DenL Tru H ts vs ∧ Den Tru H tx x ∧ (∀ t ∈ ts, dep t ≤ fuelD ∧ nod t = true) ∧ nod tx = true ∧ Q (.bl (if neg then !(ts.any fun t => deq t tx) else ts.any fun t => deq t tx)) H
theorem eq_items {pins : List (Addr × Obj)} {σ : St} {H : Hp} {s : Shared} {x : V} {v : Value} {vs : List V} {its : List Value} {ts : List Dt} {tx : Dt} (hu : X.A.units + 64 < cLine) (I : Inv X pins σ H s) (rx : RelV x v) (r : Vals vs its) (d : DenL Tru H ts vs) (dx : Den Tru H tx x)
    (ht : ∀ t ∈ ts, dep t ≤ fuelD ∧ nod t = true) (nx : nod tx = true) : ∀ y, y ∈ its.toArray → SeqAt.EqAt X.A.in1 s y v (isT H tx y) := fun y hy => by
  have hy' : y ∈ its := by simpa using hy
  obtain ⟨j, hj, e⟩ := List.mem_iff_getElem.mp hy'
  have hl := r.length
  obtain ⟨u, eu, ru⟩ := r.get (i := j) (x := vs[j]'(by omega)) (List.getElem?_eq_getElem (by omega))
  have : u = y := by rw [List.getElem?_eq_getElem hj, e] at eu; cases eu; rfl
  subst this
  obtain ⟨t, et, dt⟩ := d.get (i := j) (List.getElem?_eq_getElem (by omega : j < vs.length))
  obtain ⟨h1, h2⟩ := ht t (List.mem_of_getElem? et)
  rw [isT_of ru dt]
  exact (rcAt_D I.hok fuelD X.A.in1 t tx _ x _ v h1 (by show X.A.units + 1 + fuelD + 1 < cLine; unfold fuelD; omega) h2 nx dt dx ru rx).2
theorem op_notInG (hu : X.A.units + 64 < cLine) : OpR X (compareOp .NotIn) (rInG X.K true) := by
  intro pins s σ H x y v u Q I r1 r2 ⟨a, vs, ts, tx, e, hs, d, dx, ht, nx, q⟩
  subst e
  cases r2
  rcases hs with hs | hs
  · obtain ⟨its, r, pl, hz⟩ := I.list hs
    refine SeqAt.notIn_listAt (isT H tx) pl.isList (eq_items hu I r1 r d dx ht nx) ?_
    exact ⟨.bl _, H, I, by rw [show its.toArray.any (isT H tx) = its.any (isT H tx) by simp, any_isT d r]; rfl, q⟩
  · obtain ⟨its, r, pl, hz⟩ := I.tuple hs
    refine SeqAt.notIn_tupleAt (isT H tx) pl (eq_items hu I r1 r d dx ht nx) ?_
    exact ⟨.bl _, H, I, by rw [show its.toArray.any (isT H tx) = its.any (isT H tx) by simp, any_isT d r]; rfl, q⟩
/-- as data -/
def inD (scr : List Int) (neg : Bool) (x c : Dv) (h : Hs) : Rs Dv := match seqD scr c h with
  | some ys => match optL (pur fuelD h) ys, pur fuelD h x with
    | some ts, some tx => .ok (.bl (if neg then !(ts.any fun t => deq t tx) else ts.any fun t => deq t tx)) h
    | _, _ => .bad
  | none => .bad
theorem purL_ok {μ : Nat → Addr} {h : Hs} {H : Hp} (s : Sim G μ h H) : ∀ {xs : List Dv} {vs : List V} {ts : List Dt}, RelDL G μ h.length H xs vs → optL (pur fuelD h) xs = some ts → DenL Tru H ts vs ∧ ∀ t ∈ ts, dep t ≤ fuelD ∧ nod t = true
  | [], _, _, r, e => by cases e; rw [RelDL] at r; subst r; exact ⟨DenL.nil, fun t ht => by simp at ht⟩
  | x :: xs, _, _, r, e => by
    rw [RelDL] at r; obtain ⟨v, rr, rfl, r1, r2⟩ := r
    unfold optL at e
    cases q : pur fuelD h x with
    | none => rw [q] at e; cases e
    | some y =>
      rw [q] at e
      dsimp only at e
      cases q2 : optL (pur fuelD h) xs with
      | none => rw [q2] at e; cases e
      | some ys =>
        rw [q2] at e; cases e
        obtain ⟨a1, a2, a3⟩ := pur_ok s _ x v y r1 q
        obtain ⟨b1, b2⟩ := purL_ok s r2 q2
        refine ⟨DenL.cons a1 b1, fun t ht => ?_⟩
        rcases List.mem_cons.mp ht with rfl | ht
        · exact ⟨a2, a3⟩
        · exact b2 t ht
theorem inD_ok (neg : Bool) : OpD G (rInG G.K neg) (inD G.scr neg) := by
  intro E μ h H x y vx vy Q s rx ry o
  unfold inD at o
  cases q : seqD G.scr y h with
  | none => rw [q] at o; exact o.elim
  | some ys =>
    rw [q] at o
    dsimp only at o
    split at o
    · rename_i ts tx e1 e2
      obtain ⟨a, vs, rfl, hs, r⟩ := seqD_ok s ry q
      obtain ⟨b1, b2⟩ := purL_ok s r e1
      obtain ⟨c1, c2, c3⟩ := pur_ok s _ x vx tx rx e2
      exact ⟨a, vs, ts, tx, rfl, hs, b1, c1, b2, c3, o.val s rfl⟩
    · exact o.elim
/-! ### is, is not: None, True, False -/
end
end L2.Mr
namespace L2.Mr
open PySem PySem.Spec PyProof.Rows
section
variable {X : Cx} {G : Cfg}
theorem same_bool {M : Model} {A : Around} {E : Value → Shared → Prop} {s : Shared} {x : V} {u : Value} {b : Bool} {Q : Bool → Shared → Prop} (r : RelV x u) (q : Q (decide (x = .bl b)) s) : wpAny M A (isSame u (.bool b)) Q E s := by
  cases x with
  | non => cases r; exact wpAny_pure q
  | bl c =>
    cases r
    refine wpAny_pure ?_
    have : decide (V.bl c = V.bl b) = (Value.bool c == Value.bool b) := by cases c <;> cases b <;> rfl
    rw [this] at q
    exact q
  | int i => obtain ⟨t, rfl⟩ := r; exact wpAny_pure q
  | str i => obtain ⟨t, rfl⟩ := r; exact wpAny_pure q
  | byt i => obtain ⟨t, rfl⟩ := r; exact wpAny_pure q
  | flt i => obtain ⟨t, rfl⟩ := r; exact wpAny_pure q
  | ref a => cases r; exact wpAny_pure q
  | ty n => cases r; exact wpAny_pure q
def rIsB (neg : Bool) : R2 := fun x y H Q => ∃ b, y = .bl b ∧ Q (.bl (if neg then !decide (x = .bl b) else decide (x = .bl b))) H
theorem op_isB : OpR X (compareOp .Is) (rIsB false) := by
  intro pins s σ H x y v u Q I rx ry ⟨b, e, q⟩
  subst e
  cases ry
  exact wpAny_bind (same_bool rx (wpAny_pure ⟨.bl _, H, I, rfl, q⟩))
/-- as data: against None, True, False -/
def sameC : Dv → Dv → Option Bool
  | .non, .non => some true
  | _, .non => some false
  | .bl a, .bl b => some (a == b)
  | _, .bl _ => some false
  | _, _ => none
def isC (neg : Bool) (x y : Dv) (h : Hs) : Rs Dv := match sameC x y with
  | some b => .ok (.bl (if neg then !b else b)) h
  | none => .bad
def rIsC (neg : Bool) : R2 := fun x y H Q => (y = .non ∧ Q (.bl (if neg then !decide (x = .non) else decide (x = .non))) H) ∨ rIsB neg x y H Q
theorem op_isC : OpR X (compareOp .Is) (rIsC false) := OpR.or op_isN op_isB
theorem rel_non {μ : Nat → Addr} {n : Nat} {H : Hp} {x : Dv} {v : V} {b : Bool} (r : RelD G μ n H x v) (e : sameC x .non = some b) : decide (v = .non) = b := by
  cases x with
  | non => cases e; rw [RelD] at r; subst r; rfl
  | bl c => cases e; rw [RelD] at r; subst r; rfl
  | int c => cases e; rw [RelD] at r; subst r; rfl
  | str c => cases e; rw [RelD] at r; subst r; rfl
  | tup c => cases e; obtain ⟨a, vs, rfl, _⟩ := r; rfl
  | ref c => cases e; obtain ⟨_, rfl⟩ := r; rfl
  | edc => cases e; obtain ⟨a, rfl, _⟩ := r; rfl
  | exc c => cases e; obtain ⟨a, o, u, rfl, _⟩ := r; rfl
  | scr => cases e; obtain ⟨rfl, _⟩ := r; rfl
theorem rel_bl {μ : Nat → Addr} {n : Nat} {H : Hp} {x : Dv} {v : V} {b c : Bool} (r : RelD G μ n H x v) (e : sameC x (.bl c) = some b) : decide (v = .bl c) = b := by
  cases x with
  | non => cases e; rw [RelD] at r; subst r; rfl
  | bl d => cases e; rw [RelD] at r; subst r; cases c <;> cases d <;> rfl
  | int c => cases e; rw [RelD] at r; subst r; rfl
  | str c => cases e; rw [RelD] at r; subst r; rfl
  | tup c => cases e; obtain ⟨a, vs, rfl, _⟩ := r; rfl
  | ref c => cases e; obtain ⟨_, rfl⟩ := r; rfl
  | edc => cases e; obtain ⟨a, rfl, _⟩ := r; rfl
  | exc c => cases e; obtain ⟨a, o, u, rfl, _⟩ := r; rfl
  | scr => cases e; obtain ⟨rfl, _⟩ := r; rfl
theorem isC_ok (neg : Bool) : OpD G (rIsC neg) (isC neg) := by
  intro E μ h H x y vx vy Q s rx ry o
  unfold isC at o
  cases q : sameC x y with
  | none => rw [q] at o; exact o.elim
  | some b =>
    rw [q] at o
    cases y with
    | non => rw [RelD] at ry; exact .inl ⟨ry, by rw [rel_non rx q]; exact o.val s rfl⟩
    | bl c => rw [RelD] at ry; exact .inr ⟨c, ry, by rw [rel_bl rx q]; exact o.val s rfl⟩
    | _ => cases x <;> cases q
end
/-! ### while -/
/-- at most so many turns -/
def whileM (c : M Bool) (body : MS) : Nat → MS
  | 0 => fun _ _ => .bad
  | f + 1 => fun ρ h => (c ρ h).thenS fun b h1 => if b = true then (match body ρ h1 with
    | .nx ρ2 h2 => whileM c body f ρ2 h2
    | .ct ρ2 h2 => whileM c body f ρ2 h2
    | .bk ρ2 h2 => .nx ρ2 h2
    | r => r) else .nx ρ h1
section
variable {X : Cx} {G : Cfg} {E : XK} {c : Expr} {body : List Stmt} {mc : M Bool} {mb : MS} {pos : Pos}
theorem ss_while (n : Nat) (hp : PassesOwn (model X.prog X.w) X.A X.env X.xe) (hc : SndT X G E c mc) (hb : SndSs X G E body mb) : SndS X G E (.While c body [] pos) (whileM mc mb n) := fun hK => PS.imp (ps_while hp (hc hK) (hb hK)) fun D σ H ⟨μ, ρ, h, rs, s, o⟩ => by
  refine ⟨fun m σ H => ∃ μ ρ h, RelS G μ h.length H ρ σ ∧ Sim G μ h H ∧ SOut G E μ h.length H (whileM mc mb m ρ h) D, ⟨n, μ, ρ, h, rs, s, o⟩, ?_⟩
  rintro m σ1 H1 ⟨μ1, ρ1, h1, rs1, s1, o1⟩
  cases m with
  | zero => exact o1.elim
  | succ m =>
    refine ttOf_thenS rs1 s1 o1 fun μ2 b h2 H2 x2 rs2 s2 o2 => ?_
    cases b with
    | false => rw [if_neg (by decide)] at o2 ⊢; exact o2 μ2 H2 σ1 Ext.refl s2 rs2
    | true =>
      rw [if_pos rfl] at o2 ⊢
      refine ⟨fun σ' H' => ∃ μ ρ h, RelS G μ h.length H' ρ σ' ∧ Sim G μ h H' ∧ SOut G E μ h.length H' (whileM mc mb m ρ h) D, fun σ' H' z => ⟨m, Nat.lt_succ_self m, z⟩, μ2, ρ1, h2, rs2, s2, ?_⟩
      cases q : mb ρ1 h2 with
      | nx ρ3 h3 => rw [q] at o2; exact fun μ4 H4 σ4 x4 s4 rs4 => ⟨μ4, ρ3, h3, rs4, s4, SOut.ext o2 x4⟩
      | ct ρ3 h3 => rw [q] at o2; exact fun μ4 H4 σ4 x4 s4 rs4 => ⟨μ4, ρ3, h3, rs4, s4, SOut.ext o2 x4⟩
      | bk ρ3 h3 => rw [q] at o2; exact o2
      | rt d h3 => rw [q] at o2; exact o2
      | ex d h3 => rw [q] at o2; exact o2
      | bad => rw [q] at o2; exact o2.elim
end
end L2.Mr
namespace L2.Mr
open PySem PySem.Spec PyProof.Rows
section
variable {X : Cx} {G : Cfg} {E : XK} {e o : Expr} {mo me : M Dv} {pos apos cpos np p2 : Pos} {y : Str}
/-! ### x.pop(i) -/
/-! ### slices -/
def cutD (xs : List Dv) (lo hi : Option Int) : List Dv := (xs.drop (HT.sIx xs.length 0 lo)).take (HT.sIx xs.length xs.length hi - HT.sIx xs.length 0 lo)
def slD (x : Dv) (lo hi : Option Int) (h : Hs) : Rs Dv := match x with
  | .ref j => match getL h j with
    | some xs => .ok (.ref h.length) (h ++ [.lst (cutD xs lo hi)])
    | none => .bad
  | .tup xs => if HT.sIx xs.length 0 lo = 0 ∧ HT.sIx xs.length xs.length hi = xs.length then .bad else .ok (.tup (cutD xs lo hi)) h
  | _ => .bad
theorem cut_rel {μ : Nat → Addr} {n : Nat} {H : Hp} {xs : List Dv} {vs : List V} (r : RelDL G μ n H xs vs) (lo hi : Option Int) : RelDL G μ n H (cutD xs lo hi) (cutV vs lo hi) := by
  unfold cutD cutV
  rw [r.length]
  exact (r.drop _).take _
/-- a bound of a slice -/
abbrev MO := Ev → Hs → Rs (Option Int)
def toOf (G : Cfg) (E : XK) (m : MO) : TO := fun σ H Q => ∃ μ ρ h, RelS G μ h.length H ρ σ ∧ Sim G μ h H ∧ Out G E μ h.length H (m ρ h) (fun _ _ _ a b => b = a) Q
def SndO (X : Cx) (G : Cfg) (E : XK) (pe : Option Expr) (m : MO) : Prop := X.K = G.K → PO X pe (toOf G E m)
theorem PO.imp {pe : Option Expr} {t t' : TO} (h : PO X pe t) (i : ∀ σ H Q, t' σ H Q → t σ H Q) : PO X pe t' := fun pins s σ H Q I q => h pins s σ H Q I (i σ H Q q)
def mNoB : MO := fun _ h => .ok none h
def asI : Dv → Hs → Rs (Option Int)
  | .int i, h => .ok (some i) h
  | _, _ => .bad
def mBd (m : M Dv) : MO := fun ρ h => (m ρ h).bind asI
theorem so_none : SndO X G E none mNoB := fun _ => PO.imp po_none fun σ H Q ⟨μ, ρ, h, rs, s, oo⟩ => oo.val s rfl
theorem so_some (he : Snd X G E e me) : SndO X G E (some e) (mBd me) := fun hK => PO.imp (po_some (he hK)) fun σ H Q ⟨μ, ρ, h, rs, s, oo⟩ => tOf_bind rs s oo fun μ1 d h1 v H1 x1 rs1 s1 r1 o1 => by
  cases d with
  | int i => exact ⟨i, r1, o1.val s1 rfl⟩
  | _ => exact o1.elim
def mSl (m : M Dv) (lo hi : MO) : M Dv := fun ρ h => (m ρ h).bind fun x h1 => (lo ρ h1).bind fun l h2 => (hi ρ h2).bind fun u h3 => slD x l u h3
theorem snd_slice {lo hi : Option Expr} {ml mh : MO} (ho : Snd X G E o mo) (hl : SndO X G E lo ml) (hh : SndO X G E hi mh) : Snd X G E (.Subscript o (.Slice lo hi none p2) pos) (mSl mo ml mh) := fun hK =>
  PE.imp (pe_slice (SlR.or sl_list sl_tup) (ho hK) (hl hK) (hh hK)) fun σ H Q ⟨μ, ρ, h, rs, s, oo⟩ => tOf_bind rs s oo fun μ1 x h1 vx H1 x1 rs1 s1 r1 o1 => by
    refine ⟨μ1, ρ, h1, rs1, s1, (o1.bind (R1 := fun _ _ _ a b => b = a)).mono fun l' H2 ⟨μ2, l, h2, x2, s2, el, o2⟩ => ?_⟩
    subst el
    refine ⟨μ2, ρ, h2, rs1.mono x2, s2, (o2.bind (R1 := fun _ _ _ a b => b = a)).mono fun u' H3 ⟨μ3, u, h3, x3, s3, eu, o3⟩ => ?_⟩
    subst eu
    have r3 := RelD.mono (x2.trans x3) _ _ r1
    cases x with
    | ref j =>
      dsimp only [slD] at o3
      cases q : getL h3 j with
      | none => rw [q] at o3; exact o3.elim
      | some xs =>
        rw [q] at o3
        obtain ⟨vs, ea, ra⟩ := s3.ob j _ (getL_some q)
        obtain ⟨_, rfl⟩ := r3
        exact .inl ⟨_, vs, rfl, SqL.of ea, fun p hp => out_lst s3 (cut_rel ra _ _) hp o3⟩
    | tup xs =>
      dsimp only [slD] at o3
      split at o3
      · exact o3.elim
      · rename_i hw
        obtain ⟨a, vs, rfl, ea, ra⟩ := r3
        exact .inr ⟨a, vs, rfl, SqT.of ea, by rw [ra.length]; exact hw, fun p hp => o3 μ3 _ _ (Ext.same (same_upd hp)) (s3.same (same_upd hp)) ⟨p, _, rfl, upd_same, RelDL.mono (Ext.same (same_upd hp)) _ _ (cut_rel ra _ _)⟩⟩
    | _ => exact o3.elim
end
end L2.Mr
/-! an empty dict, a global int, minus, range with a step -/
namespace L2.Mr
open PySem PySem.Spec PyProof.Rows
section
variable {X : Cx} {G : Cfg} {E : XK} {pos : Pos}
theorem snd_edc : Snd X G E (.Dict [] [] pos) (mC .edc) := fun _ pins s σ H Q I ⟨μ, ρ, h, rs, sm, o⟩ => by
  have hb : sysModules < s.heap.objs.size := Nat.lt_trans (by decide) (I.mod.glob.keeps I.bk).lt
  have hn := I.hok.fresh (Nat.le_refl s.heap.objs.size)
  refine wpAny_Dict_empty ⟨.ref s.heap.objs.size, _, I.laid (a := s.heap.objs.size) (o := .dK []) (t' := s.toks) (fun _ _ q => Heap.get?_push_of_some _ q) (Nat.le_refl _) ⟨Nat.zero_le _, beq_eq_false_iff_ne.mpr (Ne.symm (Nat.ne_of_lt hb)), [], .nil, Heap.DictOf.new s.heap⟩, rfl, ?_⟩
  exact o μ _ _ (Ext.same (same_upd hn)) (sm.same (same_upd hn)) ⟨_, rfl, upd_same⟩
theorem snd_globI {x : Str} {i : Int} {t : Tok} (hg : Gl X x) (hm : X.mg x = some (.int i t)) (hd : (x == ("__debug__" : Str)) = false := by decide) : Snd X G E (.Name x pos) (mC (.int i)) := fun _ =>
  PE.imp (pe_glob (v := .int i) hg hm ⟨t, rfl⟩ hd) fun σ H Q ⟨μ, ρ, h, rs, s, o⟩ => o.val s (show RelD G μ _ H (.int i) (.int i) from rfl)
def negD : Dv → Hs → Rs Dv
  | .int i, h => .ok (.int (-i)) h
  | _, _ => .bad
theorem negD_ok : UnD G (rU fun i => .int (-i)) negD := by
  intro E μ h H x vx Q s r o
  cases x with
  | int i => rw [RelD] at r; subst r; exact ⟨i, rfl, o.val s rfl⟩
  | _ => exact o.elim
end
/-! ### range(a, b, c), c positive -/
section
variable {X : Cx} {G : Cfg} {E : XK} {tg a b c : Expr} {p pos : Pos} {ms : M (List Dv)}
end
end L2.Mr
/-! The head: the law's call, its code's table tracked. -/
namespace L2.Mr
open PySem PySem.Spec PyProof.Rows
/-- what the law's def is asked, at a heap that has the base -/
structure Lawful (lp : Program) (w : World) (K : PySem.W.Frag) (mg : Str → Option Value) (base : Heap) (k : Nat) (fa : Addr) (fd : FuncData) (x : Str) (P a : Addr) (ns : List Int) : Prop where
  ex : ∃ (G : Cfg) (lawF : List Dv → Hs → Rs Dv) (hh : Hs), G.K = K ∧ G.scr = ns ∧ G.sa = a ∧ G.tab = some P ∧ lawF [.scr] [] = .ok (.bl true) hh ∧ FnOk lp w K mg base (CXm lp w base) k fa fd [x] (spOf G lawF)
theorem law_callT {lp : Program} {w : World} {K : PySem.W.Frag} {mg mb : Str → Option Value} {k : Nat} {fa a c P : Addr} {fd : FuncData} {x : Str} {s₁ : Shared} {vs : List Value} {ns : List Int}
    (KX : K.In s₁.heap) (hns : s₁.heap.Ns mainGlobals mg) (hb : s₁.heap.Ns builtinsNs mb) (hbb : ∀ x : Str, x ≠ "__name__" → mb x = bootBuiltins x) (hlim : s₁.heap.NoLimit) (hg : s₁.gens = #[])
    (ha : s₁.heap.get? a = some { cls := .type "list", data := .seq vs.toArray }) (hi : IntsAre vs ns) (hl : ns.length ≤ sizeLine) (hr : Room k callerA)
    (hC : PySem.W.CodeHd s₁.heap c P) (hP : s₁.heap.get? P = some (PySem.W.tabObj #[])) (hB : BMain mg s₁.heap) (hnt : PySem.W.noTabs K = true)
    (F : ∀ base : Heap, K.In base → base.Ns mainGlobals mg → PySem.W.CodeHd base c P → BMain mg base → Lawful lp w K mg base k fa fd x P a ns) (hbind : ∀ (s : Shared) (u : Value), BindsTo s fd ⟨[u], []⟩ [(x, u)]) :
    codeAny (model lp w) callerA (.call (.ref fa) ⟨[.ref a], []⟩) (fun r s' => r = .ok (.ret (.bool true)) ∧ OldK s₁.heap s'.heap ∧ s'.os = s₁.os ∧ AllBare s'.gens) s₁ := by
  have rv := vals_ints hi
  have lenV := hi.length
  have KP : K.lookup P = none := by
    cases q : K.lookup P with
    | none => rfl
    | some o =>
      have e := KX P o q
      rw [hP] at e; cases e
      have := List.all_eq_true.mp hnt (P, PySem.W.tabObj #[]) (PySem.W.mem_of_lookupK q)
      exact absurd (show false = true from this) Bool.false_ne_true
  have aP : a ≠ P := fun z => by rw [z, hP] at ha; cases ha
  have core : ∀ H : Hp, H P = some (.tbl #[]) → FzL K H a (ns.map V.int) → HOk lp w H s₁.heap → (∀ b, H b ≠ none → b = a ∨ b = P) → (H a ≠ none → K.lookup a = none) → (∀ u, H a = some u → ∃ o xs, u = .frz o (.lst xs)) →
      codeAny (model lp w) callerA (.call (.ref fa) ⟨[.ref a], []⟩) (fun r s' => r = .ok (.ret (.bool true)) ∧ OldK s₁.heap s'.heap ∧ s'.os = s₁.os ∧ AllBare s'.gens) s₁ := by
    intro H hHP hS hok hA hK hF
    have base_of : ∀ {b : Addr} {o : Obj}, s₁.heap.get? b = some o → H b = none → (hidT s₁.heap H).get? b = some o := fun e n => hidT_get e n
    have none_of : ∀ {b : Addr}, b ≠ a → b ≠ P → H b = none := fun {b} h1 h2 => by
      cases q : H b with
      | none => rfl
      | some u => exact ((hA b (by rw [q]; simp)).elim h1 h2).elim
    have noD : ∀ {b : Addr} {o : Obj} {es : Array DictEntry} {ep : Nat}, s₁.heap.get? b = some o → o.data = .dict es ep → H b = none := fun {b o es ep} e d => none_of (fun z => by
        subst z; rw [ha] at e; cases e
        have d' : Data.seq vs.toArray _ = Data.dict es ep := d
        cases d') (fun z => by
        subst z; rw [hP] at e; cases e
        have d' : Data.fields _ = Data.dict es ep := d
        cases d')
    have nsK : ∀ {b : Addr} {m : Str → Option Value}, s₁.heap.Ns b m → (hidT s₁.heap H).Ns b m := fun {b m} ⟨o, es, ep, e, d, r⟩ => ⟨o, es, ep, base_of e (noD e d), d, r⟩
    have hKb : K.In (hidT s₁.heap H) := fun b o e => base_of (KX b o e) (by
      cases q : H b with
      | none => rfl
      | some u =>
        rcases hA b (by rw [q]; simp) with z | z
        · subst z; rw [hK (by rw [q]; simp)] at e; cases e
        · subst z; rw [KP] at e; cases e)
    have hM : Mod K mg (hidT s₁.heap H) := ⟨hKb, nsK hns, ⟨mb, nsK hb, hbb⟩, let ⟨mc, h1, h2⟩ := hlim; ⟨mc, nsK h1, h2⟩⟩
    have hCb : PySem.W.CodeHd (hidT s₁.heap H) c P := by
      obtain ⟨o, vs', file, tf, flags, tg, inF, text, tt, e1, r1, r⟩ := hC
      refine ⟨o, vs', file, tf, flags, tg, inF, text, tt, base_of e1 (none_of (fun z => ?_) r.2.2.2.2.2.2.2), r1, r⟩
      subst z; rw [ha] at e1; cases e1; exact absurd r1 (by intro w; injection w with w; exact absurd w (by decide))
    have hBb : BMain mg (hidT s₁.heap H) := by
      obtain ⟨bm, ob, b1, b2, b3, b4, b5, b6⟩ := hB
      refine ⟨bm, ob, b1, b2, base_of b3 (none_of (fun z => ?_) (fun z => ?_)), b4, b5, b6⟩
      · subst z; rw [ha] at b3; cases b3; exact absurd b4 (by intro w; injection w with w; exact absurd w (by decide))
      · subst z; rw [hP] at b3; cases b3; cases b4
    have e0 : Env0 lp w K mg (hidT s₁.heap H) callerA [] s₁ H := ⟨rfl, hM, fun b o e => of_hidT e, Nat.le_of_eq (hidT_size _ _), trivial, fun b hb => absurd (show b ∈ ([] : List Addr) from hb) (by simp), hok, .of_eq hg⟩
    obtain ⟨G, lawF, hh, g1, g2, g3, g4, hlaw, Fn⟩ := (F _ hKb (nsK hns) hCb hBb).ex
    have rd : RelDL G (fun _ => 0) 0 H [.scr] [.ref a] := by
      refine RelDL.cons ?_ RelDL.nil
      rw [RelD, g1, g2, g3]
      exact ⟨rfl, hS⟩
    have sm : Sim G (fun _ => 0) [] H := ⟨fun i j h1 => absurd h1 (by simp), fun i o q => by simp at q, fun P' e => by
      rw [g4] at e; cases e
      exact ⟨#[], hHP, trivial, fun pos cv q => by
        have q' : (none : Option Value) = some cv := q
        cases q'⟩⟩
    refine codeAny_mono (Fn.run callerA [] s₁ H ⟨[.ref a], []⟩ [.ref a] [.ref a] (fun v _ => v = .bl true) (fun _ _ _ => False) hr e0 (hbind s₁ (.ref a)) (.cons rfl .nil) ⟨fun _ => 0, [], [.scr], rd, sm, ?_⟩) fun r s' h => ?_
    · rw [hlaw]
      exact fun μ' H' v _ _ r => r
    cases r with
    | error e =>
      obtain ⟨_, _, _, _, _, _, _, _, _, z⟩ := h
      exact z.elim
    | ok fl =>
      cases fl with
      | next => exact False.elim h
      | brk => exact False.elim h
      | cont => exact False.elim h
      | ret u =>
        obtain ⟨v, H', os, bare, un, hok', r', q⟩ := h
        have q' : v = .bl true := q
        subst q'
        obtain rfl : u = Value.bool true := r'
        have kept : ∀ b o, b ≠ P → s₁.heap.get? b = some o → s'.heap.get? b = some o := fun b o hbP e => by
          cases q : H b with
          | none => exact un.keep b o e q (by intro z; exact absurd (show b ∈ ([] : List Addr) from z) (by simp)) (by simp)
          | some u =>
            rcases hA b (by rw [q]; simp) with z | z
            · subst z
              obtain ⟨ob, xs, rfl⟩ := hF u q
              have z2 := un.frzs b ob _ q
              obtain ⟨e1, _⟩ := hok b _ q
              obtain ⟨e2, _⟩ := hok' b _ z2
              rw [e] at e1; cases e1
              exact e2
            · exact absurd z hbP
        obtain ⟨more, hm⟩ := un.tbls P #[] hHP
        have gP : s'.heap.get? P = some (PySem.W.tabObj (#[] ++ more)) := hok' P _ hm
        refine ⟨rfl, ⟨fun b o e => ?_, fun b o e => ?_⟩, os, bare⟩
        · by_cases hb : b = P
          · subst hb
            rw [hP] at e; cases e
            exact .inr (.inl ⟨(hC.tab hP).isCodeTable, rfl, #[], more, rfl, gP⟩)
          · exact .inl (kept b o hb e)
        · by_cases hb : b = P
          · subst hb; exact ⟨_, gP⟩
          · exact ⟨_, kept b o hb e⟩
  cases hk : K.lookup a with
  | some o =>
    have e := KX a o hk
    rw [ha] at e
    cases e
    refine core (fun b => if b = P then some (.tbl #[]) else none) (if_pos rfl) (.inr ⟨_, vs.toArray, _, hk, rfl, rfl, rfl, by rw [List.size_toArray, lenV]; exact hl, by simpa using rv⟩) (fun b u z => ?_) (fun b z => ?_) (fun z => absurd (if_neg aP) z) (fun u z => ?_)
    · by_cases hb : b = P
      · have z' := (if_pos hb).symm.trans z
        cases z'
        subst hb
        exact hP
      · have z' := (if_neg hb).symm.trans z
        cases z'
    · by_cases hb : b = P
      · exact .inr hb
      · exact absurd (if_neg hb) z
    · have z' := (if_neg aP).symm.trans z
      cases z'
  | none =>
    have ea : (fun b => if b = a then some (HO.frz { cls := .type "list", data := .seq vs.toArray } (.lst (ns.map V.int))) else if b = P then some (.tbl #[]) else none) a = some (.frz { cls := .type "list", data := .seq vs.toArray } (.lst (ns.map V.int))) := if_pos rfl
    refine core (fun b => if b = a then some (.frz { cls := .type "list", data := .seq vs.toArray } (.lst (ns.map V.int))) else if b = P then some (.tbl #[]) else none) ((if_neg (Ne.symm aP)).trans (if_pos rfl)) (.inl ⟨{ cls := .type "list", data := .seq vs.toArray }, ea⟩) (fun b u z => ?_) (fun b z => ?_) (fun _ => hk) (fun u z => ?_)
    · by_cases hb : b = a
      · have z' := (if_pos hb).symm.trans z
        cases z'
        subst hb
        exact ⟨ha, by rw [List.length_map]; exact hl, vs, _, rv, ha⟩
      · have z' := (if_neg hb).symm.trans z
        by_cases hb2 : b = P
        · have z2 := (if_pos hb2).symm.trans z'
          cases z2
          subst hb2
          exact hP
        · have z2 := (if_neg hb2).symm.trans z'
          cases z2
    · by_cases hb : b = a
      · exact .inl hb
      · by_cases hb2 : b = P
        · exact .inr hb2
        · exact absurd ((if_neg hb).trans (if_neg hb2)) z
    · have z' := ea.symm.trans z
      cases z'
      exact ⟨_, _, rfl⟩
/-- the goal that the head leaves -/
theorem walk_ofT {l : PySem.W.OpenLaw} {n k : Nat} {q : Program} {loose : List Str} {XP : (Str → Option Value) → Heap → Prop} {YP : World → Heap → Prop} {d : DefRec} {K : Params → PySem.W.Frag} {x : Str}
    (hn : l.most = some n) (hn2 : n ≤ sizeLine) (hdf : d.params.defaults = []) (hr : Room k callerA)
    (hY : ∀ (w : World) (h : Heap), YP w h → (K w.params).In h) (hfind : (recsOf q).find? (fun e => e.name == d.name) = some d)
    (F : ∀ (w : World) (mg : Str → Option Value) (fa : Addr) (h : Heap), (K w.params).In h → h.Ns mainGlobals mg → mg d.name = some (.ref fa) →
      ∃ (fd : FuncData) (c P : Addr), (∀ (s : Shared) (u : Value), BindsTo s fd ⟨[u], []⟩ [(x, u)]) ∧ PySem.W.tabIn (K w.params) d.name = some (c, P) ∧ PySem.W.noTabs (K w.params) = true ∧
        ∀ (base : Heap) (a : Addr) (ns : List Int), ns.length ≤ n → (K w.params).In base → base.Ns mainGlobals mg → PySem.W.CodeHd base c P → BMain mg base → Lawful l.prog w (K w.params) mg base k fa fd x P a ns) :
    PySem.W.WalkO q loose XP YP l.row.toRowW d [] (fun f vs => PySem.call f vs) := by
  refine Att.attach_call hn hdf fun w s₀ s₁ mg mb fa o pm cd doc a vs ns G Y ho hd hcd hmg hobj hints hlen hg => ?_
  have KX := hY w _ Y
  obtain ⟨fd, c, P, hb, ht, hnt, hF⟩ := F w mg fa _ KX G.T.g hmg
  obtain ⟨hC, hP⟩ := PySem.W.tab_of G.T KX hfind ht
  exact law_callT KX G.T.g G.T.b G.T.builtins G.T.nolimit hg hobj hints (Nat.le_trans hlen hn2) hr hC hP G.T.bmain hnt (fun base h1 h2 h3 h4 => hF base a ns hlen h1 h2 h3 h4) hb
end L2.Mr
/-! short forms of the rules, for a text written by a script -/
namespace L2.Mr
open PySem PySem.Spec PyProof.Rows
theorem relab_free {env : Env} {x : Str} : ∀ {l : List (Str × NameKind)}, l.lookup x = some .free → (l.map fun (n, k) => if (k == NameKind.free && env.scope.kind == .function && env.kindOf n == some .cell) then (n, NameKind.cell) else (n, k)).lookup x ≠ some .local
  | [], h => by simp at h
  | (n, q) :: r, h => by
    rw [List.lookup_cons] at h
    rw [List.map_cons]
    cases e : x == n with
    | true =>
      rw [e] at h
      have hq : q = .free := Option.some.inj h
      subst hq
      dsimp only
      split
      · rw [List.lookup_cons, e]; simp
      · rw [List.lookup_cons, e]; simp
    | false =>
      rw [e] at h
      dsimp only
      split
      · rw [List.lookup_cons, e]; exact relab_free h
      · rw [List.lookup_cons, e]; exact relab_free h
theorem capOk {X : Cx} {sc os : Scope} {oN N : List Str} {cap : List (Option Nat)} (hs : X.env.scope.names = os.names) (hN : X.N = oN) (h1 : sc.kind = .function) (h2 : ∀ p ∈ sc.names, p.2 = .local → sc.names.lookup p.1 = some .local) (h3 : cap.length = N.length)
    (h4 : ∀ p ∈ sc.names, p.2 = .free → os.names.lookup p.1 = some .cell ∨ os.names.lookup p.1 = some .free) (h5 : ∀ p ∈ sc.names, p.2 = .free → (p.1, NameKind.cell) ∉ sc.names) (h6 : ∀ q ∈ cap.zip N, ∀ j ∈ q.1, oN[j]? = some q.2 ∧ sc.names.lookup q.2 = some .free) : CapOk X sc N cap := by
  refine ⟨h1, h2, h3, fun x hx => ?_, fun x hx => h5 _ hx rfl, fun i j x e1 e2 => ?_⟩
  · have := h4 _ hx rfl
    rw [← hs] at this
    exact this
  · have hm : (some j, x) ∈ cap.zip N := List.mem_of_getElem? (i := i) (List.getElem?_zip_eq_some.mpr ⟨e1, e2⟩)
    obtain ⟨a, b⟩ := h6 _ hm j rfl
    rw [hN]
    refine ⟨a, PySem.mem_of_lookup b, ?_⟩
    exact relab_free b
def subD : Dv → Dv → Hs → Rs Dv := iOp fun i j => .int (i - j)
def mulD : Dv → Dv → Hs → Rs Dv := iOpC mulB fun i j => .int (i * j)
def modD : Dv → Dv → Hs → Rs Dv := iOpC modB fun i j => .int (i % j)
def powD : Dv → Dv → Hs → Rs Dv := iOpC powB fun i j => .int (i ^ j.toNat)
def ltD : Dv → Dv → Hs → Rs Dv := iOp fun i j => .bl (decide (i < j))
def leD : Dv → Dv → Hs → Rs Dv := iOp fun i j => .bl (decide (i ≤ j))
def geD : Dv → Dv → Hs → Rs Dv := iOp fun i j => .bl (decide (i ≥ j))
section
variable {X : Cx} {G : Cfg} {E : XK} {k : Nat} {a b : Expr} {ma mb : M Dv} {pos : Pos}
theorem x_sub (ha : Snd X G E a ma) (hb : Snd X G E b mb) : Snd X G E (.BinOp a .Sub b pos) (m2 subD ma mb) := snd_op op_sub iOp_int ha hb
theorem x_mul (ha : Snd X G E a ma) (hb : Snd X G E b mb) : Snd X G E (.BinOp a .Mult b pos) (m2 mulD ma mb) := snd_op op_mul (iOpC_int mulB_ok) ha hb
theorem x_mod (ha : Snd X G E a ma) (hb : Snd X G E b mb) : Snd X G E (.BinOp a .Mod b pos) (m2 modD ma mb) := snd_op op_mod (iOpC_int modB_ok) ha hb
theorem x_pow (ha : Snd X G E a ma) (hb : Snd X G E b mb) : Snd X G E (.BinOp a .Pow b pos) (m2 powD ma mb) := snd_op op_pow (iOpC_int powB_ok) ha hb
theorem x_neg (ha : Snd X G E a ma) : Snd X G E (.UnaryOp .USub a pos) (m1 negD ma) := snd_un un_neg negD_ok ha
theorem x_ge (ha : Snd X G E a ma) (hb : Snd X G E b mb) : Snd X G E (.Compare a [.GtE] [b] pos) (m2 geD ma mb) := snd_cmp op_ge iOp_bl ha hb (nomark _)
theorem x_eq (g : Good X G E k) (ha : Snd X G E a ma) (hb : Snd X G E b mb) : Snd X G E (.Compare a [.Eq] [b] pos) (m2 eqD ma mb) := snd_cmp (op_eqG g.room.units) eqD_ok ha hb (nomark _)
theorem t_lt (ha : Snd X G E a ma) (hb : Snd X G E b mb) : SndT X G E (.Compare a [.Lt] [b] pos) (mB (m2 ltD ma mb)) := tt_cmp op_lt iOp_bl ha hb (nomark _)
theorem t_le (ha : Snd X G E a ma) (hb : Snd X G E b mb) : SndT X G E (.Compare a [.LtE] [b] pos) (mB (m2 leD ma mb)) := tt_cmp op_le iOp_bl ha hb (nomark _)
theorem t_ge (ha : Snd X G E a ma) (hb : Snd X G E b mb) : SndT X G E (.Compare a [.GtE] [b] pos) (mB (m2 geD ma mb)) := tt_cmp op_ge iOp_bl ha hb (nomark _)
theorem t_eq (g : Good X G E k) (ha : Snd X G E a ma) (hb : Snd X G E b mb) : SndT X G E (.Compare a [.Eq] [b] pos) (mB (m2 eqD ma mb)) := tt_cmp (op_eqG g.room.units) eqD_ok ha hb (nomark _)
theorem t_ne (g : Good X G E k) (ha : Snd X G E a ma) (hb : Snd X G E b mb) : SndT X G E (.Compare a [.NotEq] [b] pos) (mB (m2 neD ma mb)) := tt_cmp (op_neG g.room.units) neD_ok ha hb (nomark _)
variable {c : Expr} {mc : M Dv}
theorem t_lele (ha : Snd X G E a ma) (hb : Snd X G E b mb) (hc : Snd X G E c mc) (hm : lastMarks [.LtE, .LtE] [b, c] = false := by with_unfolding_all rfl) : SndT X G E (.Compare a [.LtE, .LtE] [b, c] pos) (mB (mChain leD leD ma mb mc)) := tt_chain op_le op_le iOp_bl iOp_bl ha hb hc hm
end
end L2.Mr
/-! isinstance of the built-in types and of own errors -/
namespace L2.Mr
open PySem PySem.Spec PyProof.Rows
def isIntF : Ty → Option Bool
  | .bl => some true | .int => some true | .exc _ => none | _ => some false
def isBoolF : Ty → Option Bool
  | .bl => some true | .exc _ => none | _ => some false
def isTupF : Ty → Option Bool
  | .tup => some true | .exc _ => none | _ => some false
def isLstF : Ty → Option Bool
  | .lst => some true | .exc _ => none | _ => some false
def isTLF : Ty → Option Bool
  | .tup => some true | .lst => some true | .exc _ => none | _ => some false
section
variable {K : PySem.W.Frag} {cl : Nat → Addr}
theorem isIntF_ok : ∀ ty bb, isIntF ty = some bb → PySem.W.kitOne K (valT cl ty) (.type "int") = some bb := by intro ty bb h; cases ty <;> first | (cases h; rfl) | cases h
theorem isBoolF_ok : ∀ ty bb, isBoolF ty = some bb → PySem.W.kitOne K (valT cl ty) (.type "bool") = some bb := by intro ty bb h; cases ty <;> first | (cases h; rfl) | cases h
theorem isTupF_ok : ∀ ty bb, isTupF ty = some bb → PySem.W.kitOne K (valT cl ty) (.type "tuple") = some bb := by intro ty bb h; cases ty <;> first | (cases h; rfl) | cases h
theorem isLstF_ok : ∀ ty bb, isLstF ty = some bb → PySem.W.kitOne K (valT cl ty) (.type "list") = some bb := by intro ty bb h; cases ty <;> first | (cases h; rfl) | cases h
theorem isTLF_ok : ∀ ty bb, isTLF ty = some bb → PySem.W.kitAny K (valT cl ty) [.type "tuple", .type "list"] = some bb := by intro ty bb h; cases ty <;> first | (cases h; rfl) | cases h
end
theorem b_int : bootBuiltins "int" = some (.type "int") := by decide +kernel
theorem b_bool : bootBuiltins "bool" = some (.type "bool") := by decide +kernel
theorem b_ve : bootBuiltins "ValueError" = some (.type "ValueError") := by decide +kernel
def isOwnF (nn : Option Bool) (tbl : List (Nat × Bool)) : Ty → Option Bool
  | .exc c => tbl.lookup c
  | .non => nn
  | _ => none
section
variable {X : Cx} {G : Cfg} {E : XK} {a : Expr} {ma : M Dv} {p q r pos : Pos}
theorem x_isInt (hg : Gl X "isinstance") (hm : X.mg "isinstance" = none) (hg' : Gl X "int") (hm' : X.mg "int" = none) (ha : Snd X G E a ma) (he : starEach [a, .Name "int" q] X.env = [(false, eval a X.env), (false, eval (.Name "int" q) X.env)] := by rfl) :
    Snd X G E (.Call (.Name "isinstance" p) [a, .Name "int" q] [] pos) (m1 (isiD isIntF) ma) := snd_isi hg hm ha (pe_ty hg' hm' b_int) (.inl ⟨_, rfl⟩) rfl isIntF_ok (fun c bb h => by cases h) he
theorem x_isBool (hg : Gl X "isinstance") (hm : X.mg "isinstance" = none) (hg' : Gl X "bool") (hm' : X.mg "bool" = none) (ha : Snd X G E a ma) (he : starEach [a, .Name "bool" q] X.env = [(false, eval a X.env), (false, eval (.Name "bool" q) X.env)] := by rfl) :
    Snd X G E (.Call (.Name "isinstance" p) [a, .Name "bool" q] [] pos) (m1 (isiD isBoolF) ma) := snd_isi hg hm ha (pe_ty hg' hm' b_bool) (.inl ⟨_, rfl⟩) rfl isBoolF_ok (fun c bb h => by cases h) he
theorem x_isTup (hg : Gl X "isinstance") (hm : X.mg "isinstance" = none) (hg' : Gl X "tuple") (hm' : X.mg "tuple" = none) (ha : Snd X G E a ma) (he : starEach [a, .Name "tuple" q] X.env = [(false, eval a X.env), (false, eval (.Name "tuple" q) X.env)] := by rfl) :
    Snd X G E (.Call (.Name "isinstance" p) [a, .Name "tuple" q] [] pos) (m1 (isiD isTupF) ma) := snd_isi hg hm ha (pe_ty hg' hm' b_tuple) (.inl ⟨_, rfl⟩) rfl isTupF_ok (fun c bb h => by cases h) he
theorem x_isLst (hg : Gl X "isinstance") (hm : X.mg "isinstance" = none) (hg' : Gl X "list") (hm' : X.mg "list" = none) (ha : Snd X G E a ma) (he : starEach [a, .Name "list" q] X.env = [(false, eval a X.env), (false, eval (.Name "list" q) X.env)] := by rfl) :
    Snd X G E (.Call (.Name "isinstance" p) [a, .Name "list" q] [] pos) (m1 (isiD isLstF) ma) := snd_isi hg hm ha (pe_ty hg' hm' b_list) (.inl ⟨_, rfl⟩) rfl isLstF_ok (fun c bb h => by cases h) he
theorem vals_TL : ∀ us', Vals [.ty "tuple", .ty "list"] us' → us' = [.type "tuple", .type "list"] := by
  intro us' h
  cases h with
  | cons r rr =>
    cases rr with
    | cons r' rr =>
      cases rr
      cases r; cases r'
      rfl
theorem x_isTL {kt : Nat} {p' : Pos} (hg : Gl X "isinstance") (hm : X.mg "isinstance" = none) (hg' : Gl X "tuple") (hm' : X.mg "tuple" = none) (hg'' : Gl X "list") (hm'' : X.mg "list" = none) (ha : Snd X G E a ma)
    (he : starEach [a, .Tuple [.Name "tuple" q, .Name "list" r] kt p] X.env = [(false, eval a X.env), (false, eval (.Tuple [.Name "tuple" q, .Name "list" r] kt p) X.env)] := by rfl) :
    Snd X G E (.Call (.Name "isinstance" p') [a, .Tuple [.Name "tuple" q, .Name "list" r] kt p] [] pos) (m1 (isiD isTLF) ma) :=
  snd_isiT (cs := [.ty "tuple", .ty "list"]) hg hm ha (pa_cons (pe_ty hg' hm' b_tuple) (pa_cons (pe_ty hg'' hm'' b_list) pa_nil)) (by decide) vals_TL isTLF_ok (fun c bb h => by cases h) he
theorem x_isOwn {x : Str} {C : Addr} {nn : Option Bool} {tbl : List (Nat × Bool)} (hg : Gl X "isinstance") (hm : X.mg "isinstance" = none) (hg' : Gl X x) (hm' : X.mg x = some (.ref C)) (ha : Snd X G E a ma)
    (hn : ∀ b, nn = some b → PySem.W.kitOne G.K (.type "NoneType") (.ref C) = some b) (ht : ∀ c b, tbl.lookup c = some b → PySem.W.kitOne G.K (.ref (G.cl c)) (.ref C) = some b ∧ ExK G.K (G.cl c)) (hd : (x == ("__debug__" : Str)) = false := by decide)
    (he : starEach [a, .Name x q] X.env = [(false, eval a X.env), (false, eval (.Name x q) X.env)] := by rfl) (he2 : starEach [.Name x q] X.env = [(false, eval (.Name x q) X.env)] := by rfl) :
    Snd X G E (.Call (.Name "isinstance" p) [a, .Name x q] [] pos) (m1 (isiD (isOwnF nn tbl)) ma) :=
  snd_isi hg hm ha (pe_glob (v := .ref C) hg' hm' rfl hd) (.inr ⟨_, rfl⟩) rfl (fun ty bb h => by
    cases ty with
    | exc c => exact (ht c bb h).1
    | non => exact hn bb h
    | _ => cases h) (fun c bb h => (ht c bb h).2) he he2
theorem x_isVE {nn : Option Bool} {tbl : List (Nat × Bool)} (hg : Gl X "isinstance") (hm : X.mg "isinstance" = none) (hg' : Gl X "ValueError") (hm' : X.mg "ValueError" = none) (ha : Snd X G E a ma)
    (hn : ∀ b, nn = some b → PySem.W.kitOne G.K (.type "NoneType") (.type "ValueError") = some b) (ht : ∀ c b, tbl.lookup c = some b → PySem.W.kitOne G.K (.ref (G.cl c)) (.type "ValueError") = some b ∧ ExK G.K (G.cl c))
    (he : starEach [a, .Name "ValueError" q] X.env = [(false, eval a X.env), (false, eval (.Name "ValueError" q) X.env)] := by rfl) :
    Snd X G E (.Call (.Name "isinstance" p) [a, .Name "ValueError" q] [] pos) (m1 (isiD (isOwnF nn tbl)) ma) :=
  snd_isi hg hm ha (pe_ty hg' hm' b_ve) (.inl ⟨_, rfl⟩) rfl (fun ty bb h => by
    cases ty with
    | exc c => exact (ht c bb h).1
    | non => exact hn bb h
    | _ => cases h) (fun c bb h => (ht c bb h).2) he
end
end L2.Mr
/-! a def by its mirror, its code known; a def that is not to be called -/
namespace L2.Mr
open PySem PySem.Spec PyProof.Rows
section
variable {P : Program} {w : World} {K : PySem.W.Frag} {mg : Str → Option Value} {base : Heap} {f : Addr} {G : Cfg} {k : Nat} {N : List Str}
theorem fn_mirC {x qual : Str} {st : Stmt} {fd : FuncData} {ps : List Str} {mb : MS} (Fn : Fun K x qual st f fd) (S : FnScope N ps (defScope st)) (hK : K = G.K)
    (hbody : ∀ (cdv : Value) (A : Around) (outer : List Env) (s : Shared) (H : Hp) (E₀ E : XK), fd.code = cdv → Good (cxOf (CXm P w base) P w K mg base N qual (defScope st) f cdv A outer s H E₀) G E k → SndSs (cxOf (CXm P w base) P w K mg base N qual (defScope st) f cdv A outer s H E₀) G E (defBody st) mb) :
    FnOk P w K mg base (CXm P w base) (k + 1) f fd ps (spOf G (callM ps.length N.length mb)) := by
  obtain ⟨oc, od, kV, doc, pm, an, cdv, ct, osl, rfl, lk, hcd⟩ := Fn.ex
  have hlen : ∀ vs H Q E, spOf G (callM ps.length N.length mb) vs H Q E → vs.length = ps.length := fun vs H Q E ⟨μ, h, ds, r, sm, o⟩ => by
    rw [r.length]
    unfold callM at o
    by_cases hd : ds.length = ps.length
    · exact hd
    · rw [if_neg hd] at o; exact o.elim
  refine fn_of lk hcd S hlen fun A outer s H vs Q E hr hsp => ?_
  have hl := hlen _ _ _ _ hsp
  obtain ⟨μ, h, ds, r, sm, o⟩ := hsp
  have o' : Out G E μ h.length H (endOf (mb (startEv N.length ds) h)) (RelD G) Q := by
    unfold callM at o
    rw [if_pos (by rw [← r.length]; exact hl)] at o
    exact o
  refine ⟨_, hbody cdv A outer s H E (EB G μ h.length H (mb (startEv N.length ds) h)) rfl (good_cx hr hK (fun u H' ⟨c, h', μ', er, x, s', fl⟩ => ?_) firm_EB) hK, ?_⟩
  · rw [er] at o'
    exact o' μ' H' u x s' fl
  · refine ⟨μ, startEv N.length ds, h, start_ok r N, sm, ?_⟩
    cases q : mb (startEv N.length ds) h with
    | bad => rw [q] at o'; exact o'.elim
    | bk ρ h' => rw [q] at o'; exact o'.elim
    | ct ρ h' => rw [q] at o'; exact o'.elim
    | rt d h' => rw [q] at o'; exact o'
    | nx ρ h' => rw [q] at o'; exact fun μ' H' σ' x' s' rs' => o' μ' H' .non x' s' rfl
    | ex c h' => exact fun μ' H' u x' s' fl => ⟨c, h', μ', rfl, x', s', fl⟩
theorem fn_bad {fd : FuncData} {ps : List Str} : FnOk P w K mg base (CXm P w base) k f fd ps (spOf G (fun _ _ => .bad)) :=
  ⟨fun vs H Q E ⟨_, _, _, _, _, o⟩ => o.elim, fun _ _ _ _ _ _ _ _ _ _ _ _ _ ⟨_, _, _, _, _, o⟩ => o.elim⟩
end
end L2.Mr
/-! told(lambda: ..), in short -/
namespace L2.Mr
open PySem PySem.Spec PyProof.Rows
section
variable {X : Cx} {G : Cfg} {E : XK} {k : Nat} {q x : Str} {p pos lpos : Pos} {params : Arguments} {body : Expr} {scope os : Scope} {c P fr : Addr} {fdr : FuncData} {Nl oN : List Str} {me : M Dv} {n ncl j : Nat} {mb : MS} {caps : List Nat}
theorem x_ref (g : Good X G E k) (hj : j ≤ k) (hfn : ∀ y, X.fn y = true)
    (F : ∀ base, X.K.In base → base.Ns mainGlobals X.mg → FnOk X.prog X.w X.K X.mg base (CXm X.prog X.w base) j fr fdr [x] (spRef G base Nl params body scope me n ncl mb))
    (hg : Gl X q) (hm : X.mg q = some (.ref fr)) (hk : PySem.W.keepIn X.K (.ref fr) = true) (hb : Binds X.K fdr [x] [])
    (hdef : defaultsOf params X.env = ([], [])) (hq : X.env.qual ++ "<lambda>" = G.lq) (hP : G.tab = some P) (hcode : X.env.code = .ref c) (hC : PySem.W.CodeHd X.base c P) (hB : BMain X.mg X.base)
    (LS : LamScope Nl scope) (hs : X.env.scope.names = os.names) (hN : X.N = oN) (hkind : ∀ y ∈ Nl, os.names.lookup y = some .cell) (hcl : caps.length = Nl.length) (hcap : ∀ z ∈ caps.zip Nl, oN[z.1]? = some z.2)
    (hdb : (q == ("__debug__" : Str)) = false := by decide) (he : starEach [.Lambda params body scope lpos] X.env = [(false, eval (.Lambda params body scope lpos) X.env)] := by rfl) :
    Snd X G E (.Call (.Name q p) [.Lambda params body scope lpos] [] pos) (mRef caps n ncl mb me) :=
  snd_ref g hj hfn F hg hm hk hb hdef hq hP hcode hC hB LS (fun y hy => by rw [hs]; exact hkind y hy) hcl (fun i j y e1 e2 => by
    rw [hN]
    exact hcap (j, y) (List.mem_of_getElem? (i := i) (List.getElem?_zip_eq_some.mpr ⟨e1, e2⟩))) hdb he
end
end L2.Mr
/-! where the script is not looked at: mirrors that do not speak of it -/
namespace L2.Mr
open PySem PySem.Spec PyProof.Rows
def noScr : Dv → Bool
  | .scr => false
  | _ => true
def ix0 (x y : Dv) (h : Hs) : Rs Dv := if noScr x = true then ixD [] x y h else .bad
def len0 (x : Dv) (h : Hs) : Rs Dv := if noScr x = true then lenD [] x h else .bad
def list0 (x : Dv) (h : Hs) : Rs Dv := if noScr x = true then listD [] x h else .bad
def in0 (neg : Bool) (x y : Dv) (h : Hs) : Rs Dv := if noScr y = true then inD [] neg x y h else .bad
theorem noScr_seq {scr : List Int} {x : Dv} {h : Hs} (e : noScr x = true) : seqD [] x h = seqD scr x h := by cases x <;> first | rfl | cases e
section
variable {X : Cx} {G : Cfg} {E : XK} {k : Nat} {a b e : Expr} {es : List Expr} {ma mb : M Dv} {mas : M (List Dv)} {p pos : Pos}
theorem ix0_ok : OpD G (rIx G.K) ix0 := by
  intro E μ h H x y vx vy Q s rx ry o
  unfold ix0 at o
  split at o
  · rename_i hx
    refine ixD_ok E μ h H x y vx vy Q s rx ry ?_
    have e : ixD G.scr x y h = ixD [] x y h := by cases x <;> cases y <;> first | rfl | exact absurd hx (by decide)
    rw [e]; exact o
  · exact o.elim
theorem len0_ok : UnD G (rLenG G.K) len0 := by
  intro E μ h H x vx Q s rx o
  unfold len0 at o
  split at o
  · rename_i hx
    refine lenD_ok E μ h H x vx Q s rx ?_
    unfold lenD at o ⊢
    rw [← noScr_seq hx]; exact o
  · exact o.elim
theorem list0_ok : UnD G (fun x H Q => ∃ p ys, x = .ref p ∧ (SqL G.K H p ys ∨ SqT G.K H p ys) ∧ ∀ l, H l = none → Q (.ref l) (upd H l (.lst ys))) list0 := by
  intro E μ h H x vx Q s rx o
  unfold list0 at o
  split at o
  · rename_i hx
    refine listD_ok E μ h H x vx Q s rx ?_
    unfold listD at o ⊢
    rw [← noScr_seq hx]; exact o
  · exact o.elim
theorem in0_ok (neg : Bool) : OpD G (rInG G.K neg) (in0 neg) := by
  intro E μ h H x y vx vy Q s rx ry o
  unfold in0 at o
  split at o
  · rename_i hx
    refine inD_ok neg E μ h H x y vx vy Q s rx ry ?_
    unfold inD at o ⊢
    rw [← noScr_seq hx]; exact o
  · exact o.elim
theorem x_ix0 (ha : Snd X G E a ma) (hb : Snd X G E b mb) (hs : PlainIx b := by intro _ _; rfl) : Snd X G E (.Subscript a b pos) (m2 ix0 ma mb) := fun hK =>
  PE.imp (pe_ix (by have := ix_seq (X := X); rw [hK] at this; exact this) (ha hK) (hb hK) hs) fun _ _ _ t => op_tOf ix0_ok t
theorem x_len0 (hg : Gl X "len") (hm : X.mg "len" = none) (ha : SndA X G E (e :: es) mas)
    (he : starEach (e :: es) X.env = (false, eval e X.env) :: starEach es X.env := by rfl) (hpl : (backTo pos (starEach es X.env)).any (·.1) = false := by rfl) : Snd X G E (.Call (.Name "len" p) (e :: es) [] pos) (mCall (f1 len0) mas) := fun hK =>
  snd_callB (CallR.imp (call_len_seq (X := X)) fun xs H Q ⟨v, h1, a, ys, h2, h3, h4⟩ => ⟨a, ys, by rw [h1, h2], by rw [hK]; exact h3, h4⟩) (f1_ok len0_ok) hg hm PySem.boot_len ha (by decide) (by decide) he hpl hK
theorem x_list0 (hg : Gl X "list") (hm : X.mg "list" = none) (ha : SndA X G E (e :: es) mas)
    (he : starEach (e :: es) X.env = (false, eval e X.env) :: starEach es X.env := by rfl) (hpl : (backTo pos (starEach es X.env)).any (·.1) = false := by rfl) : Snd X G E (.Call (.Name "list" p) (e :: es) [] pos) (mCall (f1 list0) mas) := fun hK =>
  snd_callTy (CallR.imp (call_list_of (X := X)) fun xs H Q ⟨v, h1, a, ys, h2, h3, h4⟩ => ⟨a, ys, by rw [h1, h2], by rw [hK]; exact h3, h4⟩) (f1_ok list0_ok) hg hm b_list ha (by decide) (by decide) he hpl hK
end
/-! lists in the heap, laid behind what stands there -/
theorem getL_app (h l : Hs) (k : Nat) : getL (h ++ l) (h.length + k) = getL l k := by
  unfold getL
  rw [List.getElem?_append_right (by omega), show h.length + k - h.length = k by omega]
theorem getL_app0 (h l : Hs) : getL (h ++ l) h.length = getL l 0 := getL_app h l 0
theorem set_app (h l : Hs) (k : Nat) (o : Ob) : (h ++ l).set (h.length + k) o = h ++ l.set k o := by
  rw [List.set_append_right _ _ (by omega), show h.length + k - h.length = k by omega]
theorem set_app0 (h l : Hs) (o : Ob) : (h ++ l).set h.length o = h ++ l.set 0 o := set_app h l 0 o
end L2.Mr
/-! The mirrors do not look at what stands in the heap ahead: what comes of a small heap and few names comes of any larger one, moved up. -/
namespace L2.Mr
open PySem PySem.Spec PyProof.Rows
mutual
def sh (n : Nat) : Dv → Dv
  | .ref i => .ref (n + i)
  | .tup xs => .tup (shL n xs)
  | .non => .non
  | .bl b => .bl b
  | .int i => .int i
  | .str x => .str x
  | .edc => .edc
  | .exc c => .exc c
  | .scr => .scr
def shL (n : Nat) : List Dv → List Dv
  | [] => []
  | x :: xs => sh n x :: shL n xs
end
def shO (n : Nat) : Ob → Ob
  | .lst xs => .lst (shL n xs)
def shH (n : Nat) (l : Hs) : Hs := l.map (shO n)
section
variable {n : Nat}
theorem shL_map : ∀ xs : List Dv, shL n xs = xs.map (sh n)
  | [] => by rw [shL]; rfl
  | x :: xs => by rw [shL, shL_map xs]; rfl
theorem shL_app (xs ys : List Dv) : shL n (xs ++ ys) = shL n xs ++ shL n ys := by simp [shL_map]
theorem shL_len (xs : List Dv) : (shL n xs).length = xs.length := by simp [shL_map]
theorem shL_get (xs : List Dv) (i : Nat) : (shL n xs)[i]? = (xs[i]?).map (sh n) := by simp [shL_map]
theorem shH_app (l : Hs) (o : Ob) : shH n (l ++ [o]) = shH n l ++ [shO n o] := by simp [shH]
theorem shH_len (l : Hs) : (shH n l).length = l.length := by simp [shH]
theorem shH_set (l : Hs) (i : Nat) (o : Ob) : shH n (l.set i o) = (shH n l).set i (shO n o) := by simp [shH, List.map_set]
theorem shH_get (l : Hs) (i : Nat) : (shH n l)[i]? = (l[i]?).map (shO n) := by simp [shH]
end
theorem getL_up (B l : Hs) (i : Nat) : getL (B ++ shH B.length l) (B.length + i) = (getL l i).map (shL B.length) := by
  rw [getL_app]
  unfold getL
  rw [shH_get]
  cases q : l[i]? with
  | none => rfl
  | some o => cases o; rfl
theorem alloc_up (B l : Hs) (xs : List Dv) : (B ++ shH B.length l) ++ [.lst (shL B.length xs)] = B ++ shH B.length (l ++ [.lst xs]) := by
  rw [shH_app, List.append_assoc]; rfl
theorem len_up (B l : Hs) : (B ++ shH B.length l).length = B.length + l.length := by rw [List.length_append, shH_len]
theorem set_up (B l : Hs) (i : Nat) (xs : List Dv) : (B ++ shH B.length l).set (B.length + i) (.lst (shL B.length xs)) = B ++ shH B.length (l.set i (.lst xs)) := by
  rw [set_app, shH_set]; rfl
/-! ### the relations -/
def UpR {α : Type} (B : Hs) (f : α → α) (r' r : Rs α) : Prop := match r' with
  | .bad => True
  | .ok d l => r = .ok (f d) (B ++ shH B.length l)
  | .ex c l => r = .ex c (B ++ shH B.length l)
structure UpV (n : Nat) (ρ' ρ : Ev) : Prop where
  len : ρ'.length = ρ.length
  at_ : ∀ (i : Nat) (d : Dv), ρ'[i]? = some (some d) → ρ[i]? = some (some (sh n d))
abbrev UpE (m : M Dv) : Prop := ∀ (B : Hs) (ρ' ρ : Ev) (l : Hs), UpV B.length ρ' ρ → UpR B (sh B.length) (m ρ' l) (m ρ (B ++ shH B.length l))
abbrev UpA (m : M (List Dv)) : Prop := ∀ (B : Hs) (ρ' ρ : Ev) (l : Hs), UpV B.length ρ' ρ → UpR B (shL B.length) (m ρ' l) (m ρ (B ++ shH B.length l))
abbrev UpT (m : M Bool) : Prop := ∀ (B : Hs) (ρ' ρ : Ev) (l : Hs), UpV B.length ρ' ρ → UpR B id (m ρ' l) (m ρ (B ++ shH B.length l))
abbrev Up1 (f : Dv → Hs → Rs Dv) : Prop := ∀ (B : Hs) (x : Dv) (l : Hs), UpR B (sh B.length) (f x l) (f (sh B.length x) (B ++ shH B.length l))
abbrev Up1B (f : Dv → Hs → Rs Bool) : Prop := ∀ (B : Hs) (x : Dv) (l : Hs), UpR B id (f x l) (f (sh B.length x) (B ++ shH B.length l))
abbrev Up2 (f : Dv → Dv → Hs → Rs Dv) : Prop := ∀ (B : Hs) (x y : Dv) (l : Hs), UpR B (sh B.length) (f x y l) (f (sh B.length x) (sh B.length y) (B ++ shH B.length l))
abbrev UpF (f : List Dv → Hs → Rs Dv) : Prop := ∀ (B : Hs) (xs : List Dv) (l : Hs), UpR B (sh B.length) (f xs l) (f (shL B.length xs) (B ++ shH B.length l))
structure UpSrc (B : Hs) (s' s : Src) : Prop where
  n : s.n = s'.n
  get : ∀ (k : Nat) (l : Hs) (d : Dv), s'.get k l = some d → s.get k (B ++ shH B.length l) = some (sh B.length d)
  fin : ∀ (l : Hs), s'.fin l = true → s.fin (B ++ shH B.length l) = true
def UpRS (B : Hs) (r' r : Rs Src) : Prop := match r' with
  | .bad => True
  | .ok s' l => ∃ s, r = .ok s (B ++ shH B.length l) ∧ UpSrc B s' s
  | .ex c l => r = .ex c (B ++ shH B.length l)
abbrev UpI (m : M Src) : Prop := ∀ (B : Hs) (ρ' ρ : Ev) (l : Hs), UpV B.length ρ' ρ → UpRS B (m ρ' l) (m ρ (B ++ shH B.length l))
def UpSr (B : Hs) (r' r : Sr) : Prop := match r' with
  | .bad => True
  | .nx ρ1 l => ∃ ρ, r = .nx ρ (B ++ shH B.length l) ∧ UpV B.length ρ1 ρ
  | .bk ρ1 l => ∃ ρ, r = .bk ρ (B ++ shH B.length l) ∧ UpV B.length ρ1 ρ
  | .ct ρ1 l => ∃ ρ, r = .ct ρ (B ++ shH B.length l) ∧ UpV B.length ρ1 ρ
  | .rt d l => r = .rt (sh B.length d) (B ++ shH B.length l)
  | .ex c l => r = .ex c (B ++ shH B.length l)
abbrev UpS (m : MS) : Prop := ∀ (B : Hs) (ρ' ρ : Ev) (l : Hs), UpV B.length ρ' ρ → UpSr B (m ρ' l) (m ρ (B ++ shH B.length l))
abbrev UpG (st : Tgt) : Prop := ∀ (n : Nat) (d : Dv) (ρ' ρ ρ1 : Ev), UpV n ρ' ρ → st d ρ' = some ρ1 → ∃ ρ2, st (sh n d) ρ = some ρ2 ∧ UpV n ρ1 ρ2
def UpRC (B : Hs) (r' r : Rs (Ev × List Dv)) : Prop := match r' with
  | .ok (ρ1, acc) l => ∃ ρ, r = .ok (ρ, shL B.length acc) (B ++ shH B.length l) ∧ UpV B.length ρ1 ρ
  | _ => True
abbrev UpC (m : MC) : Prop := ∀ (B : Hs) (ρ' ρ : Ev) (l : Hs) (acc : List Dv), UpV B.length ρ' ρ → UpRC B (m ρ' l acc) (m ρ (B ++ shH B.length l) (shL B.length acc))
theorem UpR.bind {α β : Type} {B : Hs} {f : α → α} {g : β → β} {r' r : Rs α} {k' k : α → Hs → Rs β} (h : UpR B f r' r) (hk : ∀ d l, UpR B g (k' d l) (k (f d) (B ++ shH B.length l))) : UpR B g (r'.bind k') (r.bind k) := by
  cases r' with
  | bad => trivial
  | ok d l => rw [show r = _ from h]; exact hk d l
  | ex c l => rw [show r = _ from h]; exact rfl
theorem UpR.bindS {α : Type} {B : Hs} {f : α → α} {r' r : Rs α} {k' k : α → Hs → Rs Src} (h : UpR B f r' r) (hk : ∀ d l, UpRS B (k' d l) (k (f d) (B ++ shH B.length l))) : UpRS B (r'.bind k') (r.bind k) := by
  cases r' with
  | bad => trivial
  | ok d l => rw [show r = _ from h]; exact hk d l
  | ex c l => rw [show r = _ from h]; exact rfl
theorem UpR.thenS {α : Type} {B : Hs} {f : α → α} {r' r : Rs α} {k' k : α → Hs → Sr} (h : UpR B f r' r) (hk : ∀ d l, UpSr B (k' d l) (k (f d) (B ++ shH B.length l))) : UpSr B (r'.thenS k') (r.thenS k) := by
  cases r' with
  | bad => trivial
  | ok d l => rw [show r = _ from h]; exact hk d l
  | ex c l => rw [show r = _ from h]; exact rfl
theorem UpV.set {n : Nat} {ρ' ρ : Ev} (u : UpV n ρ' ρ) (i : Nat) (d : Dv) : UpV n (ρ'.set i (some d)) (ρ.set i (some (sh n d))) := ⟨by rw [List.length_set, List.length_set]; exact u.len, fun j d' e => by
  have hl := u.len
  by_cases hij : i = j
  · subst hij
    have hi : i < ρ'.length := by
      have := (List.getElem?_eq_some_iff.mp e).1
      simpa using this
    rw [List.getElem?_set_self hi] at e
    cases e
    exact List.getElem?_set_self (by omega)
  · rw [List.getElem?_set_ne hij] at e ⊢
    exact u.at_ j d' e⟩
/-! ### expressions -/
section
variable {ma mb mc : M Dv} {mas : M (List Dv)} {t u : M Bool} {f f' : Dv → Dv → Hs → Rs Dv} {g : Dv → Hs → Rs Dv} {F : List Dv → Hs → Rs Dv}
theorem u_var (i : Nat) : UpE (mVar i) := fun B ρ' ρ l u => by
  unfold mVar
  cases q : ρ'[i]? with
  | none => trivial
  | some o =>
    cases o with
    | none => trivial
    | some d => rw [u.at_ i d q]; exact rfl
theorem u_c {d : Dv} (h : ∀ n, sh n d = d := by intro _; rfl) : UpE (mC d) := fun B ρ' ρ l u => by
  show Rs.ok d _ = .ok (sh B.length d) _
  rw [h]
theorem u_m1 (h : Up1 g) (ha : UpE ma) : UpE (m1 g ma) := fun B ρ' ρ l u => (ha B ρ' ρ l u).bind fun d l1 => h B d l1
theorem u_m2 (h : Up2 f) (ha : UpE ma) (hb : UpE mb) : UpE (m2 f ma mb) := fun B ρ' ρ l u => (ha B ρ' ρ l u).bind fun x l1 => (hb B ρ' ρ l1 u).bind fun y l2 => h B x y l2
theorem u_chain (h : Up2 f) (h' : Up2 f') (ha : UpE ma) (hb : UpE mb) (hc : UpE mc) : UpE (mChain f f' ma mb mc) := fun B ρ' ρ l u => (ha B ρ' ρ l u).bind fun x l1 => (hb B ρ' ρ l1 u).bind fun y l2 => (h B x y l2).bind fun z l3 => by
  cases z with
  | bl b =>
    cases b with
    | true => exact (hc B ρ' ρ l3 u).bind fun w l4 => h' B y w l4
    | false => exact rfl
  | _ => trivial
theorem u_nil : UpA mNil := fun B ρ' ρ l u => rfl
theorem u_cons (ha : UpE ma) (hs : UpA mas) : UpA (mCons ma mas) := fun B ρ' ρ l u => (ha B ρ' ρ l u).bind fun d l1 => (hs B ρ' ρ l1 u).bind fun ds l2 => rfl
theorem lim_up {α : Type} {B : Hs} {p : α → α} {n : Nat} {r' r : Rs α} (h : UpR B p r' r) : UpR B p (lim n r') (lim n r) := by
  unfold lim
  split
  · exact h
  · trivial
theorem u_tup (hs : UpA mas) : UpE (mTup mas) := fun B ρ' ρ l u => (hs B ρ' ρ l u).bind fun ds l1 => by
  rw [shL_len]
  exact lim_up rfl
theorem u_lst (hs : UpA mas) : UpE (mLst mas) := fun B ρ' ρ l u => (hs B ρ' ρ l u).bind fun ds l1 => by
  rw [shL_len, len_up, alloc_up]
  exact lim_up rfl
theorem u_andV (ha : UpE ma) (hb : UpE mb) : UpE (mAndV ma mb) := fun B ρ' ρ l u => (ha B ρ' ρ l u).bind fun d l1 => by
  cases d with
  | bl b =>
    cases b with
    | true => exact hb B ρ' ρ l1 u
    | false => exact rfl
  | _ => trivial
theorem u_and (ha : UpT t) (hb : UpT u) : UpT (mAnd t u) := fun B ρ' ρ l v => (ha B ρ' ρ l v).bind fun c l1 => by
  cases c with
  | true => exact hb B ρ' ρ l1 v
  | false => exact rfl
theorem u_or (ha : UpT t) (hb : UpT u) : UpT (mOr t u) := fun B ρ' ρ l v => (ha B ρ' ρ l v).bind fun c l1 => by
  cases c with
  | true => exact rfl
  | false => exact hb B ρ' ρ l1 v
theorem u_not (ha : UpT t) : UpT (mNot t) := fun B ρ' ρ l v => (ha B ρ' ρ l v).bind fun c l1 => rfl
theorem u_B (ha : UpE ma) : UpT (mB ma) := fun B ρ' ρ l v => (ha B ρ' ρ l v).bind fun d l1 => by cases d <;> first | trivial | exact rfl
theorem truD_up : Up1B truD := fun B x l => by
  cases x with
  | tup xs =>
    show Rs.ok (!(shL B.length xs).isEmpty) _ = .ok (!xs.isEmpty) _
    cases xs <;> rfl
  | ref i =>
    unfold truD
    dsimp only [sh]
    rw [getL_up]
    cases q : getL l i with
    | none => trivial
    | some xs =>
      show Rs.ok (!(shL B.length xs).isEmpty) _ = .ok (!xs.isEmpty) _
      cases xs <;> rfl
  | _ => first | trivial | exact rfl
theorem u_tru (ha : UpE ma) : UpT (mTru ma) := fun B ρ' ρ l v => (ha B ρ' ρ l v).bind fun d l1 => truD_up B d l1
theorem u_true : UpT mTrue := fun B ρ' ρ l v => rfl
theorem u_call (h : UpF F) (hs : UpA mas) : UpE (mCall F mas) := fun B ρ' ρ l u => (hs B ρ' ρ l u).bind fun ds l1 => h B ds l1
theorem u_L (h : UpF F) (hs : UpA mas) : UpE (mL F mas) := fun B ρ' ρ l u => (hs B ρ' ρ l u).bind fun ds l1 => h B ds l1
theorem u_al (hs : UpA mas) : UpE (mAl mas) := fun B ρ' ρ l u => (hs B ρ' ρ l u).bind fun ds l1 => by
  rw [len_up, alloc_up]; exact rfl
end
/-! ### the functions on data -/
theorem up_iOp {g : Int → Int → Dv} (h : ∀ n i j, sh n (g i j) = g i j := by intro _ _ _; rfl) : Up2 (iOp g) := fun B x y l => by
  cases x <;> cases y <;> first | trivial | (show Rs.ok _ _ = .ok (sh B.length _) _; rw [h])
theorem up_iOpC {C : Int → Int → Bool} {g : Int → Int → Dv} (h : ∀ n i j, sh n (g i j) = g i j := by intro _ _ _; rfl) : Up2 (iOpC C g) := fun B x y l => by
  cases x <;> cases y <;> first
    | trivial
    | (dsimp only [iOpC, sh]
       split
       · show Rs.ok _ _ = .ok (sh B.length _) _
         rw [h]
       · trivial)
theorem up_sub : Up2 subD := up_iOp
theorem up_lt : Up2 ltD := up_iOp
theorem up_le : Up2 leD := up_iOp
theorem up_ge : Up2 geD := up_iOp
theorem up_add : Up2 addD := fun B x y l => by
  cases x <;> cases y <;> first
    | trivial
    | exact rfl
    | skip
  · rename_i xs ys
    dsimp only [addD, sh]
    have e : (shL B.length xs).isEmpty = xs.isEmpty := by cases xs <;> rfl
    rw [e, shL_len, shL_len, ← shL_app]
    split
    · trivial
    · exact lim_up (by rw [show Dv.tup (shL B.length (xs ++ ys)) = sh B.length (.tup (xs ++ ys)) from rfl]; exact rfl)
  · rename_i i j
    dsimp only [addD, sh]
    rw [getL_up, getL_up]
    cases q : getL l i with
    | none => trivial
    | some xs =>
      cases q2 : getL l j with
      | none => trivial
      | some ys =>
        dsimp only [Option.map_some]
        rw [shL_len, shL_len, ← shL_app, len_up, alloc_up]
        exact lim_up rfl
theorem up_neg : Up1 negD := fun B x l => by cases x <;> first | trivial | exact rfl
theorem up_notD : Up1 notD := fun B x l => by cases x <;> first | trivial | exact rfl
theorem tyD_up (B : Hs) (x : Dv) (l : Hs) : tyD (sh B.length x) (B ++ shH B.length l) = tyD x l := by
  cases x with
  | ref i =>
    dsimp only [tyD, sh]
    rw [getL_up]
    cases getL l i <;> rfl
  | _ => rfl
theorem up_isi {f : Ty → Option Bool} : Up1 (isiD f) := fun B x l => by
  unfold isiD
  rw [tyD_up]
  cases tyD x l with
  | none => trivial
  | some ty =>
    dsimp only
    cases f ty with
    | none => trivial
    | some b => exact rfl
theorem at_up {n : Nat} (xs : List Dv) (i : Int) : atI (shL n xs) i = (atI xs i).map (sh n) := by
  unfold atI
  rw [shL_len]
  cases ixN xs.length i with
  | none => rfl
  | some k => exact shL_get xs k
theorem atL_up {B : Hs} (xs : List Dv) (i : Int) (l : Hs) : UpR B (sh B.length) (atL xs i l) (atL (shL B.length xs) i (B ++ shH B.length l)) := by
  unfold atL
  rw [at_up]
  cases atI xs i with
  | none => trivial
  | some d => exact rfl
theorem up_ix0 : Up2 ix0 := fun B x y l => by
  cases x with
  | tup xs => cases y <;> first | trivial | exact atL_up xs _ l
  | ref i =>
    cases y with
    | int k =>
      show UpR B _ (match getL l i with | some xs => atL xs k l | none => .bad) (match getL (B ++ shH B.length l) (B.length + i) with | some xs => atL xs k (B ++ shH B.length l) | none => .bad)
      rw [getL_up]
      cases q : getL l i with
      | none => trivial
      | some xs => exact atL_up xs k l
    | _ => trivial
  | _ => cases y <;> trivial
theorem seq_up (B : Hs) (x : Dv) (l : Hs) (h : noScr x = true) : seqD [] (sh B.length x) (B ++ shH B.length l) = (seqD [] x l).map (shL B.length) := by
  cases x with
  | ref i => exact getL_up B l i
  | scr => cases h
  | _ => rfl
theorem noScr_sh (n : Nat) (x : Dv) : noScr (sh n x) = noScr x := by cases x <;> rfl
theorem up_len0 : Up1 len0 := fun B x l => by
  unfold len0
  rw [noScr_sh]
  split
  · rename_i h
    unfold lenD
    rw [seq_up B x l h]
    cases seqD [] x l with
    | none => trivial
    | some xs => show Rs.ok (Dv.int (shL B.length xs).length) _ = _; rw [shL_len]; rfl
  · trivial
theorem up_f1 {g : Dv → Hs → Rs Dv} (h : Up1 g) : UpF (f1 g) := fun B xs l => by
  match xs with
  | [] => trivial
  | [d] => exact h B d l
  | _ :: _ :: _ => trivial
theorem up_tuple : Up1 tupleD := fun B x l => by
  cases x with
  | ref i =>
    dsimp only [tupleD, sh]
    rw [getL_up]
    cases getL l i with
    | none => trivial
    | some xs => exact rfl
  | _ => first | trivial | exact rfl
theorem blD_up {n : Nat} : ∀ xs : List Dv, optL blD (shL n xs) = optL blD xs
  | [] => rfl
  | x :: xs => by
    rw [shL]
    unfold optL
    rw [blD_up xs]
    cases x <;> rfl
theorem up_all : UpF allF := fun B xs l => by
  unfold allF
  rw [blD_up]
  cases optL blD xs with
  | none => trivial
  | some bs => exact rfl
mutual
theorem pur_up (B : Hs) (l : Hs) : ∀ (k : Nat) (d : Dv), pur k (B ++ shH B.length l) (sh B.length d) = pur k l d
  | 0, d => rfl
  | k + 1, d => by
    cases d with
    | tup xs =>
      simp only [pur, sh]
      rw [purL_up B l k xs]
    | ref i =>
      simp only [pur, sh]
      rw [getL_up]
      cases getL l i with
      | none => rfl
      | some xs => simp only [Option.map_some]; rw [purL_up B l k xs]
    | _ => rfl
theorem purL_up (B : Hs) (l : Hs) : ∀ (k : Nat) (xs : List Dv), optL (pur k (B ++ shH B.length l)) (shL B.length xs) = optL (pur k l) xs
  | k, [] => rfl
  | k, x :: xs => by
    rw [shL]
    unfold optL
    rw [pur_up B l k x, purL_up B l k xs]
end
theorem up_eq : Up2 eqD := fun B x y l => by
  unfold eqD
  rw [pur_up, pur_up]
  cases pur fuelD l x with
  | none => trivial
  | some t =>
    cases pur fuelD l y with
    | none => trivial
    | some t' => exact rfl
theorem up_ne : Up2 neD := fun B x y l => by
  unfold neD
  rw [pur_up, pur_up]
  cases pur fuelD l x with
  | none => trivial
  | some t =>
    cases pur fuelD l y with
    | none => trivial
    | some t' => exact rfl
end L2.Mr
namespace L2.Mr
open PySem PySem.Spec PyProof.Rows
/-! ### what is walked -/
theorem up_lstD (B : Hs) (x : Dv) (l : Hs) : UpRS B (lstD x l) (lstD (sh B.length x) (B ++ shH B.length l)) := by
  cases x with
  | ref i =>
    dsimp only [lstD, sh]
    rw [getL_up]
    cases q : getL l i with
    | none => trivial
    | some xs =>
      refine ⟨srcR (B.length + i) (shL B.length xs).length, rfl, shL_len xs, fun k l2 d e => ?_, fun l2 e => ?_⟩
      · rw [shL_len]
        dsimp only [srcR] at e ⊢
        rw [getL_up]
        cases q2 : getL l2 i with
        | none => rw [q2] at e; cases e
        | some ys =>
          rw [q2] at e
          dsimp only [Option.map_some] at e ⊢
          rw [shL_len]
          split at e
          · rename_i hl
            rw [if_pos hl, shL_get, e]; rfl
          · cases e
      · rw [shL_len]
        dsimp only [srcR] at e ⊢
        rw [getL_up]
        cases q2 : getL l2 i with
        | none => rw [q2] at e; cases e
        | some ys =>
          rw [q2] at e
          dsimp only [Option.map_some] at e ⊢
          rw [shL_len]; exact e
  | _ => trivial
theorem up_rng1 (B : Hs) (xs : List Dv) (l : Hs) : UpRS B (rng1D xs l) (rng1D (shL B.length xs) (B ++ shH B.length l)) := by
  match xs with
  | [] => trivial
  | [x] =>
    cases x with
    | int j =>
      dsimp only [rng1D, shL, sh]
      split
      · exact ⟨_, rfl, rfl, fun k l d e => by cases e; rfl, fun _ _ => rfl⟩
      · trivial
    | _ => trivial
  | x :: _ :: _ => cases x <;> trivial
theorem u_mas {f : List Dv → Hs → Rs Src} {ms : M (List Dv)} (h : ∀ (B : Hs) (xs : List Dv) (l : Hs), UpRS B (f xs l) (f (shL B.length xs) (B ++ shH B.length l))) (hs : UpA ms) : UpI (mas f ms) := fun B ρ' ρ l u => (hs B ρ' ρ l u).bindS fun ds l1 => h B ds l1
theorem u_m1s {f : Dv → Hs → Rs Src} {ma : M Dv} (h : ∀ (B : Hs) (x : Dv) (l : Hs), UpRS B (f x l) (f (sh B.length x) (B ++ shH B.length l))) (hs : UpE ma) : UpI (m1s f ma) := fun B ρ' ρ l u => (hs B ρ' ρ l u).bindS fun ds l1 => h B ds l1
/-! ### targets -/
theorem u_name (i : Nat) : UpG (sName i) := fun n d ρ' ρ ρ1 u e => by cases e; exact ⟨_, rfl, u.set i d⟩
/-! ### comprehensions -/
section
variable {mi mi' : M Src} {st st' : Tgt} {test test' : M Bool} {inner : MC} {me : M Dv} {cap : List (Option Nat)}
theorem u_emit (h : UpE me) : UpC (mEmit me) := fun B ρ' ρ l acc u => by
  have hh := h B ρ' ρ l u
  unfold mEmit
  cases q : me ρ' l with
  | bad => trivial
  | ex c l1 => trivial
  | ok d l1 =>
    rw [q] at hh
    rw [show me ρ _ = _ from hh]
    dsimp only
    rw [shL_len]
    split
    · exact ⟨ρ, by rw [shL_app]; rfl, u⟩
    · trivial
theorem comp_up {B : Hs} {s' s : Src} (hs : UpSrc B s' s) (hg : UpG st) (ht : UpT test) (hi : UpC inner) : ∀ (f k : Nat) (ρ' ρ : Ev) (l : Hs) (acc : List Dv), UpV B.length ρ' ρ →
    UpRC B (compM s' st test inner f k ρ' l acc) (compM s st test inner f k ρ (B ++ shH B.length l) (shL B.length acc))
  | 0, k, ρ', ρ, l, acc, u => by
    unfold compM
    split
    · rename_i hf
      rw [if_pos (hs.fin l hf)]
      exact ⟨ρ, rfl, u⟩
    · trivial
  | f + 1, k, ρ', ρ, l, acc, u => by
    unfold compM
    cases q : s'.get k l with
    | none => trivial
    | some d =>
      rw [hs.get k l d q]
      dsimp only
      cases q2 : st d ρ' with
      | none => trivial
      | some ρ1 =>
        obtain ⟨ρ2, e2, u2⟩ := hg B.length d ρ' ρ ρ1 u q2
        rw [e2]
        dsimp only
        have h3 := ht B ρ1 ρ2 l u2
        cases q3 : test ρ1 l with
        | bad => trivial
        | ex c l1 => trivial
        | ok b l1 =>
          rw [q3] at h3
          rw [show test ρ2 _ = _ from h3]
          cases b with
          | true =>
            dsimp only [id]
            have h4 := hi B ρ1 ρ2 l1 acc u2
            cases q4 : inner ρ1 l1 acc with
            | bad => trivial
            | ex c l2 => trivial
            | ok r l2 =>
              obtain ⟨ρ3, acc3⟩ := r
              rw [q4] at h4
              obtain ⟨ρ5, e5, u5⟩ := h4
              rw [e5]
              exact comp_up hs hg ht hi f (k + 1) ρ3 ρ5 l2 acc3 u5
          | false => exact comp_up hs hg ht hi f (k + 1) ρ1 ρ2 l1 acc u2
theorem cap_up {n : Nat} {ρ' ρ : Ev} (u : UpV n ρ' ρ) (cap : List (Option Nat)) : UpV n (capEv cap ρ') (capEv cap ρ) := ⟨by simp [capEv], fun i d e => by
  unfold capEv at e ⊢
  rw [List.getElem?_map] at e ⊢
  cases q : cap[i]? with
  | none => rw [q] at e; cases e
  | some o =>
    rw [q] at e
    cases o with
    | none => cases e
    | some j =>
      dsimp only [Option.map_some] at e ⊢
      cases q2 : ρ'[j]? with
      | none => rw [q2] at e; cases e
      | some o2 =>
        rw [q2] at e
        cases o2 with
        | none => cases e
        | some d2 => cases e; rw [u.at_ j _ q2]; rfl⟩
theorem u_comp (h1 : UpI mi) (hg : UpG st) (ht : UpT test) (hi : UpC inner) : UpA (mComp mi cap st test inner) := fun B ρ' ρ l u => by
  have h := h1 B ρ' ρ l u
  unfold mComp
  cases q : mi ρ' l with
  | bad => trivial
  | ex c l1 =>
    rw [q] at h
    rw [show mi ρ _ = _ from h]; exact rfl
  | ok s' l1 =>
    rw [q] at h
    obtain ⟨s, e, hs⟩ := h
    rw [e]
    simp only [Rs.bind_ok]
    rw [hs.n]
    have h2 := comp_up hs hg ht hi s'.n 0 (capEv cap ρ') (capEv cap ρ) l1 [] (cap_up u cap)
    cases q2 : compM s' st test inner s'.n 0 (capEv cap ρ') l1 [] with
    | bad => trivial
    | ex c l2 => trivial
    | ok r l2 =>
      obtain ⟨ρ3, acc3⟩ := r
      rw [q2] at h2
      obtain ⟨ρ5, e5, u5⟩ := h2
      rw [show compM s st test inner s'.n 0 (capEv cap ρ) (B ++ shH B.length l1) [] = _ from e5]
      exact rfl
end
/-! ### lists that change -/
theorem isL_up (B : Hs) (x : Dv) (l : Hs) (h : isL x l = true) : isL (sh B.length x) (B ++ shH B.length l) = true := by
  cases x with
  | ref j =>
    have h' : (getL l j).isSome = true := h
    show (getL (B ++ shH B.length l) (B.length + j)).isSome = true
    rw [getL_up]
    cases q : getL l j with
    | none => rw [q] at h'; exact absurd h' (by decide)
    | some xs => rfl
  | _ => exact absurd (show false = true from h) Bool.false_ne_true
theorem up_app : Up2 appD := fun B x d l => by
  cases x with
  | ref j =>
    dsimp only [appD, sh]
    rw [getL_up]
    cases getL l j with
    | none => trivial
    | some xs =>
      dsimp only [Option.map_some]
      rw [shL_len, show shL B.length xs ++ [sh B.length d] = shL B.length (xs ++ [d]) by rw [shL_app]; rfl, set_up]
      split
      · exact rfl
      · trivial
  | _ => trivial
section
variable {mo me mi : M Dv} {ml : M (List Dv)} {m u : MS} {t : M Bool}
theorem u_app (ho : UpE mo) (he : UpE me) : UpE (mApp mo me) := fun B ρ' ρ l v => (ho B ρ' ρ l v).bind fun x l1 => by
  split
  · rename_i h
    rw [if_pos (isL_up B x l1 h)]
    exact (he B ρ' ρ l1 v).bind fun d l2 => up_app B x d l2
  · trivial
/-! ### statements -/
theorem u_next : UpS mNext := fun B ρ' ρ l v => ⟨ρ, rfl, v⟩
theorem u_seq (h1 : UpS m) (h2 : UpS u) : UpS (mSeq m u) := fun B ρ' ρ l v => by
  have h := h1 B ρ' ρ l v
  unfold mSeq
  cases q : m ρ' l with
  | bad => trivial
  | nx ρ1 l1 =>
    rw [q] at h
    obtain ⟨ρ2, e, v2⟩ := h
    rw [e]; exact h2 B ρ1 ρ2 l1 v2
  | bk ρ1 l1 => rw [q] at h; obtain ⟨ρ2, e, v2⟩ := h; rw [e]; exact ⟨ρ2, rfl, v2⟩
  | ct ρ1 l1 => rw [q] at h; obtain ⟨ρ2, e, v2⟩ := h; rw [e]; exact ⟨ρ2, rfl, v2⟩
  | rt d l1 => rw [q] at h; rw [show m ρ _ = _ from h]; exact rfl
  | ex c l1 => rw [q] at h; rw [show m ρ _ = _ from h]; exact rfl
theorem u_expr (h : UpE me) : UpS (mExpr me) := fun B ρ' ρ l v => (h B ρ' ρ l v).thenS fun d l1 => ⟨ρ, rfl, v⟩
theorem u_ret (h : UpE me) : UpS (mRet me) := fun B ρ' ρ l v => (h B ρ' ρ l v).thenS fun d l1 => rfl
theorem u_if (hc : UpT t) (h1 : UpS m) (h2 : UpS u) : UpS (mIf t m u) := fun B ρ' ρ l v => (hc B ρ' ρ l v).thenS fun b l1 => by
  cases b with
  | true => exact h1 B ρ' ρ l1 v
  | false => exact h2 B ρ' ρ l1 v
theorem u_asg {st : Tgt} (h : UpE me) (hg : UpG st) : UpS (mAsg me st) := fun B ρ' ρ l v => (h B ρ' ρ l v).thenS fun d l1 => by
  cases q : st d ρ' with
  | none => trivial
  | some ρ1 =>
    obtain ⟨ρ2, e, v2⟩ := hg B.length d ρ' ρ ρ1 v q
    rw [e]; exact ⟨ρ2, rfl, v2⟩
theorem for_up {B : Hs} {s' s : Src} {st : Tgt} (hs : UpSrc B s' s) (hg : UpG st) (hb : UpS m) : ∀ (f k : Nat) (ρ' ρ : Ev) (l : Hs), UpV B.length ρ' ρ → UpSr B (forM s' st m f k ρ' l) (forM s st m f k ρ (B ++ shH B.length l))
  | 0, k, ρ', ρ, l, v => by
    unfold forM
    split
    · rename_i hf
      rw [if_pos (hs.fin l hf)]
      exact ⟨ρ, rfl, v⟩
    · trivial
  | f + 1, k, ρ', ρ, l, v => by
    unfold forM
    cases q : s'.get k l with
    | none => trivial
    | some d =>
      rw [hs.get k l d q]
      dsimp only
      cases q2 : st d ρ' with
      | none => trivial
      | some ρ1 =>
        obtain ⟨ρ2, e2, v2⟩ := hg B.length d ρ' ρ ρ1 v q2
        rw [e2]
        dsimp only
        have h := hb B ρ1 ρ2 l v2
        cases q3 : m ρ1 l with
        | bad => trivial
        | nx ρ3 l1 => rw [q3] at h; obtain ⟨ρ4, e, v4⟩ := h; rw [e]; exact for_up hs hg hb f (k + 1) ρ3 ρ4 l1 v4
        | ct ρ3 l1 => rw [q3] at h; obtain ⟨ρ4, e, v4⟩ := h; rw [e]; exact for_up hs hg hb f (k + 1) ρ3 ρ4 l1 v4
        | bk ρ3 l1 => rw [q3] at h; obtain ⟨ρ4, e, v4⟩ := h; rw [e]; exact ⟨ρ4, rfl, v4⟩
        | rt d l1 => rw [q3] at h; rw [show m ρ2 _ = _ from h]; exact rfl
        | ex c l1 => rw [q3] at h; rw [show m ρ2 _ = _ from h]; exact rfl
theorem u_for {mi : M Src} {st : Tgt} (h1 : UpI mi) (hg : UpG st) (hb : UpS m) : UpS (mFor mi st m) := fun B ρ' ρ l v => by
  have h := h1 B ρ' ρ l v
  unfold mFor
  cases q : mi ρ' l with
  | bad => trivial
  | ex c l1 =>
    rw [q] at h
    rw [show mi ρ _ = _ from h]; exact rfl
  | ok s' l1 =>
    rw [q] at h
    obtain ⟨s, e, hs⟩ := h
    rw [e]
    simp only [Rs.thenS_ok]
    rw [hs.n]
    exact for_up hs hg hb _ _ _ _ _ v
theorem u_raise {c : Nat} {ms : M (List Dv)} (h : UpA ms) : UpS (mRaise c ms) := fun B ρ' ρ l v => (h B ρ' ρ l v).thenS fun ds l1 => by
  rw [shL_len]
  split
  · exact rfl
  · trivial
end
/-! ### calls -/
theorem start_up {n k : Nat} (ds : List Dv) : UpV n (startEv k ds) (startEv k (shL n ds)) := ⟨by simp [startEv, shL_len], fun i d e => by
  unfold startEv at e ⊢
  rw [shL_len]
  by_cases hi : i < ds.length
  · rw [List.getElem?_append_left (by simpa using hi)] at e
    rw [List.getElem?_append_left (by simpa [shL_len] using hi)]
    rw [List.getElem?_map] at e ⊢
    rw [shL_get]
    cases q : ds[i]? with
    | none => rw [q] at e; cases e
    | some x => rw [q] at e; cases e; rfl
  · rw [List.getElem?_append_right (by simpa using hi), List.getElem?_replicate] at e
    split at e <;> cases e⟩
theorem u_fn {np n : Nat} {m : MS} (h : UpS m) : UpF (callM np n m) := fun B ds l => by
  unfold callM
  rw [shL_len]
  split
  · have hh := h B (startEv n ds) (startEv n (shL B.length ds)) l (start_up ds)
    cases q : m (startEv n ds) l with
    | bad => trivial
    | nx ρ1 l1 => rw [q] at hh; obtain ⟨ρ2, e, _⟩ := hh; rw [e]; exact rfl
    | rt d l1 => rw [q] at hh; rw [show m _ _ = _ from hh]; exact rfl
    | ex c l1 => rw [q] at hh; rw [show m _ _ = _ from hh]; exact rfl
    | bk ρ1 l1 => trivial
    | ct ρ1 l1 => trivial
  · trivial
theorem refEv_up {n k : Nat} {d : Dv} (h : sh n d = d) : UpV n (refEv k d) (refEv k d) := ⟨rfl, fun i d' e => by
  unfold refEv at e ⊢
  match i, e with
  | 0, e => simp at e
  | 1, e => simp at e; subst e; simp [h]
  | i + 2, e =>
    simp only [List.getElem?_cons_succ, List.getElem?_replicate] at e
    split at e <;> cases e⟩
theorem capD_up {n : Nat} {ρ' ρ : Ev} (v : UpV n ρ' ρ) : ∀ {caps : List Nat} {ds : List Dv}, capD caps ρ' = some ds → capD caps ρ = some (shL n ds)
  | [], ds, e => by unfold capD at e; cases e; rfl
  | i :: r, ds, e => by
    unfold capD at e ⊢
    cases q : ρ'[i]? with
    | none => rw [q] at e; cases e
    | some o =>
      rw [q] at e
      cases o with
      | none => cases e
      | some d =>
        dsimp only at e
        rw [v.at_ i d q]
        dsimp only
        cases q2 : capD r ρ' with
        | none => rw [q2] at e; cases e
        | some ds2 => rw [q2] at e; cases e; rw [capD_up v q2]; rfl
theorem u_ref {caps : List Nat} {n ncl : Nat} {m : MS} {me : M Dv} (hm : UpS m) (he : UpE me) : UpE (mRef caps n ncl m me) := fun B ρ' ρ l v => by
  unfold mRef
  cases q : capD caps ρ' with
  | none => trivial
  | some ds =>
    rw [capD_up v q]
    dsimp only
    have hv : UpV B.length (ds.map some) ((shL B.length ds).map some) := ⟨by simp [shL_len], fun i d e => by
      rw [List.getElem?_map] at e ⊢
      rw [shL_get]
      cases q : ds[i]? with
      | none => rw [q] at e; cases e
      | some x => rw [q] at e; cases e; rfl⟩
    have h1 := he B _ _ l hv
    have fin : ∀ d l1, sh B.length d = d → UpR B (sh B.length) (endOfN (m (refEv n d) l1)) (endOfN (m (refEv n d) (B ++ shH B.length l1))) := fun d l1 hd => by
      have hh := hm B (refEv n d) (refEv n d) l1 (refEv_up hd)
      cases q : m (refEv n d) l1 with
      | bad => trivial
      | nx ρ1 l2 => rw [q] at hh; obtain ⟨ρ2, e, _⟩ := hh; rw [e]; exact rfl
      | rt d l2 => rw [q] at hh; rw [show m _ _ = _ from hh]; exact rfl
      | ex c l2 => trivial
      | bk ρ1 l2 => trivial
      | ct ρ1 l2 => trivial
    cases q1 : me (ds.map some) l with
    | bad => trivial
    | ok d l1 => rw [q1] at h1; rw [show me _ _ = _ from h1]; exact fin .non l1 rfl
    | ex c l1 =>
      rw [q1] at h1
      rw [show me _ _ = _ from h1]
      unfold refM
      dsimp only
      split
      · exact fin (.exc c) l1 rfl
      · trivial
end L2.Mr
/-! sum of a list of ints, a list times an int, enumerate of a list -/
namespace L2.Mr
open PySem PySem.Spec PyProof.Rows
def intD : Dv → Option Int
  | .int i => some i
  | _ => none
theorem rel_ints {G : Cfg} {μ : Nat → Addr} {n : Nat} {H : Hp} : ∀ {xs : List Dv} {vs : List V} {ns : List Int}, RelDL G μ n H xs vs → optL intD xs = some ns → vs = ns.map V.int
  | [], _, ns, r, e => by cases e; rw [RelDL] at r; subst r; rfl
  | x :: xs, _, ns, r, e => by
    rw [RelDL] at r; obtain ⟨v, rr, rfl, r1, r2⟩ := r
    unfold optL at e
    cases x with
    | int i =>
      dsimp only [intD] at e
      cases q : optL intD xs with
      | none => rw [q] at e; cases e
      | some zs =>
        rw [q] at e; cases e
        rw [RelD] at r1; subst r1
        rw [rel_ints r2 q]; rfl
    | _ => cases e
theorem preSum_list (ns : List Int) : ∀ k, k ≤ ns.length → preSum (fun i => ns.getD i 0) k = (ns.take k).sum
  | 0, _ => by simp [preSum]
  | k + 1, h => by
    rw [preSum, preSum_list ns k (by omega), List.take_succ, List.sum_append]
    have : k < ns.length := by omega
    simp [List.getD, this]
section
variable {X : Cx} {G : Cfg} {E : XK} {e a b : Expr} {es : List Expr} {ma mb : M Dv} {mas : M (List Dv)} {p pos : Pos}
theorem int_at {ns : List Int} {its : List Value} (rv : Vals (ns.map V.int) its) {i : Nat} {v : Value} (e : its.toArray[i]? = some v) : ∃ t, v = .int (ns.getD i 0) t := by
  have hl := rv.length
  rw [List.length_map] at hl
  have e' : its[i]? = some v := by simpa using e
  have hi : i < its.length := (List.getElem?_eq_some_iff.mp e').1
  have hb : i < ns.length := by omega
  obtain ⟨u, e2, r⟩ := rv.get (i := i) (x := V.int ns[i]) (by simp [hb])
  rw [e'] at e2; cases e2
  have hg : ns.getD i 0 = ns[i] := by simp [List.getD, hb]
  rw [hg]
  exact r
theorem call_sumL (hc : X.calm = true) : CallR X (.builtin "sum") (fun xs H Q => ∃ (p : Addr) (ns : List Int), xs = [.ref p] ∧ H p = some (.lst (ns.map V.int)) ∧ Q (.int ns.sum) H) := by
  intro pins s σ H xs us Q I rv ⟨p, ns, e, hp, q⟩
  subst e
  obtain ⟨u, rfl, ru⟩ := vals1 rv
  cases ru
  obtain ⟨its, rits, pl, hz⟩ := I.list (SqL.of hp)
  have hn : its.toArray.size = ns.length := by have := rits.length; simp at this ⊢; omega
  have lp := I.hok.lt hp
  have ne : p ≠ s.heap.objs.size := Nat.ne_of_lt lp
  refine call_sum_walkG (wpAny_pyIter_list pl.isList ⟨_, _, _, _, _, _, fun i => ns.getD i 0, rfl, Walks.list (A := X.A.in1) (show X.A.in1.handled = none from I.ok.hd hc) _ p ne its.toArray, ⟨⟨_, Heap.get?_push_size _ rfl, rfl, rfl⟩, pl.isList.push _⟩, fun b hb => ?_, fun i v ev => int_at rits ev, fun h' tk t' k => ?_⟩)
  · simp only [Heap.size_push]
    simp at hb
    rcases hb with rfl | rfl
    · exact Nat.lt_succ_self _
    · exact Nat.lt_succ_of_lt lp
  · rw [hn, preSum_list ns _ (Nat.le_refl _), List.take_length]
    exact ⟨.int ns.sum, H, (after_walk (tk := tk) I k : Inv X pins σ H { s with heap := h', toks := tk }), ⟨t', rfl⟩, q⟩
def sumD (x : Dv) (h : Hs) : Rs Dv := match x with
  | .ref i => match getL h i with
    | some xs => match optL intD xs with
      | some ns => .ok (.int ns.sum) h
      | none => .bad
    | none => .bad
  | _ => .bad
theorem sumD_ok : UnD G (fun x H Q => ∃ (p : Addr) (ns : List Int), x = .ref p ∧ H p = some (.lst (ns.map V.int)) ∧ Q (.int ns.sum) H) sumD := by
  intro E μ h H x vx Q s r o
  cases x with
  | ref i =>
    dsimp only [sumD] at o
    cases q : getL h i with
    | none => rw [q] at o; exact o.elim
    | some xs =>
      rw [q] at o
      dsimp only at o
      cases q2 : optL intD xs with
      | none => rw [q2] at o; exact o.elim
      | some ns =>
        rw [q2] at o
        obtain ⟨vs, e1, r1⟩ := s.ob i _ (getL_some q)
        obtain ⟨_, rfl⟩ := r
        exact ⟨_, ns, rfl, by rw [e1, rel_ints r1 q2], o.val s rfl⟩
  | _ => exact o.elim
theorem b_sum : bootBuiltins "sum" = some (.builtin "sum") := by decide +kernel
theorem x_sum (hc : X.calm = true) (hg : Gl X "sum") (hm : X.mg "sum" = none) (ha : SndA X G E (e :: es) mas)
    (he : starEach (e :: es) X.env = (false, eval e X.env) :: starEach es X.env := by rfl) (hpl : (backTo pos (starEach es X.env)).any (·.1) = false := by rfl) : Snd X G E (.Call (.Name "sum" p) (e :: es) [] pos) (mCall (f1 sumD) mas) :=
  snd_callB (CallR.imp (call_sumL hc) fun xs H Q ⟨v, h1, a, ns, h2, h3, h4⟩ => ⟨a, ns, by rw [h1, h2], h3, h4⟩) (f1_ok sumD_ok) hg hm b_sum ha (by decide) (by decide) he hpl
theorem optL_up {n : Nat} : ∀ xs : List Dv, optL intD (shL n xs) = optL intD xs
  | [] => rfl
  | x :: xs => by
    rw [shL]
    unfold optL
    rw [optL_up xs]
    cases x <;> rfl
theorem up_sum : Up1 sumD := fun B x l => by
  cases x with
  | ref i =>
    dsimp only [sumD, sh]
    rw [getL_up]
    cases getL l i with
    | none => trivial
    | some xs =>
      dsimp only [Option.map_some]
      rw [optL_up]
      cases optL intD xs with
      | none => trivial
      | some ns => exact rfl
  | _ => trivial
/-! ### a list times an int -/
def repD : Dv → Dv → Hs → Rs Dv
  | .ref i, .int k, h => match getL h i with
    | some xs => if (inW k && decide (k < 9223372036854775808) && decide (-9223372036854775808 ≤ k) && decide (xs.length * k.toNat ≤ 1000000)) = true then .ok (.ref h.length) (h ++ [.lst (List.replicate k.toNat xs).flatten]) else .bad
    | none => .bad
  | _, _, _ => .bad
theorem RelDL.rep {μ : Nat → Addr} {n : Nat} {H : Hp} {ds : List Dv} {vs : List V} (r : RelDL G μ n H ds vs) : ∀ k : Nat, RelDL G μ n H (List.replicate k ds).flatten (List.replicate k vs).flatten
  | 0 => RelDL.nil
  | k + 1 => by rw [List.replicate_succ, List.replicate_succ, List.flatten_cons, List.flatten_cons]; exact r.append (RelDL.rep r k)
theorem repD_ok : OpD G rRep repD := by
  intro E μ h H x y vx vy Q s rx ry o
  cases x with
  | ref i =>
    cases y with
    | int k =>
      dsimp only [repD] at o
      cases q : getL h i with
      | none => rw [q] at o; exact o.elim
      | some xs =>
        rw [q] at o
        dsimp only at o
        split at o
        · rename_i hb
          simp only [Bool.and_eq_true, decide_eq_true_eq] at hb
          obtain ⟨⟨⟨_, h1⟩, h2⟩, h3⟩ := hb
          obtain ⟨vs, e1, r1⟩ := s.ob i _ (getL_some q)
          obtain ⟨_, rfl⟩ := rx
          rw [RelD] at ry; subst ry
          refine ⟨_, k, vs, rfl, rfl, e1, by omega, by omega, by rw [r1.length]; exact Nat.le_trans h3 (by decide), fun p hp => ?_⟩
          exact out_lst s (r1.rep k.toNat) hp o
        · exact o.elim
    | _ => exact o.elim
  | _ => cases y <;> exact o.elim
theorem x_rep (ha : Snd X G E a ma) (hb : Snd X G E b mb) : Snd X G E (.BinOp a .Mult b pos) (m2 repD ma mb) := snd_op op_rep repD_ok ha hb
theorem up_rep : Up2 repD := fun B x y l => by
  cases x with
  | ref i =>
    cases y with
    | int k =>
      dsimp only [repD, sh]
      rw [getL_up]
      cases getL l i with
      | none => trivial
      | some xs =>
        dsimp only [Option.map_some]
        rw [shL_len, len_up]
        split
        · rw [show (List.replicate k.toNat (shL B.length xs)).flatten = shL B.length (List.replicate k.toNat xs).flatten by simp [shL_map, List.map_flatten, List.map_replicate], alloc_up]
          exact rfl
        · trivial
    | _ => trivial
  | _ => cases y <;> trivial
end
/-! ### enumerate of a list -/
section
variable {X : Cx} {G : Cfg} {E : XK} {a : Expr} {elts : List Expr} {kk : Nat} {tp p pos : Pos} {ma : M Dv} {ms : M (List Dv)}
end
end L2.Mr
/-! max and min of a list of ints; sorted of a list of ints -/
namespace L2.Mr
open PySem PySem.Spec PyProof.Rows
/-- the best so far -/
def bestI (g : Int → Int → Bool) (val : Nat → Int) : Nat → Int
  | 0 => val 0
  | k + 1 => if g (val (k + 1)) (bestI g val k) then val (k + 1) else bestI g val k
theorem argBest_val (g : Int → Int → Bool) (val : Nat → Int) : ∀ k, val (argBest (fun i j => g (val i) (val j)) k) = bestI g val k
  | 0 => rfl
  | k + 1 => by
    rw [argBest, bestI, ← argBest_val g val k]
    split <;> rfl
def maxI (ns : List Int) : Int := bestI (fun a b => decide (a > b)) (fun i => ns.getD i 0) (ns.length - 1)
def insI (x : Int) : List Int → List Int
  | [] => [x]
  | y :: ys => if x ≤ y then x :: y :: ys else y :: insI x ys
def sortI : List Int → List Int
  | [] => []
  | x :: xs => insI x (sortI xs)
theorem ins_perm (x : Int) : ∀ ys, (insI x ys).Perm (x :: ys)
  | [] => List.Perm.refl _
  | y :: ys => by
    unfold insI
    split
    · exact List.Perm.refl _
    · exact ((ins_perm x ys).cons y).trans (List.Perm.swap x y ys)
theorem sort_perm : ∀ xs, (sortI xs).Perm xs
  | [] => List.Perm.refl _
  | x :: xs => (ins_perm x (sortI xs)).trans ((sort_perm xs).cons x)
theorem ins_up (x : Int) : ∀ ys, ys.Pairwise (· ≤ ·) → (insI x ys).Pairwise (· ≤ ·)
  | [], _ => by simp [insI]
  | y :: ys, h => by
    have h1 := List.pairwise_cons.mp h
    unfold insI
    split
    · rename_i hxy
      refine List.pairwise_cons.mpr ⟨fun z hz => ?_, h⟩
      rcases List.mem_cons.mp hz with rfl | hz
      · exact hxy
      · exact Int.le_trans hxy (h1.1 z hz)
    · rename_i hxy
      refine List.pairwise_cons.mpr ⟨fun z hz => ?_, ins_up x ys h1.2⟩
      rcases List.mem_cons.mp ((ins_perm x ys).subset hz) with rfl | hz
      · omega
      · exact h1.1 z hz
theorem sort_up : ∀ xs, (sortI xs).Pairwise (· ≤ ·)
  | [] => List.Pairwise.nil
  | x :: xs => ins_up x _ (sort_up xs)
theorem sort_uniq {ms ns : List Int} (hp : ms.Perm ns) (hs : ms.Pairwise (· ≤ ·)) : ms = sortI ns :=
  List.Perm.eq_of_pairwise (le := (· ≤ ·)) (fun a b _ _ h1 h2 => Int.le_antisymm h1 h2) hs (sort_up ns) (hp.trans (sort_perm ns).symm)
theorem sort_len (xs : List Int) : (sortI xs).length = xs.length := (sort_perm xs).length_eq
section
variable {X : Cx} {G : Cfg} {E : XK} {e a b : Expr} {es : List Expr} {ma mb : M Dv} {mas : M (List Dv)} {p pos : Pos}
/-- of a list of ints, made an int -/
abbrev rL1 (f : List Int → Int) : List V → Hp → VK → Prop := fun xs H Q => ∃ (p : Addr) (ns : List Int), xs = [.ref p] ∧ H p = some (.lst (ns.map V.int)) ∧ 0 < ns.length ∧ Q (.int (f ns)) H
theorem call_maxL (hc : X.calm = true) : CallR X (.builtin "max") (rL1 maxI) := by
  intro pins s σ H xs us Q I rv ⟨p, ns, e, hp, h0, q⟩
  subst e
  obtain ⟨u, rfl, ru⟩ := vals1 rv
  cases ru
  obtain ⟨its, rits, pl, hz⟩ := I.list (SqL.of hp)
  have hn : its.toArray.size = ns.length := by have := rits.length; simp at this ⊢; omega
  have lp := I.hok.lt hp
  have ne : p ≠ s.heap.objs.size := Nat.ne_of_lt lp
  refine call_max_walk (wpAny_pyIter_list pl.isList ⟨_, _, _, _, _, _, _, rfl, Walks.list (A := X.A.in1) (show X.A.in1.handled = none from I.ok.hd hc) _ p ne its.toArray, ⟨⟨_, Heap.get?_push_size _ rfl, rfl, rfl⟩, pl.isList.push _⟩, fun b hb => ?_, by rw [hn]; exact h0, CmpOf.ints_gt (fun i => ns.getD i 0) (fun i v ev => int_at rits ev), fun v h' tk ev k => ?_⟩)
  · simp only [Heap.size_push]
    simp at hb
    rcases hb with rfl | rfl
    · exact Nat.lt_succ_self _
    · exact Nat.lt_succ_of_lt lp
  · obtain ⟨t', rfl⟩ := int_at rits ev
    refine ⟨.int (maxI ns), H, (after_walk (tk := tk) I k : Inv X pins σ H { s with heap := h', toks := tk }), ⟨t', ?_⟩, q⟩
    rw [hn]
    rw [argBest_val (fun a b => decide (a > b)) (fun i => ns.getD i 0)]
    rfl
theorem ints_vals : ∀ {vs : List Value} {ns : List Int}, Vals (ns.map V.int) vs → IntsAre vs ns
  | [], [], _ => .nil
  | [], n :: ns, h => by cases h
  | v :: vs, [], h => by cases h
  | v :: vs, n :: ns, h => by
    cases h with
    | cons h1 h2 =>
      obtain ⟨t, rfl⟩ := h1
      exact .cons _ _ (ints_vals h2)
theorem vals_ints : ∀ {vs : List Value} {ns : List Int}, IntsAre vs ns → Vals (ns.map V.int) vs
  | _, _, .nil => .nil
  | _, _, .cons _ _ h => .cons ⟨_, rfl⟩ (vals_ints h)
theorem call_sortedL : CallR X (.builtin "sorted") (fun xs H Q => ∃ (p : Addr) (ns : List Int), xs = [.ref p] ∧ H p = some (.lst (ns.map V.int)) ∧ ns.length < 64 ∧ ∀ l, H l = none → Q (.ref l) (upd H l (.lst ((sortI ns).map V.int)))) := by
  intro pins s σ H xs us Q I rv ⟨p, ns, e, hp, h0, q⟩
  subst e
  obtain ⟨u, rfl, ru⟩ := vals1 rv
  cases ru
  obtain ⟨its, rits, pl, hz⟩ := I.list (SqL.of hp)
  have hl := rits.length
  rw [List.length_map] at hl
  refine sorted_ints pl.isList (ints_vals rits) (by omega) fun out ns' a1 a2 a3 => ?_
  obtain ⟨ep, he⟩ := sortedAll_at s.heap its out
  have hu := sort_uniq a2 a3
  subst hu
  refine ⟨.ref (s.heap.objs.size + 1), _, I.laid (t' := s.toks) (fun b u hb => sortedAll_old hb) (Nat.le_succ _) (show ObjOk X.prog X.w _ _ _ (.lst ((sortI ns).map V.int)) from ⟨?_, out.toList, ep, vals_ints a1, ?_⟩), rfl, q _ (I.hok.fresh (Nat.le_succ _))⟩
  · rw [List.length_map, sort_len]
    exact Nat.le_trans (Nat.le_of_lt h0) (by decide)
  · rw [he]
def l1D (f : List Int → Int) (x : Dv) (h : Hs) : Rs Dv := match x with
  | .ref i => match getL h i with
    | some xs => match optL intD xs with
      | some ns => if 0 < ns.length then .ok (.int (f ns)) h else .bad
      | none => .bad
    | none => .bad
  | _ => .bad
theorem l1D_ok {f : List Int → Int} : UnD G (fun x H Q => rL1 f [x] H Q) (l1D f) := by
  intro E μ h H x vx Q s r o
  cases x with
  | ref i =>
    dsimp only [l1D] at o
    cases q : getL h i with
    | none => rw [q] at o; exact o.elim
    | some xs =>
      rw [q] at o
      dsimp only at o
      cases q2 : optL intD xs with
      | none => rw [q2] at o; exact o.elim
      | some ns =>
        rw [q2] at o
        dsimp only at o
        split at o
        · rename_i h0
          obtain ⟨vs, e1, r1⟩ := s.ob i _ (getL_some q)
          obtain ⟨_, rfl⟩ := r
          exact ⟨_, ns, rfl, by rw [e1, rel_ints r1 q2], h0, o.val s rfl⟩
        · exact o.elim
  | _ => exact o.elim
theorem b_sorted : bootBuiltins "sorted" = some (.builtin "sorted") := by decide +kernel
theorem x_maxL (hc : X.calm = true) (hg : Gl X "max") (hm : X.mg "max" = none) (ha : SndA X G E [e] mas)
    (he : starEach [e] X.env = [(false, eval e X.env)] := by rfl) : Snd X G E (.Call (.Name "max" p) [e] [] pos) (mCall (f1 (l1D maxI)) mas) :=
  snd_callB (CallR.imp (call_maxL hc) fun xs H Q ⟨v, h1, a, ns, h2, h3⟩ => ⟨a, ns, by rw [h1, h2], h3⟩) (f1_ok l1D_ok) hg hm b_max ha (by decide) (by decide) he rfl
theorem up_l1 {f : List Int → Int} : Up1 (l1D f) := fun B x l => by
  cases x with
  | ref i =>
    dsimp only [l1D, sh]
    rw [getL_up]
    cases getL l i with
    | none => trivial
    | some xs =>
      dsimp only [Option.map_some]
      rw [optL_up]
      cases optL intD xs with
      | none => trivial
      | some ns =>
        dsimp only
        split
        · exact rfl
        · trivial
  | _ => trivial
/-! ### sorted -/
def sortD (x : Dv) (h : Hs) : Rs Dv := match x with
  | .ref i => match getL h i with
    | some xs => match optL intD xs with
      | some ns => if ns.length < 64 then .ok (.ref h.length) (h ++ [.lst ((sortI ns).map Dv.int)]) else .bad
      | none => .bad
    | none => .bad
  | _ => .bad
theorem sortD_ok : UnD G (fun x H Q => ∃ (p : Addr) (ns : List Int), x = .ref p ∧ H p = some (.lst (ns.map V.int)) ∧ ns.length < 64 ∧ ∀ l, H l = none → Q (.ref l) (upd H l (.lst ((sortI ns).map V.int)))) sortD := by
  intro E μ h H x vx Q s r o
  cases x with
  | ref i =>
    dsimp only [sortD] at o
    cases q : getL h i with
    | none => rw [q] at o; exact o.elim
    | some xs =>
      rw [q] at o
      dsimp only at o
      cases q2 : optL intD xs with
      | none => rw [q2] at o; exact o.elim
      | some ns =>
        rw [q2] at o
        dsimp only at o
        split at o
        · rename_i h0
          obtain ⟨vs, e1, r1⟩ := s.ob i _ (getL_some q)
          obtain ⟨_, rfl⟩ := r
          exact ⟨_, ns, rfl, by rw [e1, rel_ints r1 q2], h0, fun l hl => out_lst s (relDL_ints _) hl o⟩
        · exact o.elim
  | _ => exact o.elim
theorem x_sorted (hg : Gl X "sorted") (hm : X.mg "sorted" = none) (ha : SndA X G E [e] mas)
    (he : starEach [e] X.env = [(false, eval e X.env)] := by rfl) : Snd X G E (.Call (.Name "sorted" p) [e] [] pos) (mCall (f1 sortD) mas) :=
  snd_callB (CallR.imp call_sortedL fun xs H Q ⟨v, h1, a, ns, h2, h3⟩ => ⟨a, ns, by rw [h1, h2], h3⟩) (f1_ok sortD_ok) hg hm b_sorted ha (by decide) (by decide) he rfl
theorem shL_ints {n : Nat} (ns : List Int) : shL n (ns.map Dv.int) = ns.map Dv.int := by
  rw [shL_map]; simp [sh]
theorem up_sort : Up1 sortD := fun B x l => by
  cases x with
  | ref i =>
    dsimp only [sortD, sh]
    rw [getL_up]
    cases getL l i with
    | none => trivial
    | some xs =>
      dsimp only [Option.map_some]
      rw [optL_up]
      cases optL intD xs with
      | none => trivial
      | some ns =>
        dsimp only
        split
        · rw [← shL_ints (n := B.length) (sortI ns), len_up, alloc_up]
          show UpR B _ (.ok _ _) _
          rw [shL_ints]
          exact rfl
        · trivial
  | _ => trivial
end
end L2.Mr
/-! // by any divisor of a word, () + t, t.index(i) -/
namespace L2.Mr
open PySem PySem.Spec PyProof.Rows
section
variable {X : Cx} {G : Cfg} {E : XK} {e o a b : Expr} {es : List Expr} {ma mb mo me : M Dv} {mas : M (List Dv)} {p pos np apos cpos : Pos} {y : Str}
/-! ### // -/
def CDivW (_ j : Int) : Prop := 0 < j ∧ j < 18446744073709551616
theorem op_fdivW : OpR X (binaryOp .FloorDiv) (rI CDivW fun i j => .int (i / j)) := opI fun i j _ _ _ _ _ hc q => by
  have h1 : (0 : Int) < j := hc.1
  have h2 : j < 18446744073709551616 := hc.2
  refine floordiv_int (by omega) (by rw [Int.fdiv_eq_ediv_of_nonneg i (by omega)]; exact q) (.inl (PyProof.noPylong_of_log2 ?_))
  have h3 : j.natAbs ≠ 0 := by omega
  have h4 : j.natAbs < 2 ^ 64 := by omega
  have := (Nat.log2_lt h3).mpr h4
  omega
def divW (_ j : Int) : Bool := decide (0 < j) && decide (j < 18446744073709551616)
theorem divW_ok (i j : Int) (h : divW i j = true) : CDivW i j := by
  unfold divW at h; unfold CDivW
  simpa only [Bool.and_eq_true, decide_eq_true_eq] using h
def fdivW : Dv → Dv → Hs → Rs Dv := iOpC divW fun i j => .int (i / j)
theorem x_fdivW (ha : Snd X G E a ma) (hb : Snd X G E b mb) : Snd X G E (.BinOp a .FloorDiv b pos) (m2 fdivW ma mb) := snd_op op_fdivW (iOpC_int divW_ok) ha hb
theorem up_fdivW : Up2 fdivW := up_iOpC
/-! ### () + t -/
def rCatT0 (K : PySem.W.Frag) : R2 := fun x y H Q => ∃ a b ys, x = .ref a ∧ y = .ref b ∧ SqT K H a [] ∧ SqT K H b ys ∧ Q (.ref b) H
theorem op_catT0 : OpR X (binaryOp .Add) (rCatT0 X.K) := by
  intro pins s σ H x y v u Q I rx ry ⟨a, b, ys, e1, e2, ha, hb, q⟩
  subst e1; subst e2
  cases rx
  cases ry
  obtain ⟨its, r1, p1, _⟩ := I.tuple ha
  obtain ⟨its2, r2, p2, _⟩ := I.tuple hb
  have hn : its = [] := r1.nil_iff.mpr rfl
  subst hn
  obtain ⟨⟨cls, dd, data, sl⟩, ho, hc, n, hd⟩ := p1
  obtain ⟨⟨cls2, dd2, data2, sl2⟩, ho2, hc2, n2, hd2⟩ := p2
  simp only at hc hd hc2 hd2
  subst hc hd hc2 hd2
  exact concat_meets ⟨_, ho, rfl⟩ ⟨_, ho2, rfl⟩ noFill_tuple_add seq_tuple_add PySem.F.slot_tuple_add PySem.F.entry_tuple_add (PySem.F.args_tuple_add_2 _ _)
    (tuple_addW0 a b _ _ n n2 dd dd2 sl sl2 rfl) ⟨ho, ho2, ⟨.ref b, H, I, rfl, q⟩⟩
def addE (x y : Dv) (h : Hs) : Rs Dv := match x, y with
  | .tup [], .tup ys => .ok (.tup ys) h
  | x, y => addD x y h
theorem addE_ok : OpD G (fun x y H Q => rCatT0 G.K x y H Q ∨ rAddG G.K x y H Q) addE := by
  intro E μ h H x y vx vy Q s rx ry o
  unfold addE at o
  split at o
  · rename_i ys
    obtain ⟨a, vs, rfl, ea, ra⟩ := rx
    obtain ⟨b, ws, rfl, eb, rb⟩ := id ry
    have : vs = [] := by rw [RelDL] at ra; exact ra
    subst this
    exact .inl ⟨a, b, ws, rfl, rfl, SqT.of ea, SqT.of eb, o.val s ry⟩
  · exact .inr (addD_ok E μ h H _ _ vx vy Q s rx ry o)
theorem x_addE (ha : Snd X G E a ma) (hb : Snd X G E b mb) : Snd X G E (.BinOp a .Add b pos) (m2 addE ma mb) := fun hK => snd_op (op_catT0.or op_addG) (by rw [hK]; exact addE_ok) ha hb hK
theorem up_addE : Up2 addE := fun B x y l => by
  have h := up_add B x y l
  cases x with
  | tup xs =>
    cases xs with
    | nil =>
      cases y with
      | tup ys => exact rfl
      | _ => exact h
    | cons z zs => cases y <;> exact h
  | _ => cases y <;> exact h
/-! ### t.index(i) -/
def posI (k : Int) : List Int → Option Nat
  | [] => none
  | n :: ns => if n = k then some 0 else (posI k ns).map (· + 1)
theorem pos_ok {k : Int} : ∀ {ns : List Int} {j : Nat}, posI k ns = some j → ns[j]? = some k ∧ ∀ m, m < j → ns[m]? ≠ some k
  | [], j, h => by cases h
  | n :: ns, j, h => by
    unfold posI at h
    split at h
    · rename_i e
      cases h
      exact ⟨by simp [e], fun m hm => by omega⟩
    · rename_i e
      cases q : posI k ns with
      | none => rw [q] at h; cases h
      | some i =>
        rw [q] at h; cases h
        obtain ⟨h1, h2⟩ := pos_ok q
        refine ⟨by simpa using h1, fun m hm => ?_⟩
        cases m with
        | zero => simpa using e
        | succ m =>
          have hm' : m < i := by simpa using hm
          simpa using h2 m hm'
theorem ints_at : ∀ {vs : List Value} {ns : List Int} {i : Nat} {n : Int}, IntsAre vs ns → ns[i]? = some n → ∃ t, vs[i]? = some (.int n t)
  | _, _, 0, n, .cons m t h, e => by simp at e; subst e; exact ⟨t, rfl⟩
  | _, _, i + 1, n, .cons m t h, e => by simpa using ints_at h (by simpa using e)
  | _, _, i, n, .nil, e => by simp at e
theorem args_ti (a b : Value) : argsOk "tuple.index" ⟨[a, b], []⟩ := by unfold argsOk; kernel_rfl
theorem tup_index_tree {prog : Program} {w : World} {A : Around} {E : Value → Shared → Prop} {s : Shared} {t : Addr} {items : Array Value} {ns : List Int} {k : Int} {u : Tok} {j : Nat} {P : Fin → Shared → Prop} (ht : IsTup s.heap t items) (hi : IntsAre items.toList ns)
    (hj : ns[j]? = some k) (hno : ∀ m, m < j → ns[m]? ≠ some k) (h : P (.done (.ret (.int j s.toks))) { s with toks := s.toks + 1 }) : wpAny (model prog w) A (Builtin.«tuple.index» ⟨[.ref t, .int k u], []⟩) P E s := by
  show wpAny _ _ (Builtin.Tuple.tupleItemsOf (.ref t) >>= _) _ _ s
  refine wpAny_bind (tupleItemsOf_ ht ?_)
  refine wpAny_bind (wpAny_pure ?_)
  refine wpAny_bind (wpAny_pure ?_)
  show wpAny _ _ (forIn [:min items.size items.size] (none, ()) _ >>= _) _ _ s
  rw [Nat.min_self, Std.Legacy.Range.forIn_eq_forIn_range']
  have hsz : items.size = ns.length := by have := hi.length; simpa using this
  have hjn : j < ns.length := (List.getElem?_eq_some_iff.mp hj).1
  refine wpAny_bind (wpAny_forIn_list _ (fun rest b s' => b = (none, ()) ∧ s' = s ∧ ∃ i, i ≤ j ∧ rest = List.range' i (items.size - i) 1) _ ?_ ?_ _ _ ⟨rfl, rfl, 0, Nat.zero_le _, ?_⟩)
  · rintro x rest b s' ⟨rfl, rfl, i, hij, hr⟩
    have hlt : i < items.size := by omega
    obtain ⟨z, hz⟩ : ∃ z, items.size - i = z + 1 := ⟨items.size - i - 1, by omega⟩
    rw [hz, List.range'_succ] at hr
    injection hr with hx hrest
    subst hx
    obtain ⟨n, hn⟩ : ∃ n, ns[x]? = some n := ⟨ns[x]'(by omega), by simp [show x < ns.length by omega]⟩
    obtain ⟨tt, ht2⟩ := ints_at hi hn
    have ht3 : items[x]? = some (.int n tt) := by simpa using ht2
    rw [ht3]
    dsimp only
    refine wpAny_bind (wpAny_eqBool_int ?_)
    by_cases hxj : x = j
    · subst hxj
      have hnk : n = k := by rw [hj] at hn; cases hn; rfl
      subst hnk
      rw [if_pos (by simp)]
      refine wpAny_bind (wpAny_bind (wpAny_mkInt ?_))
      exact wpAny_pure (wpAny_pure (wpAny_pure h))
    · have hne : n ≠ k := fun e => hno x (by omega) (by rw [hn, e])
      rw [if_neg (by simpa using hne)]
      exact wpAny_pure ⟨rfl, rfl, x + 1, by omega, by rw [hrest]; congr 1; omega⟩
  · rintro b s' ⟨rfl, rfl, i, hij, hr⟩
    exfalso
    have hlt : i < items.size := by omega
    have := congrArg List.length hr
    simp at this
    omega
  · simp [Std.Legacy.Range.size]
theorem mt_index : MtR X "tuple.index" (fun x xs H Q => ∃ (a : Addr) (ns : List Int) (k : Int) (j : Nat), x = .ref a ∧ xs = [.int k] ∧ H a = some (.tup (ns.map V.int)) ∧ posI k ns = some j ∧ Q (.int j) H) := by
  intro pins s σ H x xs v us Q I rx rv ⟨a, ns, k, j, e1, e2, ha, hj, q⟩
  subst e1; subst e2
  cases rx
  obtain ⟨u, rfl, ru⟩ := vals1 rv
  obtain ⟨t, rfl⟩ := ru
  obtain ⟨its, rits, p1, _⟩ := I.tuple (SqT.of ha)
  obtain ⟨h1, h2⟩ := pos_ok hj
  refine wpAny_call_entry PySem.F.slot_tuple_index p1.typeIs PySem.F.entry_tuple_index (tup_index_tree p1 (ints_vals rits) h1 h2 ⟨_, rfl, ?_⟩) (args_ti _ _)
  exact ⟨.int j, H, I.tok _, ⟨_, rfl⟩, q⟩
/-- a method of a tracked tuple -/
theorem pe_bt {id : String} {name : Str} {r : V → List V → Hp → VK → Prop} {to : TE} {t : TA} (slot : Slot "tuple" name id) (hty : typeOf (.builtin id) = pure (.type "method_descriptor")) (hm : MtR X id r) (ho : PE X o to) (ha : PA X [e] t)
    (hbase : attributeBase o name X.env (eval o X.env) = eval o X.env)
    (hfew : ((backTo cpos (starEach [e] X.env)).all (fun x => !x.1) && (backToKw cpos (keywordEach [] X.env)).all (fun x => x.1.isSome)
      && decide ([e].length + ([] : List Keyword).length + (if ([] : List Keyword).isEmpty then 0 else 1) < 30)) = true)
    (hline : (apos.endLine == cpos.line) = true) (hs : starEach [e] X.env = [(false, eval e X.env)]) :
    PE X (.Call (.Attribute o name apos) [e] [] cpos) (fun σ H Q => to σ H fun x H1 => (∃ a xs, x = .ref a ∧ H1 a = some (.tup xs)) ∧ t σ H1 fun xs H2 => r x xs H2 Q) := by
  intro pins s σ H Q I h
  refine wpAny_Call_method_late hbase hfew hline rfl (thn (ho pins s σ H _ I h) fun v s1 ⟨x, H1, I1, r1, ⟨a, ys, ex, ea⟩, q1⟩ => ?_)
  subst ex
  cases r1
  obtain ⟨_, its, rits, ob, g1, g2, g3, n, g4⟩ := (show ObjOk X.prog X.w H1 s1.heap a (.tup ys) from I1.hok a _ ea)
  refine ⟨"tuple", id, PySem.F.plainAttrs_tuple, slot, hty, ⟨ob, g1, g2⟩, fun b eb => ?_, ?_⟩
  · cases eb
    exact ⟨ob, g1, g3⟩
  · have hA := ha cpos pins s1 σ H1 _ I1 q1
    rw [hs] at hA ⊢
    exact Calls.callWith_builtin (by rfl) (Calls.evalArgs_plain (thn hA fun us s2 ⟨vs, H2, I2, r2, q2⟩ => hm pins s2 σ H2 (.ref a) vs (.ref a) us Q I2 rfl r2 q2))
def idxD (x i : Dv) (h : Hs) : Rs Dv := match x, i with
  | .tup xs, .int k => match optL intD xs with
    | some ns => match posI k ns with
      | some j => .ok (.int j) h
      | none => .bad
    | none => .bad
  | _, _ => .bad
def isTp (x : Dv) : Bool := match x with
  | .tup _ => true
  | _ => false
def mIdx (mo me : M Dv) : M Dv := fun ρ h => (mo ρ h).bind fun x h1 => if isTp x = true then (me ρ h1).bind fun d h2 => idxD x d h2 else .bad
theorem snd_index (ho : Snd X G E (.Name y np) mo) (he : Snd X G E e me) (hs : starEach [e] X.env = [(false, eval e X.env)] := by rfl) (hl : (apos.endLine == cpos.line) = true := by rfl) : Snd X G E (.Call (.Attribute (.Name y np) "index" apos) [e] [] cpos) (mIdx mo me) := fun hK =>
  PE.imp (pe_bt PySem.F.slot_tuple_index PySem.F.type_tuple_index mt_index (ho hK) (pa_cons (he hK) pa_nil hs) rfl (by rw [hs]; rfl) hl hs) fun σ H Q ⟨μ, ρ, h, rs, s, oo⟩ => tOf_bind rs s oo fun μ1 x h1 vx H1 x1 rs1 s1 r1 o1 => by
    split at o1
    · rename_i hl
      cases x with
      | tup xs =>
        obtain ⟨a, vs, rfl, ea, ra⟩ := id r1
        refine ⟨⟨a, vs, rfl, ea⟩, tOf_bind rs1 s1 o1 fun μ2 d h2 vd H2 x2 rs2 s2 r2 o2 => ?_⟩
        cases d with
        | int k =>
          dsimp only [idxD] at o2
          cases q : optL intD xs with
          | none => rw [q] at o2; exact o2.elim
          | some ns =>
            rw [q] at o2
            dsimp only at o2
            cases q2 : posI k ns with
            | none => rw [q2] at o2; exact o2.elim
            | some j =>
              rw [q2] at o2
              obtain ⟨a', vs', e', ea', ra'⟩ := RelD.mono x2 _ _ r1
              cases e'
              rw [RelD] at r2; subst r2
              exact ⟨_, ns, k, j, rfl, rfl, by rw [ea', rel_ints ra' q], q2, o2.val s2 rfl⟩
        | _ => exact o2.elim
      | _ => cases hl
    · exact o1.elim
end
end L2.Mr
/-! short forms: in, not in, is None, slices; moved up -/
namespace L2.Mr
open PySem PySem.Spec PyProof.Rows
section
variable {X : Cx} {G : Cfg} {E : XK} {k : Nat} {a b : Expr} {ma mb mo : M Dv} {pos : Pos}
theorem t_nin (g : Good X G E k) (ha : Snd X G E a ma) (hb : Snd X G E b mb) (hm : lastMarks [.NotIn] [b] = false := by with_unfolding_all rfl) : SndT X G E (.Compare a [.NotIn] [b] pos) (mB (m2 (in0 true) ma mb)) := fun hK => tt_cmp (op_notInG g.room.units) (by rw [hK]; exact in0_ok true) ha hb hm hK
theorem t_is (ha : Snd X G E a ma) (hb : Snd X G E b mb) : SndT X G E (.Compare a [.Is] [b] pos) (mB (m2 (isC false) ma mb)) := tt_cmp op_isC (isC_ok false) ha hb (nomark _)
end
abbrev UpO (m : MO) : Prop := ∀ (B : Hs) (ρ' ρ : Ev) (l : Hs), UpV B.length ρ' ρ → UpR B id (m ρ' l) (m ρ (B ++ shH B.length l))
theorem u_noB : UpO mNoB := fun B ρ' ρ l v => rfl
theorem u_bd {m : M Dv} (h : UpE m) : UpO (mBd m) := fun B ρ' ρ l v => (h B ρ' ρ l v).bind fun d l1 => by cases d <;> first | trivial | exact rfl
theorem cut_up {n : Nat} (xs : List Dv) (lo hi : Option Int) : cutD (shL n xs) lo hi = shL n (cutD xs lo hi) := by
  unfold cutD
  rw [shL_len]
  simp [shL_map, List.map_drop, List.map_take]
theorem sl_up (B : Hs) (x : Dv) (lo hi : Option Int) (l : Hs) : UpR B (sh B.length) (slD x lo hi l) (slD (sh B.length x) lo hi (B ++ shH B.length l)) := by
  cases x with
  | ref j =>
    dsimp only [slD, sh]
    rw [getL_up]
    cases getL l j with
    | none => trivial
    | some xs =>
      dsimp only [Option.map_some]
      rw [cut_up, len_up, alloc_up]; exact rfl
  | tup xs =>
    dsimp only [slD, sh]
    rw [shL_len, cut_up]
    split
    · trivial
    · exact rfl
  | _ => trivial
theorem u_slice {mo : M Dv} {ml mh : MO} (ho : UpE mo) (hl : UpO ml) (hh : UpO mh) : UpE (mSl mo ml mh) := fun B ρ' ρ l v => (ho B ρ' ρ l v).bind fun x l1 => (hl B ρ' ρ l1 v).bind fun lo l2 => (hh B ρ' ρ l2 v).bind fun hi l3 => sl_up B x lo hi l3
end L2.Mr
/-! What serves any law: the heap's frame, steps, loops by their invariants, pairs of ints. -/
namespace L2.Mr
open PySem PySem.Spec PyProof.Rows
/-! ### the heap -/
theorem getL_set {H : Hs} {n : Nat} {xs ys : List Dv} (e : getL H n = some xs) : getL (H.set n (.lst ys)) n = some ys := by
  have h := (List.getElem?_eq_some_iff.mp (getL_some e)).1
  unfold getL
  rw [List.getElem?_set_self h]
theorem getL_ne {H : Hs} {n j : Nat} {o : Ob} (h : n ≠ j) : getL (H.set n o) j = getL H j := by
  unfold getL
  rw [List.getElem?_set_ne h]
theorem getL_lt {H : Hs} {n : Nat} {xs : List Dv} (e : getL H n = some xs) : n < H.length := (List.getElem?_eq_some_iff.mp (getL_some e)).1
theorem keep_app {H l : Hs} {n : Nat} {xs : List Dv} (e : getL H n = some xs) : getL (H ++ l) n = some xs := by
  unfold getL
  rw [List.getElem?_append_left (getL_lt e), getL_some e]
/-- all but the lists at S stands -/
structure Fr (S : List Nat) (H H' : Hs) : Prop where
  le : H.length ≤ H'.length
  at_ : ∀ j, j < H.length → j ∉ S → H'[j]? = H[j]?
theorem Fr.refl {S : List Nat} {H : Hs} : Fr S H H := ⟨Nat.le_refl _, fun _ _ _ => rfl⟩
theorem Fr.trans {S T : List Nat} {H H1 H2 : Hs} (a : Fr S H H1) (b : Fr T H1 H2) (h : ∀ j ∈ T, j ∈ S ∨ H.length ≤ j) : Fr S H H2 :=
  ⟨Nat.le_trans a.le b.le, fun j hj hS => (b.at_ j (Nat.lt_of_lt_of_le hj a.le) fun z => (h j z).elim hS fun w => absurd (Nat.lt_of_lt_of_le hj w) (Nat.lt_irrefl _)).trans (a.at_ j hj hS)⟩
theorem Fr.app {S : List Nat} {H l : Hs} : Fr S H (H ++ l) := ⟨by simp, fun j hj _ => List.getElem?_append_left hj⟩
theorem Fr.set {H : Hs} {n : Nat} {o : Ob} : Fr [n] H (H.set n o) := ⟨by simp, fun j hj hS => List.getElem?_set_ne (by simpa using Ne.symm (by simpa using hS))⟩
theorem Fr.getL {S : List Nat} {H H' : Hs} {j : Nat} {xs : List Dv} (a : Fr S H H') (e : getL H j = some xs) (h : j ∉ S) : getL H' j = some xs := by
  unfold L2.Mr.getL at e ⊢
  rw [a.at_ j (getL_lt e) h]; exact e
theorem Fr.mono {S T : List Nat} {H H' : Hs} (a : Fr S H H') (h : ∀ j ∈ S, j ∈ T) : Fr T H H' := ⟨a.le, fun j hj hT => a.at_ j hj fun z => hT (h j z)⟩
/-! ### steps -/
theorem seq_nx {m u : MS} {ρ ρ1 : Ev} {h h1 : Hs} (e : m ρ h = .nx ρ1 h1) : mSeq m u ρ h = u ρ1 h1 := by unfold mSeq; rw [e]
theorem for_ok {mi : M Src} {st : Tgt} {b : MS} {ρ : Ev} {h h1 : Hs} {src : Src} (e : mi ρ h = .ok src h1) : mFor mi st b ρ h = forM src st b src.n 0 ρ h1 := by unfold mFor; rw [e]; rfl
theorem if_T {c : M Bool} {t u : MS} {ρ : Ev} {h h1 : Hs} (e : c ρ h = .ok true h1) : mIf c t u ρ h = t ρ h1 := by unfold mIf; rw [e]; rfl
theorem if_F {c : M Bool} {t u : MS} {ρ : Ev} {h h1 : Hs} (e : c ρ h = .ok false h1) : mIf c t u ρ h = u ρ h1 := by unfold mIf; rw [e]; rfl
theorem for_step {src : Src} {sg : Tgt} {b : MS} {f k : Nat} {ρ ρ1 ρ2 : Ev} {H H2 : Hs} {d : Dv} (hg : src.get k H = some d) (hs : sg d ρ = some ρ1) (hb : b ρ1 H = .nx ρ2 H2) : forM src sg b (f + 1) k ρ H = forM src sg b f (k + 1) ρ2 H2 := by
  simp [forM, hg, hs, hb]
/-- a loop by what holds at each of its turns -/
theorem for_inv {src : Src} {sg : Tgt} {b : MS} (P : Nat → Ev → Hs → Prop)
    (step : ∀ k ρ H, k < src.n → P k ρ H → ∃ d ρ1 ρ2 H2, src.get k H = some d ∧ sg d ρ = some ρ1 ∧ b ρ1 H = .nx ρ2 H2 ∧ P (k + 1) ρ2 H2)
    (fin : ∀ ρ H, P src.n ρ H → src.fin H = true) : ∀ (f k : Nat) (ρ : Ev) (H : Hs), f + k = src.n → P k ρ H → ∃ ρ' H', forM src sg b f k ρ H = .nx ρ' H' ∧ P src.n ρ' H'
  | 0, k, ρ, H, h, p => by
    have hk : k = src.n := by omega
    subst hk
    exact ⟨ρ, H, by simp [forM, fin ρ H p], p⟩
  | f + 1, k, ρ, H, h, p => by
    obtain ⟨d, ρ1, ρ2, H2, e1, e2, e3, p2⟩ := step k ρ H (by omega) p
    rw [for_step e1 e2 e3]
    exact for_inv P step fin f (k + 1) ρ2 H2 (by omega) p2
theorem for_run {mi : M Src} {src : Src} {sg : Tgt} {b : MS} {ρ : Ev} {H H1 : Hs} (hi : mi ρ H = .ok src H1) (P : Nat → Ev → Hs → Prop)
    (step : ∀ k ρ H, k < src.n → P k ρ H → ∃ d ρ1 ρ2 H2, src.get k H = some d ∧ sg d ρ = some ρ1 ∧ b ρ1 H = .nx ρ2 H2 ∧ P (k + 1) ρ2 H2)
    (fin : ∀ ρ H, P src.n ρ H → src.fin H = true) (p : P 0 ρ H1) : ∃ ρ' H', mFor mi sg b ρ H = .nx ρ' H' ∧ P src.n ρ' H' := by
  rw [for_ok hi]
  exact for_inv P step fin src.n 0 ρ H1 (by omega) p
/-- a comprehension's clause by what holds at each of its turns -/
theorem comp_inv {src : Src} {sg : Tgt} {t : M Bool} {m : MC} (P : Nat → Ev → Hs → List Dv → Prop)
    (step : ∀ k ρ H acc, k < src.n → P k ρ H acc → ∃ d ρ1, src.get k H = some d ∧ sg d ρ = some ρ1 ∧
      ((∃ H2, t ρ1 H = .ok false H2 ∧ P (k + 1) ρ1 H2 acc) ∨ ∃ H2 ρ3 acc3 H3, t ρ1 H = .ok true H2 ∧ m ρ1 H2 acc = .ok (ρ3, acc3) H3 ∧ P (k + 1) ρ3 H3 acc3))
    (fin : ∀ ρ H acc, P src.n ρ H acc → src.fin H = true) : ∀ (f k : Nat) (ρ : Ev) (H : Hs) (acc : List Dv), f + k = src.n → P k ρ H acc → ∃ ρ' H' acc', compM src sg t m f k ρ H acc = .ok (ρ', acc') H' ∧ P src.n ρ' H' acc'
  | 0, k, ρ, H, acc, h, p => by
    have hk : k = src.n := by omega
    subst hk
    exact ⟨ρ, H, acc, by simp [compM, fin ρ H acc p], p⟩
  | f + 1, k, ρ, H, acc, h, p => by
    obtain ⟨d, ρ1, e1, e2, e3⟩ := step k ρ H acc (by omega) p
    rcases e3 with ⟨H2, e3, p2⟩ | ⟨H2, ρ3, acc3, H3, e3, e4, p2⟩
    · obtain ⟨ρ', H', acc', e5, p5⟩ := comp_inv P step fin f (k + 1) ρ1 H2 acc (by omega) p2
      exact ⟨ρ', H', acc', by simp [compM, e1, e2, e3, e5], p5⟩
    · obtain ⟨ρ', H', acc', e5, p5⟩ := comp_inv P step fin f (k + 1) ρ3 H3 acc3 (by omega) p2
      exact ⟨ρ', H', acc', by simp [compM, e1, e2, e3, e4, e5], p5⟩
/-! ### ints and pairs of ints as data -/
theorem pur_ints (k : Nat) (H : Hs) : ∀ ns : List Int, optL (pur (k + 1) H) (ns.map Dv.int) = some (ns.map Dt.int)
  | [] => rfl
  | n :: ns => by
    rw [List.map_cons, optL, pur_ints k H ns]; rfl
def prD (p : Int × Int) : Dv := .tup [.int p.1, .int p.2]
def prT (p : Int × Int) : Dt := .tup [.int p.1, .int p.2]
theorem pur_pr (k : Nat) (H : Hs) (p : Int × Int) : pur (k + 2) H (prD p) = some (prT p) := rfl
theorem pur_prs (k : Nat) (H : Hs) : ∀ ps : List (Int × Int), optL (pur (k + 2) H) (ps.map prD) = some (ps.map prT)
  | [] => rfl
  | p :: ps => by
    rw [List.map_cons, optL, pur_prs k H ps, pur_pr]; rfl
theorem deq_pr (p q : Int × Int) : deq (prT p) (prT q) = decide (p = q) := by
  obtain ⟨a, b⟩ := p
  obtain ⟨c, d⟩ := q
  simp only [prT, deq, deqL, Bool.and_true]
  rw [Bool.eq_iff_iff]
  simp
theorem in_prs (neg : Bool) (H : Hs) (p : Int × Int) (ps : List (Int × Int)) : in0 neg (prD p) (.tup (ps.map prD)) H = .ok (.bl (if neg then !decide (p ∈ ps) else decide (p ∈ ps))) H := by
  have e : (ps.map prT).any (fun t => deq t (prT p)) = decide (p ∈ ps) := by
    rw [Bool.eq_iff_iff]
    simp only [List.any_map, List.any_eq_true, Function.comp, deq_pr, decide_eq_true_eq]
    constructor
    · rintro ⟨q, hq, rfl⟩; exact hq
    · intro h; exact ⟨p, h, rfl⟩
  have h1 : optL (pur fuelD H) (ps.map prD) = some (ps.map prT) := pur_prs 28 H ps
  have h2 : pur fuelD H (prD p) = some (prT p) := pur_pr 28 H p
  show inD [] neg (prD p) (.tup (ps.map prD)) H = _
  simp only [inD, seqD, h1, h2, e]
theorem in_ints (neg : Bool) (H : Hs) (x : Int) (ns : List Int) : in0 neg (.int x) (.tup (ns.map Dv.int)) H = .ok (.bl (if neg then !decide (x ∈ ns) else decide (x ∈ ns))) H := by
  have e : (ns.map Dt.int).any (fun t => deq t (.int x)) = decide (x ∈ ns) := by
    rw [Bool.eq_iff_iff]
    simp only [List.any_map, List.any_eq_true, Function.comp, deq, decide_eq_true_eq, beq_iff_eq]
    constructor
    · rintro ⟨q, hq, rfl⟩; exact hq
    · intro h; exact ⟨x, h, rfl⟩
  have h1 : optL (pur fuelD H) (ns.map Dv.int) = some (ns.map Dt.int) := pur_ints 29 H ns
  have h2 : pur fuelD H (.int x) = some (.int x) := rfl
  show inD [] neg (.int x) (.tup (ns.map Dv.int)) H = _
  simp only [inD, seqD, h1, h2, e]
end L2.Mr
/-! name = [ .. ] in one row -/
namespace L2.Mr
open PySem PySem.Spec PyProof.Rows
section
variable {X : Cx} {G : Cfg} {E : XK} {elt tg iter tg' iter' : Expr} {ifs ifs' : List Expr} {sc : Scope} {ps px pos : Pos} {N : List Str} {cap : List (Option Nat)} {mi mi' : M Src} {st st' : Tgt} {test test' : M Bool} {me : M Dv} {i : Nat} {x : Str}
theorem ss_setcomp1 (hN : X.N.Nodup) (hi' : X.N[i]? = some x) (hc : X.calm = true) (C : CapOk X sc N cap) (hi : SndI X G E tg iter mi) (hg : ∀ s H ex, SndG (blk X sc N s H ex) G tg st) (htt : ∀ s H ex, SndTs (blk X sc N s H ex) G ifs test) (hel : ∀ s H ex, Snd (blk X sc N s H ex) G E0 elt me)
    (hx : X.env.scope.names.lookup x = some .local := by rfl) (hsw : swapsWith (.ListComp elt [⟨tg, iter, ifs, 0⟩] sc ps) (some (.Name x px)) pos.line X.env = pure true := by rfl)
    (hs : ∀ x, foldedSetIterable iter X.env x = pure x := by intro _; rfl) : SndS X G E (.Assign [.Name x px] (.ListComp elt [⟨tg, iter, ifs, 0⟩] sc ps) pos) (mAsg (mAl (mComp mi cap st test (mEmit me))) (sName i)) := fun hK =>
  PS.imp (ps_setcomp hsw hN hi' hx hc C rfl (fun it D env => turn_1 elt tg iter ifs sc ps (.ref it) D env) (hi hK) (fun s H ex => hg s H ex hK) (fun s H ex => htt s H ex hK) (fun s H ex D => PCl.imp (pcl_emit (hel s H ex hK)) fun _ _ _ _ t => emit_ok t) hs) fun D σ H ⟨μ, ρ, h, rs, s, o⟩ =>
    comp_tOf (al_tOf (tOf_thenS rs s o fun μ1 d h1 v H1 x1 rs1 s1 r1 o1 => o1 μ1 H1 _ Ext.refl s1 (rs1.set i r1)))
end
end L2.Mr
namespace L2.Mr.K71
open PySem PySem.Spec PyProof.Rows L2 L2.Mr
def top (i : Nat) : Stmt := PySem.Challenge.pw_nearorders_k71_numbers_by_rule.main.body.getD i (.Pass ⟨0, 0, 0, 0⟩)
abbrev s_is_whole : Stmt := top 17
abbrev s_rounded_up : Stmt := top 18
abbrev s_need_sizes : Stmt := top 21
abbrev s_levels_span : Stmt := top 22
abbrev s_chains_reach : Stmt := top 23
abbrev s__law_take : Stmt := top 25
abbrev s__law_loose : Stmt := top 26
abbrev s__law_cell_at : Stmt := top 27
abbrev s__law_state : Stmt := top 28
abbrev s__law_sizes : Stmt := top 29
abbrev s__law_same : Stmt := top 30
abbrev s__law_numbered : Stmt := top 31
abbrev s__law_of_sizes : Stmt := top 32
abbrev s__law_least_with : Stmt := top 33
abbrev s__law_least_reach : Stmt := top 34
abbrev s__law_bad_sizes : Stmt := top 35
abbrev s__law_refused : Stmt := top 36
abbrev s__law_great : Stmt := top 37
abbrev s__law_rows : Stmt := top 38
abbrev s__law_span : Stmt := top 39
abbrev s__law_reach_by_rule : Stmt := top 40
abbrev s_law : Stmt := top 41
structure Ad where
  f_is_whole : Addr
  fd_is_whole : FuncData
  f_rounded_up : Addr
  fd_rounded_up : FuncData
  f_need_sizes : Addr
  fd_need_sizes : FuncData
  f_levels_span : Addr
  fd_levels_span : FuncData
  f_chains_reach : Addr
  fd_chains_reach : FuncData
  f__law_take : Addr
  fd__law_take : FuncData
  f__law_loose : Addr
  fd__law_loose : FuncData
  f__law_cell_at : Addr
  fd__law_cell_at : FuncData
  f__law_state : Addr
  fd__law_state : FuncData
  f__law_sizes : Addr
  fd__law_sizes : FuncData
  f__law_same : Addr
  fd__law_same : FuncData
  f__law_numbered : Addr
  fd__law_numbered : FuncData
  f__law_of_sizes : Addr
  fd__law_of_sizes : FuncData
  f__law_least_with : Addr
  fd__law_least_with : FuncData
  f__law_least_reach : Addr
  fd__law_least_reach : FuncData
  f__law_bad_sizes : Addr
  fd__law_bad_sizes : FuncData
  f__law_refused : Addr
  fd__law_refused : FuncData
  f__law_great : Addr
  fd__law_great : FuncData
  f__law_rows : Addr
  fd__law_rows : FuncData
  f__law_span : Addr
  fd__law_span : FuncData
  f__law_reach_by_rule : Addr
  fd__law_reach_by_rule : FuncData
  f_law : Addr
  fd_law : FuncData
  c_NoOrder : Addr
  c_NoNumber : Addr
  c_NoPairs : Addr
  c_Round : Addr
  c_NoThing : Addr
  c_NoRow : Addr
  c_TooMany : Addr
  c_TooFew : Addr
  c_NoText : Addr
  c_NoLine : Addr
  c_NoDeed : Addr
  c_NoSeating : Addr
  c_NoRing : Addr
  c_NoSizes : Addr
  t_MOST_SIZES : Tok
  NE : Addr
  cc : Addr
  P : Addr
def tblV : List (Nat × Bool) := [(13, true)]
def tbl0 : List (Nat × Bool) := [(13, false)]
def tbl1 : List (Nat × Bool) := [(13, false)]
def tbl2 : List (Nat × Bool) := [(13, false)]
def tbl3 : List (Nat × Bool) := [(13, false)]
def tbl4 : List (Nat × Bool) := [(13, false)]
def tbl5 : List (Nat × Bool) := [(13, false)]
def tbl6 : List (Nat × Bool) := [(13, false)]
def tbl7 : List (Nat × Bool) := [(13, false)]
def tbl8 : List (Nat × Bool) := [(13, false)]
def tbl9 : List (Nat × Bool) := [(13, false)]
def tbl10 : List (Nat × Bool) := [(13, false)]
def tbl11 : List (Nat × Bool) := [(13, false)]
def tbl12 : List (Nat × Bool) := [(13, false)]
def tbl13 : List (Nat × Bool) := [(13, true)]
structure Tx (K : PySem.W.Frag) (mg : Str → Option Value) (G : Cfg) (A : Ad) : Prop where
  hK : K = G.K
  F_is_whole : Fun K "is_whole" "is_whole" s_is_whole A.f_is_whole A.fd_is_whole
  B_is_whole : Binds K A.fd_is_whole ["thing"] []
  m_is_whole : mg "is_whole" = some (.ref A.f_is_whole)
  F_rounded_up : Fun K "rounded_up" "rounded_up" s_rounded_up A.f_rounded_up A.fd_rounded_up
  B_rounded_up : Binds K A.fd_rounded_up ["number", "by"] []
  m_rounded_up : mg "rounded_up" = some (.ref A.f_rounded_up)
  F_need_sizes : Fun K "need_sizes" "need_sizes" s_need_sizes A.f_need_sizes A.fd_need_sizes
  B_need_sizes : Binds K A.fd_need_sizes ["sizes"] []
  m_need_sizes : mg "need_sizes" = some (.ref A.f_need_sizes)
  F_levels_span : Fun K "levels_span" "levels_span" s_levels_span A.f_levels_span A.fd_levels_span
  B_levels_span : Binds K A.fd_levels_span ["sizes"] []
  m_levels_span : mg "levels_span" = some (.ref A.f_levels_span)
  F_chains_reach : Fun K "chains_reach" "chains_reach" s_chains_reach A.f_chains_reach A.fd_chains_reach
  B_chains_reach : Binds K A.fd_chains_reach ["sizes"] []
  m_chains_reach : mg "chains_reach" = some (.ref A.f_chains_reach)
  F__law_take : Fun K "_law_take" "_law_take" s__law_take A.f__law_take A.fd__law_take
  B__law_take : Binds K A.fd__law_take ["_law_state_here", "_law_many"] []
  m__law_take : mg "_law_take" = some (.ref A.f__law_take)
  F__law_loose : Fun K "_law_loose" "_law_loose" s__law_loose A.f__law_loose A.fd__law_loose
  B__law_loose : Binds K A.fd__law_loose ["_law_order"] []
  m__law_loose : mg "_law_loose" = some (.ref A.f__law_loose)
  F__law_cell_at : Fun K "_law_cell_at" "_law_cell_at" s__law_cell_at A.f__law_cell_at A.fd__law_cell_at
  B__law_cell_at : Binds K A.fd__law_cell_at ["_law_script", "_law_k"] []
  m__law_cell_at : mg "_law_cell_at" = some (.ref A.f__law_cell_at)
  F__law_state : Fun K "_law_state" "_law_state" s__law_state A.f__law_state A.fd__law_state
  B__law_state : Binds K A.fd__law_state ["_law_script", "_law_k"] []
  m__law_state : mg "_law_state" = some (.ref A.f__law_state)
  F__law_sizes : Fun K "_law_sizes" "_law_sizes" s__law_sizes A.f__law_sizes A.fd__law_sizes
  B__law_sizes : Binds K A.fd__law_sizes ["_law_state_here"] []
  m__law_sizes : mg "_law_sizes" = some (.ref A.f__law_sizes)
  F__law_same : Fun K "_law_same" "_law_same" s__law_same A.f__law_same A.fd__law_same
  B__law_same : Binds K A.fd__law_same ["_law_found", "_law_due"] []
  m__law_same : mg "_law_same" = some (.ref A.f__law_same)
  F__law_numbered : Fun K "_law_numbered" "_law_numbered" s__law_numbered A.f__law_numbered A.fd__law_numbered
  B__law_numbered : Binds K A.fd__law_numbered ["_law_sizes_here"] []
  m__law_numbered : mg "_law_numbered" = some (.ref A.f__law_numbered)
  F__law_of_sizes : Fun K "_law_of_sizes" "_law_of_sizes" s__law_of_sizes A.f__law_of_sizes A.fd__law_of_sizes
  B__law_of_sizes : Binds K A.fd__law_of_sizes ["_law_sizes_here", "_law_chains"] []
  m__law_of_sizes : mg "_law_of_sizes" = some (.ref A.f__law_of_sizes)
  F__law_least_with : Fun K "_law_least_with" "_law_least_with" s__law_least_with A.f__law_least_with A.fd__law_least_with
  B__law_least_with : Binds K A.fd__law_least_with ["_law_order", "_law_reach"] []
  m__law_least_with : mg "_law_least_with" = some (.ref A.f__law_least_with)
  F__law_least_reach : Fun K "_law_least_reach" "_law_least_reach" s__law_least_reach A.f__law_least_reach A.fd__law_least_reach
  B__law_least_reach : Binds K A.fd__law_least_reach ["_law_order"] []
  m__law_least_reach : mg "_law_least_reach" = some (.ref A.f__law_least_reach)
  F__law_bad_sizes : Fun K "_law_bad_sizes" "_law_bad_sizes" s__law_bad_sizes A.f__law_bad_sizes A.fd__law_bad_sizes
  B__law_bad_sizes : Binds K A.fd__law_bad_sizes ["_law_state_here"] []
  m__law_bad_sizes : mg "_law_bad_sizes" = some (.ref A.f__law_bad_sizes)
  F__law_refused : Fun K "_law_refused" "_law_refused" s__law_refused A.f__law_refused A.fd__law_refused
  B__law_refused : Binds K A.fd__law_refused ["_law_call"] []
  m__law_refused : mg "_law_refused" = some (.ref A.f__law_refused)
  F__law_great : Fun K "_law_great" "_law_great" s__law_great A.f__law_great A.fd__law_great
  B__law_great : Binds K A.fd__law_great ["_law_state_here"] []
  m__law_great : mg "_law_great" = some (.ref A.f__law_great)
  F__law_rows : Fun K "_law_rows" "_law_rows" s__law_rows A.f__law_rows A.fd__law_rows
  B__law_rows : Binds K A.fd__law_rows ["_law_order"] []
  m__law_rows : mg "_law_rows" = some (.ref A.f__law_rows)
  F__law_span : Fun K "_law_span" "_law_span" s__law_span A.f__law_span A.fd__law_span
  B__law_span : Binds K A.fd__law_span ["_law_order"] []
  m__law_span : mg "_law_span" = some (.ref A.f__law_span)
  F__law_reach_by_rule : Fun K "_law_reach_by_rule" "_law_reach_by_rule" s__law_reach_by_rule A.f__law_reach_by_rule A.fd__law_reach_by_rule
  B__law_reach_by_rule : Binds K A.fd__law_reach_by_rule ["_law_sizes_here"] []
  m__law_reach_by_rule : mg "_law_reach_by_rule" = some (.ref A.f__law_reach_by_rule)
  F_law : Fun K "law" "law" s_law A.f_law A.fd_law
  B_law : Binds K A.fd_law ["_law_script"] []
  m_law : mg "law" = some (.ref A.f_law)
  z_ValueError : mg "ValueError" = none
  z_abs : mg "abs" = none
  z_all : mg "all" = none
  z_bool : mg "bool" = none
  z_int : mg "int" = none
  z_isinstance : mg "isinstance" = none
  z_len : mg "len" = none
  z_list : mg "list" = none
  z_max : mg "max" = none
  z_min : mg "min" = none
  z_range : mg "range" = none
  z_sorted : mg "sorted" = none
  z_sum : mg "sum" = none
  z_tuple : mg "tuple" = none
  z_zip : mg "zip" = none
  c_MOST_SIZES : mg "MOST_SIZES" = some (.int 6 A.t_MOST_SIZES)
  n_NoOrder : mg "NoOrder" = some (.ref A.c_NoOrder)
  n_NoNumber : mg "NoNumber" = some (.ref A.c_NoNumber)
  n_NoPairs : mg "NoPairs" = some (.ref A.c_NoPairs)
  n_Round : mg "Round" = some (.ref A.c_Round)
  n_NoThing : mg "NoThing" = some (.ref A.c_NoThing)
  n_NoRow : mg "NoRow" = some (.ref A.c_NoRow)
  n_TooMany : mg "TooMany" = some (.ref A.c_TooMany)
  n_TooFew : mg "TooFew" = some (.ref A.c_TooFew)
  n_NoText : mg "NoText" = some (.ref A.c_NoText)
  n_NoLine : mg "NoLine" = some (.ref A.c_NoLine)
  n_NoDeed : mg "NoDeed" = some (.ref A.c_NoDeed)
  n_NoSeating : mg "NoSeating" = some (.ref A.c_NoSeating)
  n_NoRing : mg "NoRing" = some (.ref A.c_NoRing)
  n_NoSizes : mg "NoSizes" = some (.ref A.c_NoSizes)
  ns_NoSizes : PySem.W.nsIn K mainGlobals "NoSizes" = some (some (.ref A.c_NoSizes))
  x_NoSizes : PySem.W.excIn K A.c_NoSizes bmV "ValueError.__new__" = true
  ce_NoSizes : A.c_NoSizes = G.cl 13
  ktV : ∀ c b, tblV.lookup c = some b → PySem.W.kitOne G.K (.ref (G.cl c)) (.type "ValueError") = some b ∧ ExK G.K (G.cl c)
  kt0 : ∀ c b, tbl0.lookup c = some b → PySem.W.kitOne G.K (.ref (G.cl c)) (.ref A.c_NoOrder) = some b ∧ ExK G.K (G.cl c)
  kt1 : ∀ c b, tbl1.lookup c = some b → PySem.W.kitOne G.K (.ref (G.cl c)) (.ref A.c_NoNumber) = some b ∧ ExK G.K (G.cl c)
  kt2 : ∀ c b, tbl2.lookup c = some b → PySem.W.kitOne G.K (.ref (G.cl c)) (.ref A.c_NoPairs) = some b ∧ ExK G.K (G.cl c)
  kt3 : ∀ c b, tbl3.lookup c = some b → PySem.W.kitOne G.K (.ref (G.cl c)) (.ref A.c_Round) = some b ∧ ExK G.K (G.cl c)
  kt4 : ∀ c b, tbl4.lookup c = some b → PySem.W.kitOne G.K (.ref (G.cl c)) (.ref A.c_NoThing) = some b ∧ ExK G.K (G.cl c)
  kt5 : ∀ c b, tbl5.lookup c = some b → PySem.W.kitOne G.K (.ref (G.cl c)) (.ref A.c_NoRow) = some b ∧ ExK G.K (G.cl c)
  kt6 : ∀ c b, tbl6.lookup c = some b → PySem.W.kitOne G.K (.ref (G.cl c)) (.ref A.c_TooMany) = some b ∧ ExK G.K (G.cl c)
  kt7 : ∀ c b, tbl7.lookup c = some b → PySem.W.kitOne G.K (.ref (G.cl c)) (.ref A.c_TooFew) = some b ∧ ExK G.K (G.cl c)
  kt8 : ∀ c b, tbl8.lookup c = some b → PySem.W.kitOne G.K (.ref (G.cl c)) (.ref A.c_NoText) = some b ∧ ExK G.K (G.cl c)
  kt9 : ∀ c b, tbl9.lookup c = some b → PySem.W.kitOne G.K (.ref (G.cl c)) (.ref A.c_NoLine) = some b ∧ ExK G.K (G.cl c)
  kt10 : ∀ c b, tbl10.lookup c = some b → PySem.W.kitOne G.K (.ref (G.cl c)) (.ref A.c_NoDeed) = some b ∧ ExK G.K (G.cl c)
  kt11 : ∀ c b, tbl11.lookup c = some b → PySem.W.kitOne G.K (.ref (G.cl c)) (.ref A.c_NoSeating) = some b ∧ ExK G.K (G.cl c)
  kt12 : ∀ c b, tbl12.lookup c = some b → PySem.W.kitOne G.K (.ref (G.cl c)) (.ref A.c_NoRing) = some b ∧ ExK G.K (G.cl c)
  kt13 : ∀ c b, tbl13.lookup c = some b → PySem.W.kitOne G.K (.ref (G.cl c)) (.ref A.c_NoSizes) = some b ∧ ExK G.K (G.cl c)
  n_NearError : mg "NearError" = some (.ref A.NE)
  e1 : PySem.W.subIn K (.ref A.NE) (.type "BaseException") = some true
  e2 : PySem.W.subIn K (.type "type") (.type "tuple") = some false
  e3 : PySem.W.kitCls K (.ref A.NE) (.ref A.NE) = some true
  e4 : ∀ c, c < 14 → PySem.W.subIn K (.ref (G.cl c)) (.ref A.NE) = some true
  lq : (("law" : Str) ++ ".<locals>.") ++ "<lambda>" = G.lq
  tab : G.tab = some A.P
  code : A.fd_law.code = .ref A.cc
theorem nd3 : (["size"] : List Str).Nodup := by decide +kernel
theorem nd4 : (["_law_state_here", "_law_many", "_law_found", "_law_stirred"] : List Str).Nodup := by decide +kernel
theorem nd5 : (["_law_order", "_law_found", "_law_a", "_law_b"] : List Str).Nodup := by decide +kernel
theorem nd7 : (["_law_script", "_law_k", "_law_cell"] : List Str).Nodup := by decide +kernel
theorem nd8 : (["_law_state_here", "_law_found", "_law_turn", "_law_left", "_law_kept", "_law_size"] : List Str).Nodup := by decide +kernel
theorem nd10 : (["_law_one", "_law_other"] : List Str).Nodup := by decide +kernel
theorem nd11 : (["_law_sizes_here", "_law_found", "_law_at"] : List Str).Nodup := by decide +kernel
theorem nd12 : (["_law_sizes_here", "_law_chains", "_law_kind", "_law_pairs", "_law_a", "_law_b"] : List Str).Nodup := by decide +kernel
theorem nd13 : (["_law_order", "_law_reach", "_law_found", "_law_turn", "_law_up", "_law_a", "_law_b"] : List Str).Nodup := by decide +kernel
theorem nd14 : (["_law_order", "_law_reach"] : List Str).Nodup := by decide +kernel
theorem nd15 : (["_law_state_here", "_law_some"] : List Str).Nodup := by decide +kernel
theorem nd16 : (["_law_call", "_law_error", "e", "_law_marks"] : List Str).Nodup := by decide +kernel
theorem nd17 : (["_law_k", "_law_marks"] : List Str).Nodup := by decide +kernel
theorem nd18 : (["_law_state_here", "_law_found", "_law_turn", "_law_size", "_law_part"] : List Str).Nodup := by decide +kernel
theorem nd19 : (["_law_order", "_law_found", "_law_turn", "_law_longer", "_law_row", "_law_thing", "_law_ahead"] : List Str).Nodup := by decide +kernel
theorem nd20 : (["_law_a", "_law_b", "_law_thing", "_law_row"] : List Str).Nodup := by decide +kernel
theorem nd21 : (["_law_order", "_law_pairs", "_law_least", "_law_row", "_law_far"] : List Str).Nodup := by decide +kernel
theorem nd22 : (["_law_a", "_law_b", "_law_row"] : List Str).Nodup := by decide +kernel
theorem nd23 : (["_law_sizes_here", "_law_two"] : List Str).Nodup := by decide +kernel
theorem nd24 : (["_law_script", "_law_k", "_law_state_here", "_law_sizes_here", "_law_handed", "_law_bad"] : List Str).Nodup := by decide +kernel
section
variable {P : Program} {w : World} {K : PySem.W.Frag} {mg : Str → Option Value} {base : Heap} {G : Cfg} {A : Ad}
theorem sc_is_whole : FnScope ["thing"] ["thing"] (defScope s_is_whole) := ⟨rfl, rfl, rfl, by decide +kernel, rfl, by decide +kernel, by decide +kernel⟩
def mb_is_whole : MS := (mRet (mAndV (m1 (isiD isIntF) (mVar 0)) (m1 notD (m1 (isiD isBoolF) (mVar 0)))))
def F_is_whole : List Dv → Hs → Rs Dv := callM 1 1 (mb_is_whole)
theorem ok_is_whole (T : Tx K mg G A) : FnOk P w K mg base (CXm P w base) 1 A.f_is_whole A.fd_is_whole ["thing"] (spOf G F_is_whole) :=
  fn_mir (k := 0) (N := ["thing"]) (mb := mb_is_whole) T.F_is_whole sc_is_whole T.hK fun cdv Ar outer s H E₀ E g =>
    (ss_one (ss_ret (snd_and (x_isInt rfl T.z_isinstance rfl T.z_int (snd_var 0)) (snd_one (snd_not (x_isBool rfl T.z_isinstance rfl T.z_bool (snd_var 0)))))))
theorem sc_rounded_up : FnScope ["number", "by"] ["number", "by"] (defScope s_rounded_up) := ⟨rfl, rfl, rfl, by decide +kernel, rfl, by decide +kernel, by decide +kernel⟩
def mb_rounded_up : MS := (mRet (m1 negD (m2 fdivW (m1 negD (mVar 0)) (mVar 1))))
def F_rounded_up : List Dv → Hs → Rs Dv := callM 2 2 (mb_rounded_up)
theorem ok_rounded_up (T : Tx K mg G A) : FnOk P w K mg base (CXm P w base) 1 A.f_rounded_up A.fd_rounded_up ["number", "by"] (spOf G F_rounded_up) :=
  fn_mir (k := 0) (N := ["number", "by"]) (mb := mb_rounded_up) T.F_rounded_up sc_rounded_up T.hK fun cdv Ar outer s H E₀ E g =>
    (ss_one (ss_ret (x_neg (x_fdivW (x_neg (snd_var 0)) (snd_var 1)))))
theorem sc_need_sizes : FnScope ["sizes"] ["sizes"] (defScope s_need_sizes) := ⟨rfl, rfl, rfl, by decide +kernel, rfl, by decide +kernel, by decide +kernel⟩
def mb_need_sizes : MS := (mSeq (mIf (mOr (mNot (mTru (m1 (isiD isLstF) (mVar 0)))) (mNot (mB (mChain leD leD (mC (.int 1)) (mCall (f1 len0) (mCons (mVar 0) mNil)) (mC (.int 6)))))) (mRaise 13 (mCons (mC (.str "sizes are a list of one to six whole numbers")) mNil)) mNext) (mIf (mNot (mTru (mL allF (mComp (m1s lstD (mVar 0)) [none] (sName 0) mTrue (mEmit (mAndV (mCall F_is_whole (mCons (mVar 0) mNil)) (m2 geD (mVar 0) (mC (.int 1))))))))) (mRaise 13 (mCons (mC (.str "each size is a whole number from 1 on")) mNil)) mNext))
def F_need_sizes : List Dv → Hs → Rs Dv := callM 1 1 (mb_need_sizes)
theorem ok_need_sizes (T : Tx K mg G A) : FnOk P w K mg base (CXm P w base) 2 A.f_need_sizes A.fd_need_sizes ["sizes"] (spOf G F_need_sizes) :=
  fn_mir (k := 1) (N := ["sizes"]) (mb := mb_need_sizes) T.F_need_sizes sc_need_sizes T.hK fun cdv Ar outer s H E₀ E g =>
    (ss_cons (ss_if (SndW.t (tw_or (tt_not (tt_tru (x_isLst rfl T.z_isinstance rfl T.z_list (snd_var 0)))) (tw_or1 (tt_not (t_lele snd_int (x_len0 rfl T.z_len (sa_cons (snd_var 0) sa_nil)) (snd_globI rfl T.c_MOST_SIZES)))))) (ss_one (ss_raise g rfl T.n_NoSizes T.ns_NoSizes T.x_NoSizes T.ce_NoSizes (sa_cons snd_str sa_nil))) ss_nil) (ss_one (ss_if (tt_not (tt_tru (snd_all g.calm rfl T.z_all (sl_comp1 g.calm (capOk (N := ["size"]) (cap := [none]) (os := (defScope s_need_sizes)) (oN := ["sizes"]) rfl rfl rfl (by decide +kernel) rfl (by decide +kernel) (by decide +kernel) (by decide +kernel)) (si_list (snd_var 0)) (fun s H ex => (sg_name (i := 0) nd3 rfl (by first | exact Or.inl rfl | exact Or.inr rfl))) (fun s H ex => ts_nil) (fun s H ex => (snd_and (snd_call (good_blk g) (ok_is_whole T) (by decide) rfl T.m_is_whole T.F_is_whole.kp T.B_is_whole (sa_cons (snd_var 0) sa_nil)) (snd_one (x_ge (snd_var 0) snd_int)))))))) (ss_one (ss_raise g rfl T.n_NoSizes T.ns_NoSizes T.x_NoSizes T.ce_NoSizes (sa_cons snd_str sa_nil))) ss_nil)))
theorem sc_levels_span : FnScope ["sizes"] ["sizes"] (defScope s_levels_span) := ⟨rfl, rfl, rfl, by decide +kernel, rfl, by decide +kernel, by decide +kernel⟩
def mb_levels_span : MS := (mSeq (mExpr (mCall F_need_sizes (mCons (mVar 0) mNil))) (mRet (m2 subD (mCall (f1 (l1D maxI)) (mCons (mVar 0) mNil)) (mC (.int 1)))))
def F_levels_span : List Dv → Hs → Rs Dv := callM 1 1 (mb_levels_span)
theorem ok_levels_span (T : Tx K mg G A) : FnOk P w K mg base (CXm P w base) 3 A.f_levels_span A.fd_levels_span ["sizes"] (spOf G F_levels_span) :=
  fn_mir (k := 2) (N := ["sizes"]) (mb := mb_levels_span) T.F_levels_span sc_levels_span T.hK fun cdv Ar outer s H E₀ E g =>
    (ss_cons (ss_expr (snd_call g (ok_need_sizes T) (by decide) rfl T.m_need_sizes T.F_need_sizes.kp T.B_need_sizes (sa_cons (snd_var 0) sa_nil))) (ss_one (ss_ret (x_sub (x_maxL g.calm rfl T.z_max (sa_cons (snd_var 0) sa_nil)) snd_int))))
theorem sc_chains_reach : FnScope ["sizes"] ["sizes"] (defScope s_chains_reach) := ⟨rfl, rfl, rfl, by decide +kernel, rfl, by decide +kernel, by decide +kernel⟩
def mb_chains_reach : MS := (mSeq (mExpr (mCall F_need_sizes (mCons (mVar 0) mNil))) (mSeq (mIf (mB (m2 eqD (mCall (f1 len0) (mCons (mVar 0) mNil)) (mC (.int 1)))) (mRet (mC (.int 0))) mNext) (mRet (mCall F_rounded_up (mCons (m2 subD (mCall (f1 sumD) (mCons (mSl (mCall (f1 sortD) (mCons (mVar 0) mNil)) (mBd (m1 negD (mC (.int 2)))) mNoB) mNil)) (mC (.int 2))) (mCons (mC (.int 2)) mNil))))))
def F_chains_reach : List Dv → Hs → Rs Dv := callM 1 1 (mb_chains_reach)
theorem ok_chains_reach (T : Tx K mg G A) : FnOk P w K mg base (CXm P w base) 3 A.f_chains_reach A.fd_chains_reach ["sizes"] (spOf G F_chains_reach) :=
  fn_mir (k := 2) (N := ["sizes"]) (mb := mb_chains_reach) T.F_chains_reach sc_chains_reach T.hK fun cdv Ar outer s H E₀ E g =>
    (ss_cons (ss_expr (snd_call g (ok_need_sizes T) (by decide) rfl T.m_need_sizes T.F_need_sizes.kp T.B_need_sizes (sa_cons (snd_var 0) sa_nil))) (ss_cons (ss_if (t_eq g (x_len0 rfl T.z_len (sa_cons (snd_var 0) sa_nil)) snd_int) (ss_one (ss_ret snd_int)) ss_nil) (ss_one (ss_ret (snd_call g (ok_rounded_up T) (by decide) rfl T.m_rounded_up T.F_rounded_up.kp T.B_rounded_up (sa_cons (x_sub (x_sum g.calm rfl T.z_sum (sa_cons (snd_slice (x_sorted rfl T.z_sorted (sa_cons (snd_var 0) sa_nil)) (so_some (x_neg snd_int)) so_none) sa_nil)) snd_int) (sa_cons snd_int sa_nil)))))))
theorem sc__law_take : FnScope ["_law_state_here", "_law_many", "_law_found", "_law_stirred"] ["_law_state_here", "_law_many"] (defScope s__law_take) := ⟨rfl, rfl, rfl, by decide +kernel, rfl, by decide +kernel, by decide +kernel⟩
def mb__law_take : MS := (mSeq (mIf (mTru (m2 ix0 (mVar 0) (mC (.int 1)))) (mSeq (mAsg (m2 modD (m2 ix0 (mVar 0) (mC (.int 0))) (mVar 1)) (sName 2)) (mSeq (mSetIx (mVar 0) (mC (.int 0)) (m2 fdivW (m2 ix0 (mVar 0) (mC (.int 0))) (mVar 1))) (mRet (mVar 2)))) mNext) (mSeq (mSetIx (mVar 0) (mC (.int 0)) (m2 modD (m2 addE (m2 mulD (m2 ix0 (mVar 0) (mC (.int 0))) (mC (.int 48271))) (mC (.int 29))) (mC (.int 2147483647)))) (mSeq (mAsg (m2 modD (m2 addE (m2 addE (m2 mulD (m2 ix0 (mVar 0) (mC (.int 0))) (m2 ix0 (mVar 0) (mC (.int 0)))) (m2 mulD (mC (.int 39373)) (m2 ix0 (mVar 0) (mC (.int 0))))) (mC (.int 7))) (mC (.int 2147483629))) (sName 3)) (mSeq (mAsg (m2 modD (m2 addE (m2 mulD (mVar 3) (mVar 3)) (m2 mulD (mC (.int 16807)) (mVar 3))) (mC (.int 2147483587))) (sName 3)) (mRet (m2 modD (m2 fdivW (mVar 3) (mC (.int 8))) (mVar 1)))))))
def F__law_take : List Dv → Hs → Rs Dv := callM 2 4 (mb__law_take)
theorem ok__law_take (T : Tx K mg G A) : FnOk P w K mg base (CXm P w base) 1 A.f__law_take A.fd__law_take ["_law_state_here", "_law_many"] (spOf G F__law_take) :=
  fn_mir (k := 0) (N := ["_law_state_here", "_law_many", "_law_found", "_law_stirred"]) (mb := mb__law_take) T.F__law_take sc__law_take T.hK fun cdv Ar outer s H E₀ E g =>
    (ss_cons (ss_if (tt_tru (x_ix0 (snd_var 0) snd_int)) (ss_cons (ss_set (i := 2) nd4 rfl (by first | exact Or.inl rfl | exact Or.inr rfl) (x_mod (x_ix0 (snd_var 0) snd_int) (snd_var 1))) (ss_cons (ss_setIx (snd_var 0) snd_int (x_fdivW (x_ix0 (snd_var 0) snd_int) (snd_var 1))) (ss_one (ss_ret (snd_var 2))))) ss_nil) (ss_cons (ss_setIx (snd_var 0) snd_int (x_mod (x_addE (x_mul (x_ix0 (snd_var 0) snd_int) snd_int) snd_int) snd_int)) (ss_cons (ss_set (i := 3) nd4 rfl (by first | exact Or.inl rfl | exact Or.inr rfl) (x_mod (x_addE (x_addE (x_mul (x_ix0 (snd_var 0) snd_int) (x_ix0 (snd_var 0) snd_int)) (x_mul snd_int (x_ix0 (snd_var 0) snd_int))) snd_int) snd_int)) (ss_cons (ss_set (i := 3) nd4 rfl (by first | exact Or.inl rfl | exact Or.inr rfl) (x_mod (x_addE (x_mul (snd_var 3) (snd_var 3)) (x_mul snd_int (snd_var 3))) snd_int)) (ss_one (ss_ret (x_mod (x_fdivW (snd_var 3) snd_int) (snd_var 1))))))))
theorem sc__law_loose : FnScope ["_law_order", "_law_found", "_law_a", "_law_b"] ["_law_order"] (defScope s__law_loose) := ⟨rfl, rfl, rfl, by decide +kernel, rfl, by decide +kernel, by decide +kernel⟩
def mb__law_loose : MS := (mSeq (mAsg (mLst mNil) (sName 1)) (mSeq (mFor (mas rng1D (mCons (m2 ix0 (mVar 0) (mC (.int 0))) mNil)) (sName 2) (mFor (mas rng2D (mCons (m2 addE (mVar 2) (mC (.int 1))) (mCons (m2 ix0 (mVar 0) (mC (.int 0))) mNil))) (sName 3) (mIf (mAnd (mB (m2 (in0 true) (mTup (mCons (mVar 2) (mCons (mVar 3) mNil))) (m2 ix0 (mVar 0) (mC (.int 1))))) (mB (m2 (in0 true) (mTup (mCons (mVar 3) (mCons (mVar 2) mNil))) (m2 ix0 (mVar 0) (mC (.int 1)))))) (mExpr (mApp (mVar 1) (mTup (mCons (mVar 2) (mCons (mVar 3) mNil))))) mNext))) (mRet (mVar 1))))
def F__law_loose : List Dv → Hs → Rs Dv := callM 1 4 (mb__law_loose)
theorem ok__law_loose (T : Tx K mg G A) : FnOk P w K mg base (CXm P w base) 1 A.f__law_loose A.fd__law_loose ["_law_order"] (spOf G F__law_loose) :=
  fn_mir (k := 0) (N := ["_law_order", "_law_found", "_law_a", "_law_b"]) (mb := mb__law_loose) T.F__law_loose sc__law_loose T.hK fun cdv Ar outer s H E₀ E g =>
    (ss_cons (ss_set (i := 1) nd5 rfl (by first | exact Or.inl rfl | exact Or.inr rfl) (snd_lst sa_nil)) (ss_cons (ss_for g.own g.calm (si_range1 rfl T.z_range (sa_cons (x_ix0 (snd_var 0) snd_int) sa_nil)) (sg_name (i := 2) nd5 rfl (by first | exact Or.inl rfl | exact Or.inr rfl)) (ss_one (ss_for g.own g.calm (si_range2 rfl T.z_range (sa_cons (x_addE (snd_var 2) snd_int) (sa_cons (x_ix0 (snd_var 0) snd_int) sa_nil))) (sg_name (i := 3) nd5 rfl (by first | exact Or.inl rfl | exact Or.inr rfl)) (ss_one (ss_if (SndW.t (tw_and (t_nin g (snd_tup (sa_cons (snd_var 2) (sa_cons (snd_var 3) sa_nil))) (x_ix0 (snd_var 0) snd_int)) (tw_and1 (t_nin g (snd_tup (sa_cons (snd_var 3) (sa_cons (snd_var 2) sa_nil))) (x_ix0 (snd_var 0) snd_int))))) (ss_one (ss_expr (snd_app (snd_var 1) (snd_tup (sa_cons (snd_var 2) (sa_cons (snd_var 3) sa_nil)))))) ss_nil))))) (ss_one (ss_ret (snd_var 1)))))
theorem sc__law_cell_at : FnScope ["_law_script", "_law_k"] ["_law_script", "_law_k"] (defScope s__law_cell_at) := ⟨rfl, rfl, rfl, by decide +kernel, rfl, by decide +kernel, by decide +kernel⟩
def mb__law_cell_at (scr : List Int) : MS := (mSeq (mIf (mB (m2 ltD (mVar 1) (mCall (f1 (lenD scr)) (mCons (mVar 0) mNil)))) (mRet (m2 (ixD scr) (mVar 0) (mVar 1))) mNext) (mRet (mC (.int 0))))
def F__law_cell_at (scr : List Int) : List Dv → Hs → Rs Dv := callM 2 2 (mb__law_cell_at scr)
theorem ok__law_cell_at (T : Tx K mg G A) : FnOk P w K mg base (CXm P w base) 1 A.f__law_cell_at A.fd__law_cell_at ["_law_script", "_law_k"] (spOf G (F__law_cell_at G.scr)) :=
  fn_mir (k := 0) (N := ["_law_script", "_law_k"]) (mb := (mb__law_cell_at G.scr)) T.F__law_cell_at sc__law_cell_at T.hK fun cdv Ar outer s H E₀ E g =>
    (ss_cons (ss_if (t_lt (snd_var 1) (snd_len rfl T.z_len (sa_cons (snd_var 0) sa_nil))) (ss_one (ss_ret (snd_ix (snd_var 0) (snd_var 1)))) ss_nil) (ss_one (ss_ret snd_int)))
theorem sc__law_state : FnScope ["_law_script", "_law_k", "_law_cell"] ["_law_script", "_law_k"] (defScope s__law_state) := ⟨rfl, rfl, rfl, by decide +kernel, rfl, by decide +kernel, by decide +kernel⟩
def mb__law_state (scr : List Int) : MS := (mSeq (mAsg (mCall (F__law_cell_at scr) (mCons (mVar 0) (mCons (mVar 1) mNil))) (sName 2)) (mSeq (mIf (mB (m2 geD (mVar 2) (m2 powD (mC (.int 10)) (mC (.int 18))))) (mRet (mLst (mCons (m2 subD (mVar 2) (m2 powD (mC (.int 10)) (mC (.int 18)))) (mCons (mC (.bl true)) mNil)))) mNext) (mRet (mLst (mCons (m2 modD (mVar 2) (mC (.int 2147483647))) (mCons (mC (.bl false)) mNil))))))
def F__law_state (scr : List Int) : List Dv → Hs → Rs Dv := callM 2 3 (mb__law_state scr)
theorem ok__law_state (T : Tx K mg G A) : FnOk P w K mg base (CXm P w base) 2 A.f__law_state A.fd__law_state ["_law_script", "_law_k"] (spOf G (F__law_state G.scr)) :=
  fn_mir (k := 1) (N := ["_law_script", "_law_k", "_law_cell"]) (mb := (mb__law_state G.scr)) T.F__law_state sc__law_state T.hK fun cdv Ar outer s H E₀ E g =>
    (ss_cons (ss_set (i := 2) nd7 rfl (by first | exact Or.inl rfl | exact Or.inr rfl) (snd_call g (ok__law_cell_at T) (by decide) rfl T.m__law_cell_at T.F__law_cell_at.kp T.B__law_cell_at (sa_cons (snd_var 0) (sa_cons (snd_var 1) sa_nil)))) (ss_cons (ss_if (t_ge (snd_var 2) (x_pow snd_int snd_int)) (ss_one (ss_ret (snd_lst (sa_cons (x_sub (snd_var 2) (x_pow snd_int snd_int)) (sa_cons snd_bl sa_nil))))) ss_nil) (ss_one (ss_ret (snd_lst (sa_cons (x_mod (snd_var 2) snd_int) (sa_cons snd_bl sa_nil)))))))
theorem sc__law_sizes : FnScope ["_law_state_here", "_law_found", "_law_turn", "_law_left", "_law_kept", "_law_size"] ["_law_state_here"] (defScope s__law_sizes) := ⟨rfl, rfl, rfl, by decide +kernel, rfl, by decide +kernel, by decide +kernel⟩
def mb__law_sizes : MS := (mSeq (mAsg (mLst mNil) (sName 1)) (mSeq (mFor (mas rng1D (mCons (m2 addE (mC (.int 1)) (mCall F__law_take (mCons (mVar 0) (mCons (mC (.int 6)) mNil)))) mNil)) (sName 2) (mExpr (mApp (mVar 1) (m2 addE (mC (.int 1)) (m2 ix0 (mLst (mCons (mC (.int 0)) (mCons (mC (.int 0)) (mCons (mCall F__law_take (mCons (mVar 0) (mCons (mC (.int 3)) mNil))) (mCons (mCall F__law_take (mCons (mVar 0) (mCons (mC (.int 6)) mNil))) mNil))))) (mCall F__law_take (mCons (mVar 0) (mCons (mC (.int 4)) mNil)))))))) (mSeq (mAsg (mC (.int 6)) (sName 3)) (mSeq (mAsg (mLst mNil) (sName 4)) (mSeq (mFor (m1s lstD (mVar 1)) (sName 5) (mIf (mOr (mB (m2 leD (mVar 5) (mVar 3))) (mB (m2 eqD (mVar 4) (mLst mNil)))) (mSeq (mExpr (mApp (mVar 4) (mVar 5))) (mAsg (m2 subD (mVar 3) (mVar 5)) (sName 3))) mNext)) (mRet (m2 ix0 (mLst (mCons (mVar 4) (mCons (mVar 4) (mCons (mVar 4) (mCons (mVar 1) mNil))))) (mCall F__law_take (mCons (mVar 0) (mCons (mC (.int 4)) mNil))))))))))
def F__law_sizes : List Dv → Hs → Rs Dv := callM 1 6 (mb__law_sizes)
theorem ok__law_sizes (T : Tx K mg G A) : FnOk P w K mg base (CXm P w base) 2 A.f__law_sizes A.fd__law_sizes ["_law_state_here"] (spOf G F__law_sizes) :=
  fn_mir (k := 1) (N := ["_law_state_here", "_law_found", "_law_turn", "_law_left", "_law_kept", "_law_size"]) (mb := mb__law_sizes) T.F__law_sizes sc__law_sizes T.hK fun cdv Ar outer s H E₀ E g =>
    (ss_cons (ss_set (i := 1) nd8 rfl (by first | exact Or.inl rfl | exact Or.inr rfl) (snd_lst sa_nil)) (ss_cons (ss_for g.own g.calm (si_range1 rfl T.z_range (sa_cons (x_addE snd_int (snd_call g (ok__law_take T) (by decide) rfl T.m__law_take T.F__law_take.kp T.B__law_take (sa_cons (snd_var 0) (sa_cons snd_int sa_nil)))) sa_nil)) (sg_name (i := 2) nd8 rfl (by first | exact Or.inl rfl | exact Or.inr rfl)) (ss_one (ss_expr (snd_app (snd_var 1) (x_addE snd_int (x_ix0 (snd_lst (sa_cons snd_int (sa_cons snd_int (sa_cons (snd_call g (ok__law_take T) (by decide) rfl T.m__law_take T.F__law_take.kp T.B__law_take (sa_cons (snd_var 0) (sa_cons snd_int sa_nil))) (sa_cons (snd_call g (ok__law_take T) (by decide) rfl T.m__law_take T.F__law_take.kp T.B__law_take (sa_cons (snd_var 0) (sa_cons snd_int sa_nil))) sa_nil))))) (snd_call g (ok__law_take T) (by decide) rfl T.m__law_take T.F__law_take.kp T.B__law_take (sa_cons (snd_var 0) (sa_cons snd_int sa_nil))))))))) (ss_cons (ss_set (i := 3) nd8 rfl (by first | exact Or.inl rfl | exact Or.inr rfl) snd_int) (ss_cons (ss_set (i := 4) nd8 rfl (by first | exact Or.inl rfl | exact Or.inr rfl) (snd_lst sa_nil)) (ss_cons (ss_for g.own g.calm (si_list (snd_var 1)) (sg_name (i := 5) nd8 rfl (by first | exact Or.inl rfl | exact Or.inr rfl)) (ss_one (ss_if (SndW.t (tw_or (t_le (snd_var 5) (snd_var 3)) (tw_or1 (t_eq g (snd_var 4) (snd_lst sa_nil))))) (ss_cons (ss_expr (snd_app (snd_var 4) (snd_var 5))) (ss_one (ss_set (i := 3) nd8 rfl (by first | exact Or.inl rfl | exact Or.inr rfl) (x_sub (snd_var 3) (snd_var 5))))) ss_nil))) (ss_one (ss_ret (x_ix0 (snd_lst (sa_cons (snd_var 4) (sa_cons (snd_var 4) (sa_cons (snd_var 4) (sa_cons (snd_var 1) sa_nil))))) (snd_call g (ok__law_take T) (by decide) rfl T.m__law_take T.F__law_take.kp T.B__law_take (sa_cons (snd_var 0) (sa_cons snd_int sa_nil)))))))))))
theorem sc__law_same : FnScope ["_law_found", "_law_due"] ["_law_found", "_law_due"] (defScope s__law_same) := ⟨rfl, rfl, rfl, by decide +kernel, rfl, by decide +kernel, by decide +kernel⟩
def mb__law_same (Fs : List Dv → Hs → Rs Dv) : MS := (mSeq (mIf (mTru (m1 (isiD isTLF) (mVar 1))) (mSeq (mIf (mOr (mB (m2 neD (m1 (isiD isTupF) (mVar 0)) (m1 (isiD isTupF) (mVar 1)))) (mB (m2 neD (m1 (isiD isLstF) (mVar 0)) (m1 (isiD isLstF) (mVar 1))))) (mRet (mC (.bl false))) mNext) (mSeq (mIf (mB (m2 neD (mCall (f1 len0) (mCons (mVar 0) mNil)) (mCall (f1 len0) (mCons (mVar 1) mNil)))) (mRet (mC (.bl false))) mNext) (mRet (mL allF (mComp (mas zipS (mCons (mVar 0) (mCons (mVar 1) mNil))) [none, none] (sTup 2 (sCons (sName 0) (sCons (sName 1) sNil))) mTrue (mEmit (mCall Fs (mCons (mVar 0) (mCons (mVar 1) mNil))))))))) mNext) (mRet (mAndV (m2 eqD (mVar 0) (mVar 1)) (m2 eqD (m1 (isiD isBoolF) (mVar 0)) (m1 (isiD isBoolF) (mVar 1))))))
def F__law_same : Nat → List Dv → Hs → Rs Dv
  | 0 => fun _ _ => .bad
  | n + 1 => callM 2 2 (mb__law_same (F__law_same n))
theorem ok__law_same (T : Tx K mg G A) : ∀ n, FnOk P w K mg base (CXm P w base) n A.f__law_same A.fd__law_same ["_law_found", "_law_due"] (spOf G (F__law_same n))
  | 0 => fn_bad
  | n + 1 => by
    have okS := ok__law_same T n
    exact fn_mir (N := ["_law_found", "_law_due"]) (mb := mb__law_same (F__law_same n)) T.F__law_same sc__law_same T.hK fun cdv Ar outer s H E₀ E g =>
      (ss_cons (ss_if (tt_tru (x_isTL rfl T.z_isinstance rfl T.z_tuple rfl T.z_list (snd_var 1))) (ss_cons (ss_if (SndW.t (tw_or (t_ne g (x_isTup rfl T.z_isinstance rfl T.z_tuple (snd_var 0)) (x_isTup rfl T.z_isinstance rfl T.z_tuple (snd_var 1))) (tw_or1 (t_ne g (x_isLst rfl T.z_isinstance rfl T.z_list (snd_var 0)) (x_isLst rfl T.z_isinstance rfl T.z_list (snd_var 1)))))) (ss_one (ss_ret snd_bl)) ss_nil) (ss_cons (ss_if (t_ne g (x_len0 rfl T.z_len (sa_cons (snd_var 0) sa_nil)) (x_len0 rfl T.z_len (sa_cons (snd_var 1) sa_nil))) (ss_one (ss_ret snd_bl)) ss_nil) (ss_one (ss_ret (snd_all g.calm rfl T.z_all (sl_comp1 g.calm (capOk (N := ["_law_one", "_law_other"]) (cap := [none, none]) (os := (defScope s__law_same)) (oN := ["_law_found", "_law_due"]) rfl rfl rfl (by decide +kernel) rfl (by decide +kernel) (by decide +kernel) (by decide +kernel)) (si_zip rfl T.z_zip (sa_cons (snd_var 0) (sa_cons (snd_var 1) sa_nil))) (fun s H ex => (sg_tup (good_blk g).calm (sgs_cons (sg_name (i := 0) nd10 rfl (by first | exact Or.inl rfl | exact Or.inr rfl)) (sgs_cons (sg_name (i := 1) nd10 rfl (by first | exact Or.inl rfl | exact Or.inr rfl)) sgs_nil)))) (fun s H ex => ts_nil) (fun s H ex => (snd_call (good_blk g) okS (Nat.le_refl _) rfl T.m__law_same T.F__law_same.kp T.B__law_same (sa_cons (snd_var 0) (sa_cons (snd_var 1) sa_nil)))))))))) ss_nil) (ss_one (ss_ret (snd_and (x_eq g (snd_var 0) (snd_var 1)) (snd_one (x_eq g (x_isBool rfl T.z_isinstance rfl T.z_bool (snd_var 0)) (x_isBool rfl T.z_isinstance rfl T.z_bool (snd_var 1))))))))
theorem sc__law_numbered : FnScope ["_law_sizes_here", "_law_found", "_law_at"] ["_law_sizes_here"] (defScope s__law_numbered) := ⟨rfl, rfl, rfl, by decide +kernel, rfl, by decide +kernel, by decide +kernel⟩
def mb__law_numbered : MS := (mSeq (mAsg (mLst mNil) (sName 1)) (mSeq (mFor (mas rng1D (mCons (mCall (f1 len0) (mCons (mVar 0) mNil)) mNil)) (sName 2) (mAsg (m2 addE (mVar 1) (m2 repD (mLst (mCons (mVar 2) mNil)) (m2 ix0 (mVar 0) (mVar 2)))) (sName 1))) (mRet (mVar 1))))
def F__law_numbered : List Dv → Hs → Rs Dv := callM 1 3 (mb__law_numbered)
theorem ok__law_numbered (T : Tx K mg G A) : FnOk P w K mg base (CXm P w base) 1 A.f__law_numbered A.fd__law_numbered ["_law_sizes_here"] (spOf G F__law_numbered) :=
  fn_mir (k := 0) (N := ["_law_sizes_here", "_law_found", "_law_at"]) (mb := mb__law_numbered) T.F__law_numbered sc__law_numbered T.hK fun cdv Ar outer s H E₀ E g =>
    (ss_cons (ss_set (i := 1) nd11 rfl (by first | exact Or.inl rfl | exact Or.inr rfl) (snd_lst sa_nil)) (ss_cons (ss_for g.own g.calm (si_range1 rfl T.z_range (sa_cons (x_len0 rfl T.z_len (sa_cons (snd_var 0) sa_nil)) sa_nil)) (sg_name (i := 2) nd11 rfl (by first | exact Or.inl rfl | exact Or.inr rfl)) (ss_one (ss_set (i := 1) nd11 rfl (by first | exact Or.inl rfl | exact Or.inr rfl) (x_addE (snd_var 1) (x_rep (snd_lst (sa_cons (snd_var 2) sa_nil)) (x_ix0 (snd_var 0) (snd_var 2))))))) (ss_one (ss_ret (snd_var 1)))))
theorem sc__law_of_sizes : FnScope ["_law_sizes_here", "_law_chains", "_law_kind", "_law_pairs", "_law_a", "_law_b"] ["_law_sizes_here", "_law_chains"] (defScope s__law_of_sizes) := ⟨rfl, rfl, rfl, by decide +kernel, rfl, by decide +kernel, by decide +kernel⟩
def mb__law_of_sizes : MS := (mSeq (mAsg (mCall F__law_numbered (mCons (mVar 0) mNil)) (sName 2)) (mSeq (mAsg (mLst mNil) (sName 3)) (mSeq (mFor (mas rng1D (mCons (mCall (f1 len0) (mCons (mVar 2) mNil)) mNil)) (sName 4) (mFor (mas rng1D (mCons (mCall (f1 len0) (mCons (mVar 2) mNil)) mNil)) (sName 5) (mIf (mOr (mAnd (mTru (mVar 1)) (mAnd (mB (m2 ltD (mVar 4) (mVar 5))) (mB (m2 eqD (m2 ix0 (mVar 2) (mVar 4)) (m2 ix0 (mVar 2) (mVar 5)))))) (mAnd (mNot (mTru (mVar 1))) (mB (m2 ltD (m2 ix0 (mVar 2) (mVar 4)) (m2 ix0 (mVar 2) (mVar 5)))))) (mExpr (mApp (mVar 3) (mTup (mCons (mVar 4) (mCons (mVar 5) mNil))))) mNext))) (mRet (mTup (mCons (mCall (f1 len0) (mCons (mVar 2) mNil)) (mCons (mCall (f1 tupleD) (mCons (mVar 3) mNil)) mNil)))))))
def F__law_of_sizes : List Dv → Hs → Rs Dv := callM 2 6 (mb__law_of_sizes)
theorem ok__law_of_sizes (T : Tx K mg G A) : FnOk P w K mg base (CXm P w base) 2 A.f__law_of_sizes A.fd__law_of_sizes ["_law_sizes_here", "_law_chains"] (spOf G F__law_of_sizes) :=
  fn_mir (k := 1) (N := ["_law_sizes_here", "_law_chains", "_law_kind", "_law_pairs", "_law_a", "_law_b"]) (mb := mb__law_of_sizes) T.F__law_of_sizes sc__law_of_sizes T.hK fun cdv Ar outer s H E₀ E g =>
    (ss_cons (ss_set (i := 2) nd12 rfl (by first | exact Or.inl rfl | exact Or.inr rfl) (snd_call g (ok__law_numbered T) (by decide) rfl T.m__law_numbered T.F__law_numbered.kp T.B__law_numbered (sa_cons (snd_var 0) sa_nil))) (ss_cons (ss_set (i := 3) nd12 rfl (by first | exact Or.inl rfl | exact Or.inr rfl) (snd_lst sa_nil)) (ss_cons (ss_for g.own g.calm (si_range1 rfl T.z_range (sa_cons (x_len0 rfl T.z_len (sa_cons (snd_var 2) sa_nil)) sa_nil)) (sg_name (i := 4) nd12 rfl (by first | exact Or.inl rfl | exact Or.inr rfl)) (ss_one (ss_for g.own g.calm (si_range1 rfl T.z_range (sa_cons (x_len0 rfl T.z_len (sa_cons (snd_var 2) sa_nil)) sa_nil)) (sg_name (i := 5) nd12 rfl (by first | exact Or.inl rfl | exact Or.inr rfl)) (ss_one (ss_if (SndW.t (tw_or (SndW.t (tw_and (tt_tru (snd_var 1)) (tw_and (t_lt (snd_var 4) (snd_var 5)) (tw_and1 (t_eq g (x_ix0 (snd_var 2) (snd_var 4)) (x_ix0 (snd_var 2) (snd_var 5))))))) (tw_or1 (SndW.t (tw_and (tt_not (tt_tru (snd_var 1))) (tw_and1 (t_lt (x_ix0 (snd_var 2) (snd_var 4)) (x_ix0 (snd_var 2) (snd_var 5))))))))) (ss_one (ss_expr (snd_app (snd_var 3) (snd_tup (sa_cons (snd_var 4) (sa_cons (snd_var 5) sa_nil)))))) ss_nil))))) (ss_one (ss_ret (snd_tup (sa_cons (x_len0 rfl T.z_len (sa_cons (snd_var 2) sa_nil)) (sa_cons (snd_tuple rfl T.z_tuple (sa_cons (snd_var 3) sa_nil)) sa_nil))))))))
theorem sc__law_least_with : FnScope ["_law_order", "_law_reach", "_law_found", "_law_turn", "_law_up", "_law_a", "_law_b"] ["_law_order", "_law_reach"] (defScope s__law_least_with) := ⟨rfl, rfl, rfl, by decide +kernel, rfl, by decide +kernel, by decide +kernel⟩
def mb__law_least_with : MS := (mSeq (mAsg (m2 repD (mLst (mCons (mC (.int 0)) mNil)) (m2 ix0 (mVar 0) (mC (.int 0)))) (sName 2)) (mSeq (mFor (mas rng1D (mCons (m2 addE (m2 mulD (m2 ix0 (mVar 0) (mC (.int 0))) (m2 ix0 (mVar 0) (mC (.int 0)))) (mC (.int 2))) mNil)) (sName 3) (mSeq (mAsg (mCall (f1 list0) (mCons (mVar 2) mNil)) (sName 4)) (mSeq (mFor (m1s tupS (m2 ix0 (mVar 0) (mC (.int 1)))) (sTup 2 (sCons (sName 5) (sCons (sName 6) sNil))) (mSetIx (mVar 4) (mVar 6) (mCall max2F (mCons (m2 ix0 (mVar 4) (mVar 6)) (mCons (m2 addE (m2 ix0 (mVar 2) (mVar 5)) (mC (.int 1))) mNil))))) (mSeq (mFor (m1s lstD (mCall F__law_loose (mCons (mVar 0) mNil))) (sTup 2 (sCons (sName 5) (sCons (sName 6) sNil))) (mSeq (mSetIx (mVar 4) (mVar 5) (mCall max2F (mCons (m2 ix0 (mVar 4) (mVar 5)) (mCons (m2 subD (m2 ix0 (mVar 2) (mVar 6)) (mVar 1)) mNil)))) (mSetIx (mVar 4) (mVar 6) (mCall max2F (mCons (m2 ix0 (mVar 4) (mVar 6)) (mCons (m2 subD (m2 ix0 (mVar 2) (mVar 5)) (mVar 1)) mNil)))))) (mSeq (mIf (mB (m2 eqD (mVar 4) (mVar 2))) (mRet (mCall (f1 tupleD) (mCons (mVar 2) mNil))) mNext) (mSeq (mAsg (mVar 4) (sName 2)) (mIf (mB (m2 geD (mCall (f1 (l1D maxI)) (mCons (mVar 2) mNil)) (m2 ix0 (mVar 0) (mC (.int 0))))) (mRet (mC .non)) mNext))))))) (mRet (mC .non))))
def F__law_least_with : List Dv → Hs → Rs Dv := callM 2 7 (mb__law_least_with)
theorem ok__law_least_with (T : Tx K mg G A) : FnOk P w K mg base (CXm P w base) 2 A.f__law_least_with A.fd__law_least_with ["_law_order", "_law_reach"] (spOf G F__law_least_with) :=
  fn_mir (k := 1) (N := ["_law_order", "_law_reach", "_law_found", "_law_turn", "_law_up", "_law_a", "_law_b"]) (mb := mb__law_least_with) T.F__law_least_with sc__law_least_with T.hK fun cdv Ar outer s H E₀ E g =>
    (ss_cons (ss_set (i := 2) nd13 rfl (by first | exact Or.inl rfl | exact Or.inr rfl) (x_rep (snd_lst (sa_cons snd_int sa_nil)) (x_ix0 (snd_var 0) snd_int))) (ss_cons (ss_for g.own g.calm (si_range1 rfl T.z_range (sa_cons (x_addE (x_mul (x_ix0 (snd_var 0) snd_int) (x_ix0 (snd_var 0) snd_int)) snd_int) sa_nil)) (sg_name (i := 3) nd13 rfl (by first | exact Or.inl rfl | exact Or.inr rfl)) (ss_cons (ss_set (i := 4) nd13 rfl (by first | exact Or.inl rfl | exact Or.inr rfl) (x_list0 rfl T.z_list (sa_cons (snd_var 2) sa_nil))) (ss_cons (ss_for g.own g.calm (si_tup (x_ix0 (snd_var 0) snd_int)) (sg_tup g.calm (sgs_cons (sg_name (i := 5) nd13 rfl (by first | exact Or.inl rfl | exact Or.inr rfl)) (sgs_cons (sg_name (i := 6) nd13 rfl (by first | exact Or.inl rfl | exact Or.inr rfl)) sgs_nil))) (ss_one (ss_setIx (snd_var 4) (snd_var 6) (snd_max2 g.calm rfl T.z_max (sa_cons (x_ix0 (snd_var 4) (snd_var 6)) (sa_cons (x_addE (x_ix0 (snd_var 2) (snd_var 5)) snd_int) sa_nil)))))) (ss_cons (ss_for g.own g.calm (si_list (snd_call g (ok__law_loose T) (by decide) rfl T.m__law_loose T.F__law_loose.kp T.B__law_loose (sa_cons (snd_var 0) sa_nil))) (sg_tup g.calm (sgs_cons (sg_name (i := 5) nd13 rfl (by first | exact Or.inl rfl | exact Or.inr rfl)) (sgs_cons (sg_name (i := 6) nd13 rfl (by first | exact Or.inl rfl | exact Or.inr rfl)) sgs_nil))) (ss_cons (ss_setIx (snd_var 4) (snd_var 5) (snd_max2 g.calm rfl T.z_max (sa_cons (x_ix0 (snd_var 4) (snd_var 5)) (sa_cons (x_sub (x_ix0 (snd_var 2) (snd_var 6)) (snd_var 1)) sa_nil)))) (ss_one (ss_setIx (snd_var 4) (snd_var 6) (snd_max2 g.calm rfl T.z_max (sa_cons (x_ix0 (snd_var 4) (snd_var 6)) (sa_cons (x_sub (x_ix0 (snd_var 2) (snd_var 5)) (snd_var 1)) sa_nil))))))) (ss_cons (ss_if (t_eq g (snd_var 4) (snd_var 2)) (ss_one (ss_ret (snd_tuple rfl T.z_tuple (sa_cons (snd_var 2) sa_nil)))) ss_nil) (ss_cons (ss_set (i := 2) nd13 rfl (by first | exact Or.inl rfl | exact Or.inr rfl) (snd_var 4)) (ss_one (ss_if (t_ge (x_maxL g.calm rfl T.z_max (sa_cons (snd_var 2) sa_nil)) (x_ix0 (snd_var 0) snd_int)) (ss_one (ss_ret snd_non)) ss_nil)))))))) (ss_one (ss_ret snd_non))))
theorem sc__law_least_reach : FnScope ["_law_order", "_law_reach"] ["_law_order"] (defScope s__law_least_reach) := ⟨rfl, rfl, rfl, by decide +kernel, rfl, by decide +kernel, by decide +kernel⟩
def mb__law_least_reach : MS := (mSeq (mAsg (mC (.int 0)) (sName 1)) (mSeq (whileM (mB (m2 (isC false) (mCall F__law_least_with (mCons (mVar 0) (mCons (mVar 1) mNil))) (mC .non))) (mAsg (m2 addE (mVar 1) (mC (.int 1))) (sName 1)) 20) (mRet (mVar 1))))
def F__law_least_reach : List Dv → Hs → Rs Dv := callM 1 2 (mb__law_least_reach)
theorem ok__law_least_reach (T : Tx K mg G A) : FnOk P w K mg base (CXm P w base) 3 A.f__law_least_reach A.fd__law_least_reach ["_law_order"] (spOf G F__law_least_reach) :=
  fn_mir (k := 2) (N := ["_law_order", "_law_reach"]) (mb := mb__law_least_reach) T.F__law_least_reach sc__law_least_reach T.hK fun cdv Ar outer s H E₀ E g =>
    (ss_cons (ss_set (i := 1) nd14 rfl (by first | exact Or.inl rfl | exact Or.inr rfl) snd_int) (ss_cons (ss_while 20 g.own (t_is (snd_call g (ok__law_least_with T) (by decide) rfl T.m__law_least_with T.F__law_least_with.kp T.B__law_least_with (sa_cons (snd_var 0) (sa_cons (snd_var 1) sa_nil))) snd_non) (ss_one (ss_set (i := 1) nd14 rfl (by first | exact Or.inl rfl | exact Or.inr rfl) (x_addE (snd_var 1) snd_int)))) (ss_one (ss_ret (snd_var 1)))))
theorem sc__law_bad_sizes : FnScope ["_law_state_here", "_law_some"] ["_law_state_here"] (defScope s__law_bad_sizes) := ⟨rfl, rfl, rfl, by decide +kernel, rfl, by decide +kernel, by decide +kernel⟩
def mb__law_bad_sizes : MS := (mSeq (mAsg (mLst (mCons (mC .non) (mCons (mLst mNil) (mCons (mLst (mCons (mC (.int 0)) mNil)) (mCons (mLst (mCons (mC (.int 1)) (mCons (m1 negD (mC (.int 1))) mNil))) (mCons (mLst (mCons (mC (.bl true)) mNil)) (mCons (mLst (mCons (mC (.str "1")) mNil)) (mCons (mTup (mCons (mC (.int 1)) (mCons (mC (.int 2)) mNil))) (mCons (m2 repD (mLst (mCons (mC (.int 1)) mNil)) (mC (.int 7))) (mCons (mC .edc) (mCons (mC (.int 3)) (mCons (mLst (mCons (mC .non) mNil)) (mCons (mLst (mCons (mLst (mCons (mC (.int 1)) mNil)) mNil)) (mCons (mLst (mCons (mC (.int 1)) (mCons (mTup (mCons (mC (.int 2)) mNil)) mNil))) (mCons (mC (.str "12")) mNil))))))))))))))) (sName 1)) (mRet (m2 ix0 (mVar 1) (mCall F__law_take (mCons (mVar 0) (mCons (mC (.int 14)) mNil))))))
def F__law_bad_sizes : List Dv → Hs → Rs Dv := callM 1 2 (mb__law_bad_sizes)
theorem ok__law_bad_sizes (T : Tx K mg G A) : FnOk P w K mg base (CXm P w base) 2 A.f__law_bad_sizes A.fd__law_bad_sizes ["_law_state_here"] (spOf G F__law_bad_sizes) :=
  fn_mir (k := 1) (N := ["_law_state_here", "_law_some"]) (mb := mb__law_bad_sizes) T.F__law_bad_sizes sc__law_bad_sizes T.hK fun cdv Ar outer s H E₀ E g =>
    (ss_cons (ss_set (i := 1) nd15 rfl (by first | exact Or.inl rfl | exact Or.inr rfl) (snd_lst (sa_cons snd_non (sa_cons (snd_lst sa_nil) (sa_cons (snd_lst (sa_cons snd_int sa_nil)) (sa_cons (snd_lst (sa_cons snd_int (sa_cons (x_neg snd_int) sa_nil))) (sa_cons (snd_lst (sa_cons snd_bl sa_nil)) (sa_cons (snd_lst (sa_cons snd_str sa_nil)) (sa_cons (snd_tup (sa_cons snd_int (sa_cons snd_int sa_nil))) (sa_cons (x_rep (snd_lst (sa_cons snd_int sa_nil)) snd_int) (sa_cons snd_edc (sa_cons snd_int (sa_cons (snd_lst (sa_cons snd_non sa_nil)) (sa_cons (snd_lst (sa_cons (snd_lst (sa_cons snd_int sa_nil)) sa_nil)) (sa_cons (snd_lst (sa_cons snd_int (sa_cons (snd_tup (sa_cons snd_int sa_nil)) sa_nil))) (sa_cons snd_str sa_nil)))))))))))))))) (ss_one (ss_ret (x_ix0 (snd_var 1) (snd_call g (ok__law_take T) (by decide) rfl T.m__law_take T.F__law_take.kp T.B__law_take (sa_cons (snd_var 0) (sa_cons snd_int sa_nil)))))))
def mb__law_refused : MS := (mSeq (mAsg (mLst (mCons (m1 (isiD (isOwnF none tbl0)) (mVar 1)) (mCons (m1 (isiD (isOwnF none tbl1)) (mVar 1)) (mCons (m1 (isiD (isOwnF none tbl2)) (mVar 1)) mNil)))) (sName 3)) (mSeq (mAsg (m2 addE (mVar 3) (mLst (mCons (m1 (isiD (isOwnF none tbl3)) (mVar 1)) (mCons (m1 (isiD (isOwnF none tbl4)) (mVar 1)) (mCons (m1 (isiD (isOwnF none tbl5)) (mVar 1)) mNil))))) (sName 3)) (mSeq (mAsg (m2 addE (mVar 3) (mLst (mCons (m1 (isiD (isOwnF none tbl6)) (mVar 1)) (mCons (m1 (isiD (isOwnF none tbl7)) (mVar 1)) (mCons (m1 (isiD (isOwnF none tbl8)) (mVar 1)) mNil))))) (sName 3)) (mSeq (mAsg (m2 addE (mVar 3) (mLst (mCons (m1 (isiD (isOwnF none tbl9)) (mVar 1)) (mCons (m1 (isiD (isOwnF none tbl10)) (mVar 1)) (mCons (m1 (isiD (isOwnF none tbl11)) (mVar 1)) mNil))))) (sName 3)) (mSeq (mAsg (m2 addE (mVar 3) (mLst (mCons (m1 (isiD (isOwnF none tbl12)) (mVar 1)) (mCons (m1 (isiD (isOwnF none tbl13)) (mVar 1)) mNil)))) (sName 3)) (mSeq (mIf (mNot (mTru (m1 (isiD (isOwnF none tblV)) (mVar 1)))) (mRet (mC .non)) mNext) (mRet (mAl (mComp (mas rng1D (mCons (mC (.int 14)) mNil)) [none, some 3] (sName 0) (mTru (m2 ix0 (mVar 1) (mVar 0))) (mEmit (mVar 0)))))))))))
theorem sc__law_refused : FnScope ["_law_call", "_law_error", "e", "_law_marks"] ["_law_call"] (defScope s__law_refused) := ⟨rfl, rfl, rfl, by decide +kernel, rfl, by decide +kernel, by decide +kernel⟩
theorem rest__law_refused {k : Nat} (T : Tx K mg G A) (cdv : Value) (Ar : Around) (outer : List Env) (s : Shared) (H : Hp) (E₀ E : XK) (g : Good (cxOf (CXm P w base) P w K mg base ["_law_call", "_law_error", "e", "_law_marks"] "_law_refused" (defScope s__law_refused) A.f__law_refused cdv Ar outer s H E₀) G E k) : SndSs (cxOf (CXm P w base) P w K mg base ["_law_call", "_law_error", "e", "_law_marks"] "_law_refused" (defScope s__law_refused) A.f__law_refused cdv Ar outer s H E₀) G E ((defBody s__law_refused).drop 2) mb__law_refused :=
  (ss_cons (ss_set (i := 3) nd16 rfl (by first | exact Or.inl rfl | exact Or.inr rfl) (snd_lst (sa_cons (x_isOwn rfl T.z_isinstance rfl T.n_NoOrder (snd_var 1) (fun _ h => by cases h) T.kt0) (sa_cons (x_isOwn rfl T.z_isinstance rfl T.n_NoNumber (snd_var 1) (fun _ h => by cases h) T.kt1) (sa_cons (x_isOwn rfl T.z_isinstance rfl T.n_NoPairs (snd_var 1) (fun _ h => by cases h) T.kt2) sa_nil))))) (ss_cons (ss_set (i := 3) nd16 rfl (by first | exact Or.inl rfl | exact Or.inr rfl) (x_addE (snd_var 3) (snd_lst (sa_cons (x_isOwn rfl T.z_isinstance rfl T.n_Round (snd_var 1) (fun _ h => by cases h) T.kt3) (sa_cons (x_isOwn rfl T.z_isinstance rfl T.n_NoThing (snd_var 1) (fun _ h => by cases h) T.kt4) (sa_cons (x_isOwn rfl T.z_isinstance rfl T.n_NoRow (snd_var 1) (fun _ h => by cases h) T.kt5) sa_nil)))))) (ss_cons (ss_set (i := 3) nd16 rfl (by first | exact Or.inl rfl | exact Or.inr rfl) (x_addE (snd_var 3) (snd_lst (sa_cons (x_isOwn rfl T.z_isinstance rfl T.n_TooMany (snd_var 1) (fun _ h => by cases h) T.kt6) (sa_cons (x_isOwn rfl T.z_isinstance rfl T.n_TooFew (snd_var 1) (fun _ h => by cases h) T.kt7) (sa_cons (x_isOwn rfl T.z_isinstance rfl T.n_NoText (snd_var 1) (fun _ h => by cases h) T.kt8) sa_nil)))))) (ss_cons (ss_set (i := 3) nd16 rfl (by first | exact Or.inl rfl | exact Or.inr rfl) (x_addE (snd_var 3) (snd_lst (sa_cons (x_isOwn rfl T.z_isinstance rfl T.n_NoLine (snd_var 1) (fun _ h => by cases h) T.kt9) (sa_cons (x_isOwn rfl T.z_isinstance rfl T.n_NoDeed (snd_var 1) (fun _ h => by cases h) T.kt10) (sa_cons (x_isOwn rfl T.z_isinstance rfl T.n_NoSeating (snd_var 1) (fun _ h => by cases h) T.kt11) sa_nil)))))) (ss_cons (ss_set (i := 3) nd16 rfl (by first | exact Or.inl rfl | exact Or.inr rfl) (x_addE (snd_var 3) (snd_lst (sa_cons (x_isOwn rfl T.z_isinstance rfl T.n_NoRing (snd_var 1) (fun _ h => by cases h) T.kt12) (sa_cons (x_isOwn rfl T.z_isinstance rfl T.n_NoSizes (snd_var 1) (fun _ h => by cases h) T.kt13) sa_nil))))) (ss_cons (ss_if (tt_not (tt_tru (x_isVE rfl T.z_isinstance rfl T.z_ValueError (snd_var 1) (fun _ h => by cases h) T.ktV))) (ss_one (ss_ret snd_non)) ss_nil) (ss_one (ss_ret (snd_ofL (sl_comp1 g.calm (capOk (N := ["_law_k", "_law_marks"]) (cap := [none, some 3]) (os := (defScope s__law_refused)) (oN := ["_law_call", "_law_error", "e", "_law_marks"]) rfl rfl rfl (by decide +kernel) rfl (by decide +kernel) (by decide +kernel) (by decide +kernel)) (si_range1 rfl T.z_range (sa_cons snd_int sa_nil)) (fun s H ex => (sg_name (i := 0) nd17 rfl (by first | exact Or.inl rfl | exact Or.inr rfl))) (fun s H ex => (ts_one (tt_tru (x_ix0 (snd_var 1) (snd_var 0))))) (fun s H ex => (snd_var 0))))))))))))
theorem ok__law_refused {k : Nat} {Nl : List Str} {params : Arguments} {body : Expr} {scope : Scope} {me : M Dv} (T : Tx K mg G A) (LS : LamScope Nl scope) (hb : ∀ (cl : List (Str × Addr)) (pm cdv ct : Value), bindArgs (PySem.W.kla_fn "<lambda>" G.lq params body scope cl pm cdv ct) ⟨[], []⟩ = pure [])
    (hbody : ∀ (f : Addr) (cdv : Value) (cl : List (Str × Addr)) (A : Around) (outer : List Env) (s : Shared) (H : Hp) (E₀ E : XK), Good (cxLam P w K mg base Nl G.lq scope f cdv cl A outer s H E₀) G E k → Snd (cxLam P w K mg base Nl G.lq scope f cdv cl A outer s H E₀) G E body me) :
    FnOk P w K mg base (CXm P w base) (k + 2) A.f__law_refused A.fd__law_refused ["_law_call"] (spRef G base Nl params body scope me 4 14 mb__law_refused) :=
  fn_ref T.F__law_refused sc__law_refused T.hK rfl rfl rfl rfl rfl rfl rfl (by decide) (by decide) (by decide) (by decide) (by decide) (fun _ _ => rfl) (fun _ _ => rfl) (fun _ _ => rfl) rfl T.n_NearError T.e1 T.e2 T.e3 T.e4 LS hb hbody (rest__law_refused T)
theorem sc__law_great : FnScope ["_law_state_here", "_law_found", "_law_turn", "_law_size", "_law_part"] ["_law_state_here"] (defScope s__law_great) := ⟨rfl, rfl, rfl, by decide +kernel, rfl, by decide +kernel, by decide +kernel⟩
def mb__law_great : MS := (mSeq (mAsg (mLst mNil) (sName 1)) (mSeq (mFor (mas rng1D (mCons (m2 addE (mC (.int 1)) (mCall F__law_take (mCons (mVar 0) (mCons (mC (.int 6)) mNil)))) mNil)) (sName 2) (mSeq (mAsg (mC (.int 0)) (sName 3)) (mSeq (mFor (mas rng1D (mCons (mC (.int 4)) mNil)) (sName 4) (mAsg (m2 addE (m2 mulD (mVar 3) (mC (.int 2147483587))) (mCall F__law_take (mCons (mVar 0) (mCons (mC (.int 2147483587)) mNil)))) (sName 3))) (mExpr (mApp (mVar 1) (m2 addE (mC (.int 1)) (m2 modD (mVar 3) (m2 ix0 (mLst (mCons (mC (.int 10)) (mCons (mC (.int 1000)) (mCons (m2 powD (mC (.int 10)) (mC (.int 15))) (mCons (m2 subD (m2 powD (mC (.int 10)) (mC (.int 30))) (mC (.int 1))) mNil))))) (mCall F__law_take (mCons (mVar 0) (mCons (mC (.int 4)) mNil))))))))))) (mRet (mVar 1))))
def F__law_great : List Dv → Hs → Rs Dv := callM 1 5 (mb__law_great)
theorem ok__law_great (T : Tx K mg G A) : FnOk P w K mg base (CXm P w base) 2 A.f__law_great A.fd__law_great ["_law_state_here"] (spOf G F__law_great) :=
  fn_mir (k := 1) (N := ["_law_state_here", "_law_found", "_law_turn", "_law_size", "_law_part"]) (mb := mb__law_great) T.F__law_great sc__law_great T.hK fun cdv Ar outer s H E₀ E g =>
    (ss_cons (ss_set (i := 1) nd18 rfl (by first | exact Or.inl rfl | exact Or.inr rfl) (snd_lst sa_nil)) (ss_cons (ss_for g.own g.calm (si_range1 rfl T.z_range (sa_cons (x_addE snd_int (snd_call g (ok__law_take T) (by decide) rfl T.m__law_take T.F__law_take.kp T.B__law_take (sa_cons (snd_var 0) (sa_cons snd_int sa_nil)))) sa_nil)) (sg_name (i := 2) nd18 rfl (by first | exact Or.inl rfl | exact Or.inr rfl)) (ss_cons (ss_set (i := 3) nd18 rfl (by first | exact Or.inl rfl | exact Or.inr rfl) snd_int) (ss_cons (ss_for g.own g.calm (si_range1 rfl T.z_range (sa_cons snd_int sa_nil)) (sg_name (i := 4) nd18 rfl (by first | exact Or.inl rfl | exact Or.inr rfl)) (ss_one (ss_set (i := 3) nd18 rfl (by first | exact Or.inl rfl | exact Or.inr rfl) (x_addE (x_mul (snd_var 3) snd_int) (snd_call g (ok__law_take T) (by decide) rfl T.m__law_take T.F__law_take.kp T.B__law_take (sa_cons (snd_var 0) (sa_cons snd_int sa_nil))))))) (ss_one (ss_expr (snd_app (snd_var 1) (x_addE snd_int (x_mod (snd_var 3) (x_ix0 (snd_lst (sa_cons snd_int (sa_cons snd_int (sa_cons (x_pow snd_int snd_int) (sa_cons (x_sub (x_pow snd_int snd_int) snd_int) sa_nil))))) (snd_call g (ok__law_take T) (by decide) rfl T.m__law_take T.F__law_take.kp T.B__law_take (sa_cons (snd_var 0) (sa_cons snd_int sa_nil)))))))))))) (ss_one (ss_ret (snd_var 1)))))
theorem sc__law_rows : FnScope ["_law_order", "_law_found", "_law_turn", "_law_longer", "_law_row", "_law_thing", "_law_ahead"] ["_law_order"] (defScope s__law_rows) := ⟨rfl, rfl, rfl, by decide +kernel, rfl, by decide +kernel, by decide +kernel⟩
def mb__law_rows : MS := (mSeq (mAsg (mLst (mCons (mTup mNil) mNil)) (sName 1)) (mSeq (mFor (mas rng1D (mCons (m2 ix0 (mVar 0) (mC (.int 0))) mNil)) (sName 2) (mSeq (mAsg (mLst mNil) (sName 3)) (mSeq (mFor (m1s lstD (mVar 1)) (sName 4) (mFor (mas rng1D (mCons (m2 ix0 (mVar 0) (mC (.int 0))) mNil)) (sName 5) (mSeq (mAsg (mAl (mComp (m1s tupS (m2 ix0 (mVar 0) (mC (.int 1)))) [none, none, some 5, some 4] (sTup 2 (sCons (sName 0) (sCons (sName 1) sNil))) (mAnd (mB (m2 eqD (mVar 1) (mVar 2))) (mB (m2 (in0 true) (mVar 0) (mVar 3)))) (mEmit (mVar 0)))) (sName 6)) (mIf (mAnd (mB (m2 (in0 true) (mVar 5) (mVar 4))) (mB (m2 eqD (mVar 6) (mLst mNil)))) (mExpr (mApp (mVar 3) (m2 addE (mVar 4) (mTup (mCons (mVar 5) mNil))))) mNext)))) (mAsg (mVar 3) (sName 1))))) (mRet (mVar 1))))
def F__law_rows : List Dv → Hs → Rs Dv := callM 1 7 (mb__law_rows)
theorem ok__law_rows (T : Tx K mg G A) : FnOk P w K mg base (CXm P w base) 1 A.f__law_rows A.fd__law_rows ["_law_order"] (spOf G F__law_rows) :=
  fn_mir (k := 0) (N := ["_law_order", "_law_found", "_law_turn", "_law_longer", "_law_row", "_law_thing", "_law_ahead"]) (mb := mb__law_rows) T.F__law_rows sc__law_rows T.hK fun cdv Ar outer s H E₀ E g =>
    (ss_cons (ss_set (i := 1) nd19 rfl (by first | exact Or.inl rfl | exact Or.inr rfl) (snd_lst (sa_cons (snd_tup sa_nil) sa_nil))) (ss_cons (ss_for g.own g.calm (si_range1 rfl T.z_range (sa_cons (x_ix0 (snd_var 0) snd_int) sa_nil)) (sg_name (i := 2) nd19 rfl (by first | exact Or.inl rfl | exact Or.inr rfl)) (ss_cons (ss_set (i := 3) nd19 rfl (by first | exact Or.inl rfl | exact Or.inr rfl) (snd_lst sa_nil)) (ss_cons (ss_for g.own g.calm (si_list (snd_var 1)) (sg_name (i := 4) nd19 rfl (by first | exact Or.inl rfl | exact Or.inr rfl)) (ss_one (ss_for g.own g.calm (si_range1 rfl T.z_range (sa_cons (x_ix0 (snd_var 0) snd_int) sa_nil)) (sg_name (i := 5) nd19 rfl (by first | exact Or.inl rfl | exact Or.inr rfl)) (ss_cons (ss_setcomp1 (i := 6) nd19 rfl g.calm (capOk (N := ["_law_a", "_law_b", "_law_thing", "_law_row"]) (cap := [none, none, some 5, some 4]) (os := (defScope s__law_rows)) (oN := ["_law_order", "_law_found", "_law_turn", "_law_longer", "_law_row", "_law_thing", "_law_ahead"]) rfl rfl rfl (by decide +kernel) rfl (by decide +kernel) (by decide +kernel) (by decide +kernel)) (si_tup (x_ix0 (snd_var 0) snd_int)) (fun s H ex => (sg_tup (good_blk g).calm (sgs_cons (sg_name (i := 0) nd20 rfl (by first | exact Or.inl rfl | exact Or.inr rfl)) (sgs_cons (sg_name (i := 1) nd20 rfl (by first | exact Or.inl rfl | exact Or.inr rfl)) sgs_nil)))) (fun s H ex => (ts_one (SndW.t (tw_and (t_eq (good_blk g) (snd_var 1) (snd_var 2)) (tw_and1 (t_nin (good_blk g) (snd_var 0) (snd_var 3))))))) (fun s H ex => (snd_var 0))) (ss_one (ss_if (SndW.t (tw_and (t_nin g (snd_var 5) (snd_var 4)) (tw_and1 (t_eq g (snd_var 6) (snd_lst sa_nil))))) (ss_one (ss_expr (snd_app (snd_var 3) (x_addE (snd_var 4) (snd_tup (sa_cons (snd_var 5) sa_nil)))))) ss_nil)))))) (ss_one (ss_set (i := 1) nd19 rfl (by first | exact Or.inl rfl | exact Or.inr rfl) (snd_var 3)))))) (ss_one (ss_ret (snd_var 1)))))
theorem sc__law_span : FnScope ["_law_order", "_law_pairs", "_law_least", "_law_row", "_law_far"] ["_law_order"] (defScope s__law_span) := ⟨rfl, rfl, rfl, by decide +kernel, rfl, by decide +kernel, by decide +kernel⟩
def mb__law_span : MS := (mSeq (mAsg (mCall F__law_loose (mCons (mVar 0) mNil)) (sName 1)) (mSeq (mAsg (m2 ix0 (mVar 0) (mC (.int 0))) (sName 2)) (mSeq (mFor (m1s lstD (mCall F__law_rows (mCons (mVar 0) mNil))) (sName 3) (mSeq (mAsg (mAl (mComp (m1s lstD (mVar 1)) [none, none, some 3] (sTup 2 (sCons (sName 0) (sCons (sName 1) sNil))) mTrue (mEmit (mCall (f1 absD) (mCons (m2 subD (mIdx (mVar 2) (mVar 0)) (mIdx (mVar 2) (mVar 1))) mNil))))) (sName 4)) (mAsg (mCall min2F (mCons (mVar 2) (mCons (mCall (f1 (l1D maxI)) (mCons (m2 addE (mLst (mCons (mC (.int 0)) mNil)) (mVar 4)) mNil)) mNil))) (sName 2)))) (mRet (mVar 2)))))
def F__law_span : List Dv → Hs → Rs Dv := callM 1 5 (mb__law_span)
theorem ok__law_span (T : Tx K mg G A) : FnOk P w K mg base (CXm P w base) 2 A.f__law_span A.fd__law_span ["_law_order"] (spOf G F__law_span) :=
  fn_mir (k := 1) (N := ["_law_order", "_law_pairs", "_law_least", "_law_row", "_law_far"]) (mb := mb__law_span) T.F__law_span sc__law_span T.hK fun cdv Ar outer s H E₀ E g =>
    (ss_cons (ss_set (i := 1) nd21 rfl (by first | exact Or.inl rfl | exact Or.inr rfl) (snd_call g (ok__law_loose T) (by decide) rfl T.m__law_loose T.F__law_loose.kp T.B__law_loose (sa_cons (snd_var 0) sa_nil))) (ss_cons (ss_set (i := 2) nd21 rfl (by first | exact Or.inl rfl | exact Or.inr rfl) (x_ix0 (snd_var 0) snd_int)) (ss_cons (ss_for g.own g.calm (si_list (snd_call g (ok__law_rows T) (by decide) rfl T.m__law_rows T.F__law_rows.kp T.B__law_rows (sa_cons (snd_var 0) sa_nil))) (sg_name (i := 3) nd21 rfl (by first | exact Or.inl rfl | exact Or.inr rfl)) (ss_cons (ss_setcomp1 (i := 4) nd21 rfl g.calm (capOk (N := ["_law_a", "_law_b", "_law_row"]) (cap := [none, none, some 3]) (os := (defScope s__law_span)) (oN := ["_law_order", "_law_pairs", "_law_least", "_law_row", "_law_far"]) rfl rfl rfl (by decide +kernel) rfl (by decide +kernel) (by decide +kernel) (by decide +kernel)) (si_list (snd_var 1)) (fun s H ex => (sg_tup (good_blk g).calm (sgs_cons (sg_name (i := 0) nd22 rfl (by first | exact Or.inl rfl | exact Or.inr rfl)) (sgs_cons (sg_name (i := 1) nd22 rfl (by first | exact Or.inl rfl | exact Or.inr rfl)) sgs_nil)))) (fun s H ex => ts_nil) (fun s H ex => (snd_abs rfl T.z_abs (sa_cons (x_sub (snd_index (snd_var 2) (snd_var 0)) (snd_index (snd_var 2) (snd_var 1))) sa_nil)))) (ss_one (ss_set (i := 2) nd21 rfl (by first | exact Or.inl rfl | exact Or.inr rfl) (snd_min2 g.calm rfl T.z_min (sa_cons (snd_var 2) (sa_cons (x_maxL g.calm rfl T.z_max (sa_cons (x_addE (snd_lst (sa_cons snd_int sa_nil)) (snd_var 4)) sa_nil)) sa_nil))))))) (ss_one (ss_ret (snd_var 2))))))
theorem sc__law_reach_by_rule : FnScope ["_law_sizes_here", "_law_two"] ["_law_sizes_here"] (defScope s__law_reach_by_rule) := ⟨rfl, rfl, rfl, by decide +kernel, rfl, by decide +kernel, by decide +kernel⟩
def mb__law_reach_by_rule : MS := (mSeq (mIf (mB (m2 eqD (mCall (f1 len0) (mCons (mVar 0) mNil)) (mC (.int 1)))) (mRet (mC (.int 0))) mNext) (mSeq (mAsg (mSl (mCall (f1 sortD) (mCons (mVar 0) mNil)) (mBd (m1 negD (mC (.int 2)))) mNoB) (sName 1)) (mRet (m2 addE (m2 fdivW (m2 subD (m2 addE (m2 ix0 (mVar 1) (mC (.int 0))) (m2 ix0 (mVar 1) (mC (.int 1)))) (mC (.int 2))) (mC (.int 2))) (m2 modD (m2 addE (m2 ix0 (mVar 1) (mC (.int 0))) (m2 ix0 (mVar 1) (mC (.int 1)))) (mC (.int 2)))))))
def F__law_reach_by_rule : List Dv → Hs → Rs Dv := callM 1 2 (mb__law_reach_by_rule)
theorem ok__law_reach_by_rule (T : Tx K mg G A) : FnOk P w K mg base (CXm P w base) 1 A.f__law_reach_by_rule A.fd__law_reach_by_rule ["_law_sizes_here"] (spOf G F__law_reach_by_rule) :=
  fn_mir (k := 0) (N := ["_law_sizes_here", "_law_two"]) (mb := mb__law_reach_by_rule) T.F__law_reach_by_rule sc__law_reach_by_rule T.hK fun cdv Ar outer s H E₀ E g =>
    (ss_cons (ss_if (t_eq g (x_len0 rfl T.z_len (sa_cons (snd_var 0) sa_nil)) snd_int) (ss_one (ss_ret snd_int)) ss_nil) (ss_cons (ss_set (i := 1) nd23 rfl (by first | exact Or.inl rfl | exact Or.inr rfl) (snd_slice (x_sorted rfl T.z_sorted (sa_cons (snd_var 0) sa_nil)) (so_some (x_neg snd_int)) so_none)) (ss_one (ss_ret (x_addE (x_fdivW (x_sub (x_addE (x_ix0 (snd_var 1) snd_int) (x_ix0 (snd_var 1) snd_int)) snd_int) snd_int) (x_mod (x_addE (x_ix0 (snd_var 1) snd_int) (x_ix0 (snd_var 1) snd_int)) snd_int))))))
def me_lam0 : M Dv := (mCall F_levels_span (mCons (mVar 0) mNil))
def me_lam1 : M Dv := (mCall F_chains_reach (mCons (mVar 0) mNil))
def ml0_b (scr : List Int) : MS := (mSeq (mAsg (mCall (F__law_state scr) (mCons (mVar 0) (mCons (mVar 1) mNil))) (sName 2)) (mSeq (mFor (m1s lstD (mLst (mCons (mCall F__law_sizes (mCons (mVar 2) mNil)) (mCons (mCall F__law_great (mCons (mVar 2) mNil)) (mCons (mLst (mCons (mC (.int 1)) mNil)) (mCons (mLst (mCons (m2 powD (mC (.int 10)) (mC (.int 29))) mNil)) mNil)))))) (sName 3) (mSeq (mAsg (mCall (f1 list0) (mCons (mVar 3) mNil)) (sName 4)) (mSeq (mIf (mNot (mTru (mCall (F__law_same 6) (mCons (mCall F_levels_span (mCons (mVar 4) mNil)) (mCons (m2 subD (mCall (f1 (l1D maxI)) (mCons (mVar 3) mNil)) (mC (.int 1))) mNil))))) (mRet (mC (.bl false))) mNext) (mSeq (mIf (mOr (mNot (mTru (mCall (F__law_same 6) (mCons (mCall F_chains_reach (mCons (mVar 4) mNil)) (mCons (mCall F__law_reach_by_rule (mCons (mVar 3) mNil)) mNil))))) (mB (m2 neD (mVar 4) (mVar 3)))) (mRet (mC (.bl false))) mNext) (mIf (mB (m2 ltD (mCall (f1 sumD) (mCons (mVar 3) mNil)) (mC (.int 7)))) (mSeq (mIf (mB (m2 neD (mCall F__law_span (mCons (mCall F__law_of_sizes (mCons (mVar 3) (mCons (mC (.bl false)) mNil))) mNil)) (mCall F_levels_span (mCons (mVar 4) mNil)))) (mRet (mC (.bl false))) mNext) (mIf (mB (m2 neD (mCall F__law_least_reach (mCons (mCall F__law_of_sizes (mCons (mVar 3) (mCons (mC (.bl true)) mNil))) mNil)) (mCall F_chains_reach (mCons (mVar 4) mNil)))) (mRet (mC (.bl false))) mNext)) mNext))))) (mSeq (mAsg (mCall F__law_bad_sizes (mCons (mVar 2) mNil)) (sName 5)) (mSeq (mIf (mB (m2 neD (mRef [5] 4 14 mb__law_refused me_lam0) (mLst (mCons (mC (.int 13)) mNil)))) (mRet (mC (.bl false))) mNext) (mIf (mB (m2 neD (mRef [5] 4 14 mb__law_refused me_lam1) (mLst (mCons (mC (.int 13)) mNil)))) (mRet (mC (.bl false))) mNext)))))
def ml0 (scr : List Int) : MS := (mFor (mas rng1D (mCons (mCall max2F (mCons (mC (.int 1)) (mCons (mCall min2F (mCons (mCall (f1 (lenD scr)) (mCons (mVar 0) mNil)) (mCons (mC (.int 8)) mNil))) mNil))) mNil)) (sName 1) (ml0_b scr))
def ml1 : MS := (mRet (mC (.bl true)))
def mb_law (scr : List Int) : MS := (mSeq (ml0 scr) ml1)
def F_law (scr : List Int) : List Dv → Hs → Rs Dv := callM 1 6 (mb_law scr)
theorem sc_law : FnScope ["_law_script", "_law_k", "_law_state_here", "_law_sizes_here", "_law_handed", "_law_bad"] ["_law_script"] (defScope s_law) := ⟨rfl, rfl, rfl, by decide +kernel, rfl, by decide +kernel, by decide +kernel⟩
theorem ok_law (T : Tx K mg G A) (hC : PySem.W.CodeHd base A.cc A.P) (hB : BMain mg base) : FnOk P w K mg base (CXm P w base) 10 A.f_law A.fd_law ["_law_script"] (spOf G (F_law G.scr)) :=
  fn_mirC (k := 9) (N := ["_law_script", "_law_k", "_law_state_here", "_law_sizes_here", "_law_handed", "_law_bad"]) (mb := mb_law G.scr) T.F_law sc_law T.hK fun cdv Ar outer s H E₀ E hcd g =>
    (ss_cons (ss_for g.own g.calm (si_range1 rfl T.z_range (sa_cons (snd_max2 g.calm rfl T.z_max (sa_cons snd_int (sa_cons (snd_min2 g.calm rfl T.z_min (sa_cons (snd_len rfl T.z_len (sa_cons (snd_var 0) sa_nil)) (sa_cons snd_int sa_nil))) sa_nil))) sa_nil)) (sg_name (i := 1) nd24 rfl (by first | exact Or.inl rfl | exact Or.inr rfl)) (ss_cons (ss_set (i := 2) nd24 rfl (by first | exact Or.inl rfl | exact Or.inr rfl) (snd_call g (ok__law_state T) (by decide) rfl T.m__law_state T.F__law_state.kp T.B__law_state (sa_cons (snd_var 0) (sa_cons (snd_var 1) sa_nil)))) (ss_cons (ss_for g.own g.calm (si_list (snd_lst (sa_cons (snd_call g (ok__law_sizes T) (by decide) rfl T.m__law_sizes T.F__law_sizes.kp T.B__law_sizes (sa_cons (snd_var 2) sa_nil)) (sa_cons (snd_call g (ok__law_great T) (by decide) rfl T.m__law_great T.F__law_great.kp T.B__law_great (sa_cons (snd_var 2) sa_nil)) (sa_cons (snd_lst (sa_cons snd_int sa_nil)) (sa_cons (snd_lst (sa_cons (x_pow snd_int snd_int) sa_nil)) sa_nil)))))) (sg_name (i := 3) nd24 rfl (by first | exact Or.inl rfl | exact Or.inr rfl)) (ss_cons (ss_set (i := 4) nd24 rfl (by first | exact Or.inl rfl | exact Or.inr rfl) (x_list0 rfl T.z_list (sa_cons (snd_var 3) sa_nil))) (ss_cons (ss_if (tt_not (tt_tru (snd_call g (ok__law_same T 6) (by decide) rfl T.m__law_same T.F__law_same.kp T.B__law_same (sa_cons (snd_call g (ok_levels_span T) (by decide) rfl T.m_levels_span T.F_levels_span.kp T.B_levels_span (sa_cons (snd_var 4) sa_nil)) (sa_cons (x_sub (x_maxL g.calm rfl T.z_max (sa_cons (snd_var 3) sa_nil)) snd_int) sa_nil))))) (ss_one (ss_ret snd_bl)) ss_nil) (ss_cons (ss_if (SndW.t (tw_or (tt_not (tt_tru (snd_call g (ok__law_same T 6) (by decide) rfl T.m__law_same T.F__law_same.kp T.B__law_same (sa_cons (snd_call g (ok_chains_reach T) (by decide) rfl T.m_chains_reach T.F_chains_reach.kp T.B_chains_reach (sa_cons (snd_var 4) sa_nil)) (sa_cons (snd_call g (ok__law_reach_by_rule T) (by decide) rfl T.m__law_reach_by_rule T.F__law_reach_by_rule.kp T.B__law_reach_by_rule (sa_cons (snd_var 3) sa_nil)) sa_nil))))) (tw_or1 (t_ne g (snd_var 4) (snd_var 3))))) (ss_one (ss_ret snd_bl)) ss_nil) (ss_one (ss_if (t_lt (x_sum g.calm rfl T.z_sum (sa_cons (snd_var 3) sa_nil)) snd_int) (ss_cons (ss_if (t_ne g (snd_call g (ok__law_span T) (by decide) rfl T.m__law_span T.F__law_span.kp T.B__law_span (sa_cons (snd_call g (ok__law_of_sizes T) (by decide) rfl T.m__law_of_sizes T.F__law_of_sizes.kp T.B__law_of_sizes (sa_cons (snd_var 3) (sa_cons snd_bl sa_nil))) sa_nil)) (snd_call g (ok_levels_span T) (by decide) rfl T.m_levels_span T.F_levels_span.kp T.B_levels_span (sa_cons (snd_var 4) sa_nil))) (ss_one (ss_ret snd_bl)) ss_nil) (ss_one (ss_if (t_ne g (snd_call g (ok__law_least_reach T) (by decide) rfl T.m__law_least_reach T.F__law_least_reach.kp T.B__law_least_reach (sa_cons (snd_call g (ok__law_of_sizes T) (by decide) rfl T.m__law_of_sizes T.F__law_of_sizes.kp T.B__law_of_sizes (sa_cons (snd_var 3) (sa_cons snd_bl sa_nil))) sa_nil)) (snd_call g (ok_chains_reach T) (by decide) rfl T.m_chains_reach T.F_chains_reach.kp T.B_chains_reach (sa_cons (snd_var 4) sa_nil))) (ss_one (ss_ret snd_bl)) ss_nil))) ss_nil)))))) (ss_cons (ss_set (i := 5) nd24 rfl (by first | exact Or.inl rfl | exact Or.inr rfl) (snd_call g (ok__law_bad_sizes T) (by decide) rfl T.m__law_bad_sizes T.F__law_bad_sizes.kp T.B__law_bad_sizes (sa_cons (snd_var 2) sa_nil))) (ss_cons (ss_if (t_ne g (x_ref (Nl := ["_law_bad"]) (caps := [5]) (me := me_lam0) (os := defScope s_law) (oN := ["_law_script", "_law_k", "_law_state_here", "_law_sizes_here", "_law_handed", "_law_bad"]) g (j := 6 + 2) (by decide) (fun _ => rfl) (fun base _ _ => ok__law_refused (k := 6) T ⟨rfl, rfl, rfl, by decide +kernel, by decide +kernel, by decide +kernel⟩ (fun _ _ _ _ => rfl) (fun f cdv cl Ar outer s H E₀ E g => (snd_call g (ok_levels_span T) (by decide) rfl T.m_levels_span T.F_levels_span.kp T.B_levels_span (sa_cons (snd_var 0) sa_nil)))) rfl T.m__law_refused T.F__law_refused.kp T.B__law_refused rfl T.lq T.tab (hcd.symm.trans T.code) hC hB ⟨rfl, rfl, rfl, by decide +kernel, by decide +kernel, by decide +kernel⟩ rfl rfl (by decide +kernel) rfl (by decide +kernel)) (snd_lst (sa_cons snd_int sa_nil))) (ss_one (ss_ret snd_bl)) ss_nil) (ss_one (ss_if (t_ne g (x_ref (Nl := ["_law_bad"]) (caps := [5]) (me := me_lam1) (os := defScope s_law) (oN := ["_law_script", "_law_k", "_law_state_here", "_law_sizes_here", "_law_handed", "_law_bad"]) g (j := 6 + 2) (by decide) (fun _ => rfl) (fun base _ _ => ok__law_refused (k := 6) T ⟨rfl, rfl, rfl, by decide +kernel, by decide +kernel, by decide +kernel⟩ (fun _ _ _ _ => rfl) (fun f cdv cl Ar outer s H E₀ E g => (snd_call g (ok_chains_reach T) (by decide) rfl T.m_chains_reach T.F_chains_reach.kp T.B_chains_reach (sa_cons (snd_var 0) sa_nil)))) rfl T.m__law_refused T.F__law_refused.kp T.B__law_refused rfl T.lq T.tab (hcd.symm.trans T.code) hC hB ⟨rfl, rfl, rfl, by decide +kernel, by decide +kernel, by decide +kernel⟩ rfl rfl (by decide +kernel) rfl (by decide +kernel)) (snd_lst (sa_cons snd_int sa_nil))) (ss_one (ss_ret snd_bl)) ss_nil))))))) (ss_one (ss_ret snd_bl)))
end
theorem up_F_is_whole : UpF F_is_whole := u_fn (u_ret (u_andV (u_m1 up_isi (u_var 0)) (u_m1 up_notD (u_m1 up_isi (u_var 0)))))
theorem up_F_rounded_up : UpF F_rounded_up := u_fn (u_ret (u_m1 up_neg (u_m2 up_fdivW (u_m1 up_neg (u_var 0)) (u_var 1))))
theorem up_F_need_sizes : UpF F_need_sizes := u_fn (u_seq (u_if (u_or (u_not (u_tru (u_m1 up_isi (u_var 0)))) (u_not (u_B (u_chain up_le up_le u_c (u_call (up_f1 up_len0) (u_cons (u_var 0) u_nil)) u_c)))) (u_raise (u_cons u_c u_nil)) u_next) (u_if (u_not (u_tru (u_L up_all (u_comp (u_m1s up_lstD (u_var 0)) (u_name 0) u_true (u_emit (u_andV (u_call up_F_is_whole (u_cons (u_var 0) u_nil)) (u_m2 up_ge (u_var 0) u_c))))))) (u_raise (u_cons u_c u_nil)) u_next))
theorem up_F_levels_span : UpF F_levels_span := u_fn (u_seq (u_expr (u_call up_F_need_sizes (u_cons (u_var 0) u_nil))) (u_ret (u_m2 up_sub (u_call (up_f1 up_l1) (u_cons (u_var 0) u_nil)) u_c)))
theorem up_F_chains_reach : UpF F_chains_reach := u_fn (u_seq (u_expr (u_call up_F_need_sizes (u_cons (u_var 0) u_nil))) (u_seq (u_if (u_B (u_m2 up_eq (u_call (up_f1 up_len0) (u_cons (u_var 0) u_nil)) u_c)) (u_ret u_c) u_next) (u_ret (u_call up_F_rounded_up (u_cons (u_m2 up_sub (u_call (up_f1 up_sum) (u_cons (u_slice (u_call (up_f1 up_sort) (u_cons (u_var 0) u_nil)) (u_bd (u_m1 up_neg u_c)) u_noB) u_nil)) u_c) (u_cons u_c u_nil))))))
theorem up_mb__law_refused : UpS mb__law_refused := (u_seq (u_asg (u_lst (u_cons (u_m1 up_isi (u_var 1)) (u_cons (u_m1 up_isi (u_var 1)) (u_cons (u_m1 up_isi (u_var 1)) u_nil)))) (u_name 3)) (u_seq (u_asg (u_m2 up_addE (u_var 3) (u_lst (u_cons (u_m1 up_isi (u_var 1)) (u_cons (u_m1 up_isi (u_var 1)) (u_cons (u_m1 up_isi (u_var 1)) u_nil))))) (u_name 3)) (u_seq (u_asg (u_m2 up_addE (u_var 3) (u_lst (u_cons (u_m1 up_isi (u_var 1)) (u_cons (u_m1 up_isi (u_var 1)) (u_cons (u_m1 up_isi (u_var 1)) u_nil))))) (u_name 3)) (u_seq (u_asg (u_m2 up_addE (u_var 3) (u_lst (u_cons (u_m1 up_isi (u_var 1)) (u_cons (u_m1 up_isi (u_var 1)) (u_cons (u_m1 up_isi (u_var 1)) u_nil))))) (u_name 3)) (u_seq (u_asg (u_m2 up_addE (u_var 3) (u_lst (u_cons (u_m1 up_isi (u_var 1)) (u_cons (u_m1 up_isi (u_var 1)) u_nil)))) (u_name 3)) (u_seq (u_if (u_not (u_tru (u_m1 up_isi (u_var 1)))) (u_ret u_c) u_next) (u_ret (u_al (u_comp (u_mas up_rng1 (u_cons u_c u_nil)) (u_name 0) (u_tru (u_m2 up_ix0 (u_var 1) (u_var 0))) (u_emit (u_var 0)))))))))))
theorem up_me_lam0 : UpE me_lam0 := (u_call up_F_levels_span (u_cons (u_var 0) u_nil))
theorem up_me_lam1 : UpE me_lam1 := (u_call up_F_chains_reach (u_cons (u_var 0) u_nil))
end L2.Mr.K71
namespace L2.Mr.K71
open PySem PySem.Spec PyProof.Rows L2 L2.Mr
/-! ### draws -/
theorem take_set (H : Hs) (n : Nat) (a : Int) (b : Bool) (m : Int) (h0 : 0 < m) (h1 : m < 18446744073709551616) (e : getL H n = some [.int a, .bl b]) :
    ∃ r a', 0 ≤ r ∧ r < m ∧ F__law_take [.ref n, .int m] H = .ok (.int r) (H.set n (.lst [.int a', .bl b])) := by
  cases b with
  | true =>
    refine ⟨a % m, a / m, Int.emod_nonneg _ (by omega), Int.emod_lt_of_pos _ h0, ?_⟩
    simp [F__law_take, mb__law_take, callM, startEv, mSeq, mIf, mTru, m2, mVar, mC, ix0, noScr, ixD, e, atL, atI, ixN, truD, mAsg, modD, iOpC, modB, h0, sName, mSetIx, fdivW, divW, h1, setD, mRet, endOf]
  | false =>
    have q1 : ∀ ys, getL (H.set n (.lst ys)) n = some ys := fun ys => getL_set e
    generalize hs : (a * 48271 + 29) % 2147483647 = s
    have s0 : 0 ≤ s := by omega
    have s1 : s < 2147483647 := by omega
    generalize ht : (s * s + 39373 * s + 7) % 2147483629 = t
    have t0 : 0 ≤ t := by omega
    have t1 : t < 2147483629 := by omega
    generalize hu : (t * t + 16807 * t) % 2147483587 = u
    refine ⟨u / 8 % m, s, Int.emod_nonneg _ (by omega), Int.emod_lt_of_pos _ h0, ?_⟩
    have w1 : inW s = true := by simp [inW]; omega
    have w2 : inW t = true := by simp [inW]; omega
    have w3 : inW 48271 = true := by decide
    have w4 : inW 39373 = true := by decide
    have w5 : inW 16807 = true := by decide
    simp [F__law_take, mb__law_take, callM, startEv, mSeq, mIf, mTru, m2, mVar, mC, ix0, noScr, ixD, e, atL, atI, ixN, truD, mAsg, modD, iOpC, modB, h0, sName, mSetIx, fdivW, divW, h1, setD, mRet, endOf, mNext, addE, addD, mulD, mulB, w1, w2, w3, w4, w5, q1, hs, ht, hu]
/-- a state stands at n -/
def St (n : Nat) (H : Hs) : Prop := ∃ a b, getL H n = some [.int a, .bl b]
theorem St.fr {n : Nat} {S : List Nat} {H H' : Hs} (s : St n H) (f : Fr S H H') (h : n ∉ S) : St n H' := let ⟨a, b, e⟩ := s; ⟨a, b, f.getL e h⟩
theorem take_ok {H : Hs} {n : Nat} (m : Int) (s : St n H) (h0 : 0 < m := by decide) (h1 : m < 18446744073709551616 := by decide) :
    ∃ r H', 0 ≤ r ∧ r < m ∧ F__law_take [.ref n, .int m] H = .ok (.int r) H' ∧ Fr [n] H H' ∧ St n H' := by
  obtain ⟨a, b, e⟩ := s
  obtain ⟨r, a', r0, r1, ht⟩ := take_set H n a b m h0 h1 e
  exact ⟨r, _, r0, r1, ht, Fr.set, a', b, getL_set e⟩
/-- a draw within an expression -/
theorem take_in {ρ : Ev} {i n : Nat} {H : Hs} (m : Int) (s : St n H) (hρ : ρ[i]? = some (some (.ref n))) (h0 : 0 < m := by decide) (h1 : m < 18446744073709551616 := by decide) :
    ∃ r H', 0 ≤ r ∧ r < m ∧ mCall F__law_take (mCons (mVar i) (mCons (mC (.int m)) mNil)) ρ H = .ok (.int r) H' ∧ Fr [n] H H' ∧ St n H' := by
  obtain ⟨r, H', r0, r1, ht, f, s'⟩ := take_ok m s h0 h1
  refine ⟨r, H', r0, r1, ?_, f, s'⟩
  simp [mCall, mCons, mVar, hρ, mC, mNil, ht]
theorem state_ok (scr : List Int) (k : Nat) (h : Hs) : ∃ H', F__law_state scr [.scr, .int k] h = .ok (.ref h.length) H' ∧ Fr [] h H' ∧ St h.length H' := by
  have cell : ∃ c, F__law_cell_at scr [.scr, .int k] h = .ok (.int c) h := by
    by_cases hk : k < scr.length
    · refine ⟨scr[k], ?_⟩
      have hk' : (k : Int) < scr.length := by omega
      simp [F__law_cell_at, mb__law_cell_at, callM, startEv, mSeq, mIf, mB, m2, mVar, mC, ltD, iOp, mCall, f1, lenD, seqD, mCons, mNil, asB, hk', hk, ixD, atL, atI, ixN, mRet, endOf]
    · refine ⟨0, ?_⟩
      have hk' : ¬ (k : Int) < scr.length := by omega
      simp [F__law_cell_at, mb__law_cell_at, callM, startEv, mSeq, mIf, mB, m2, mVar, mC, ltD, iOp, mCall, f1, lenD, seqD, mCons, mNil, asB, hk', hk, ixD, atL, atI, ixN, mRet, endOf, mNext]
  obtain ⟨c, hc⟩ := cell
  have fin : ∀ a b, Fr [] h (h ++ [Ob.lst [.int a, .bl b]]) ∧ St h.length (h ++ [Ob.lst [.int a, .bl b]]) := fun a b => ⟨Fr.app, a, b, by rw [getL_app0]; rfl⟩
  by_cases hg : c ≥ 1000000000000000000
  · refine ⟨_, ?_, fin (c - 1000000000000000000) true⟩
    simp [F__law_state, mb__law_state, callM, startEv, mSeq, mAsg, mCall, mCons, mVar, mNil, hc, sName, mIf, mB, m2, geD, iOp, powD, iOpC, powB, mC, asB, hg, mRet, mLst, subD, lim, endOf]
  · refine ⟨_, ?_, fin (c % 2147483647) false⟩
    simp [F__law_state, mb__law_state, callM, startEv, mSeq, mAsg, mCall, mCons, mVar, mNil, hc, sName, mIf, mB, m2, geD, iOp, powD, iOpC, powB, mC, asB, hg, mRet, mLst, subD, lim, endOf, mNext, modD, modB]
/-! ### refusals -/
end L2.Mr.K71
namespace L2.Mr.K71
open PySem PySem.Spec PyProof.Rows L2 L2.Mr
/-! ### sizes -/
structure OkN (ns : List Int) : Prop where
  l1 : 1 ≤ ns.length
  l6 : ns.length ≤ 6
  pos : ∀ n ∈ ns, 1 ≤ n
def nums (k : Nat) : List Int → List Dv
  | [] => []
  | n :: ns => List.replicate n.toNat (.int k) ++ nums (k + 1) ns
theorem sum_nn : ∀ (ns : List Int), (∀ n ∈ ns, 1 ≤ n) → 0 ≤ ns.sum
  | [], h => by simp
  | n :: ns, h => by
    have h1 := h n (by simp)
    have h2 := sum_nn ns fun m hm => h m (by simp [hm])
    simp; omega
theorem le_sum : ∀ (ns : List Int), (∀ n ∈ ns, 1 ≤ n) → ∀ n ∈ ns, n ≤ ns.sum
  | [], h, n, hn => by simp at hn
  | a :: ns, h, n, hn => by
    have h1 := h a (by simp)
    have h2 := sum_nn ns fun m hm => h m (by simp [hm])
    have h3 := le_sum ns fun m hm => h m (by simp [hm])
    simp at hn ⊢
    rcases hn with rfl | hn
    · omega
    · have := h3 n hn; omega
theorem optL_int : ∀ ns : List Int, optL intD (ns.map Dv.int) = some ns
  | [] => rfl
  | n :: ns => by simp [optL, intD, optL_int ns]
theorem optL_true : ∀ f : Nat, optL blD (List.replicate f (Dv.bl true)) = some (List.replicate f true)
  | 0 => rfl
  | f + 1 => by simp [List.replicate_succ, optL, blD, optL_true f]
section
variable {ns : List Int} {H : Hs} {j : Nat}
theorem whole_ok (n : Int) : F_is_whole [.int n] H = .ok (.bl true) H := by
  simp [F_is_whole, mb_is_whole, callM, startEv, mRet, mAndV, m1, mVar, isiD, tyD, isIntF, isBoolF, notD, endOf]
theorem all_loop (e : getL H j = some (ns.map Dv.int)) (hp : ∀ n ∈ ns, 1 ≤ n) : ∀ (f k : Nat) (x : Option Dv) (acc : List Dv), f + k = ns.length → acc.length + f ≤ 6 →
    ∃ y, compM (srcR j ns.length) (sName 0) mTrue (mEmit (mAndV (mCall F_is_whole (mCons (mVar 0) mNil)) (m2 geD (mVar 0) (mC (.int 1))))) f k [x] H acc = .ok ([y], acc ++ List.replicate f (.bl true)) H
  | 0, k, x, acc, h, ha => ⟨x, by simp [compM, srcR, e]⟩
  | f + 1, k, x, acc, h, ha => by
    have hk : k < ns.length := by omega
    have hn := hp ns[k] (List.getElem_mem hk)
    obtain ⟨y, hy⟩ := all_loop e hp f (k + 1) (some (.int ns[k])) (acc ++ [.bl true]) (by omega) (by simp; omega)
    refine ⟨y, ?_⟩
    rw [show acc ++ List.replicate (f + 1) (Dv.bl true) = (acc ++ [.bl true]) ++ List.replicate f (.bl true) by simp [List.replicate_succ], ← hy]
    have hl : acc.length < 1000000 := by omega
    rw [compM]
    simp [srcR, e, hk, sName, mTrue, mEmit, mAndV, mCall, mCons, mNil, mVar, whole_ok, m2, geD, iOp, mC, hn, hl]
theorem need_ok (o : OkN ns) (e : getL H j = some (ns.map Dv.int)) : F_need_sizes [.ref j] H = .ok .non H := by
  obtain ⟨y, hy⟩ := all_loop e o.pos ns.length 0 none [] (by omega) (by simpa using o.l6)
  have h1 : (1 : Int) ≤ ns.length := by have := o.l1; omega
  have h6 : (ns.length : Int) ≤ 6 := by have := o.l6; omega
  simp [F_need_sizes, mb_need_sizes, callM, startEv, mSeq, mIf, mOr, mNot, mTru, m1, isiD, mVar, tyD, e, isLstF, truD, mB, mChain, mC, mCall, f1, len0, noScr, lenD, seqD, mCons, mNil, leD, iOp, h1, h6, asB, mNext, mL, mComp, m1s, lstD, capEv, endOf]
  simp only [srcR] at hy ⊢
  simp [hy, allF, optL_true, endOf, truD]
theorem sum_ok (e : getL H j = some (ns.map Dv.int)) : sumD (.ref j) H = .ok (.int ns.sum) H := by simp [sumD, e, optL_int]
theorem numb_loop (hp : ∀ n ∈ ns, 1 ≤ n) (h6 : ∀ n ∈ ns, n ≤ 6) : ∀ (f k : Nat) (x : Option Dv) (acc : List Dv) (B : Hs), f + k = ns.length → acc.length + 6 * f ≤ 1000 → getL (B ++ [.lst acc]) j = some (ns.map Dv.int) → j < B.length →
    ∃ ρ2 B', forM (srcRng 0 ns.length) (sName 2) (mAsg (m2 addE (mVar 1) (m2 repD (mLst (mCons (mVar 2) mNil)) (m2 ix0 (mVar 0) (mVar 2)))) (sName 1)) f k [some (.ref j), some (.ref B.length), x] (B ++ [.lst acc]) =
      .nx [some (.ref j), some (.ref B'.length), ρ2] (B' ++ [.lst (acc ++ nums k (ns.drop k))]) ∧ Fr [] B B'
  | 0, k, x, acc, B, h, ha, e, hj => by
    have : ns.drop k = [] := List.drop_eq_nil_of_le (by omega)
    exact ⟨x, B, by simp [forM, srcRng, this, nums], Fr.refl⟩
  | f + 1, k, x, acc, B, h, ha, e, hj => by
    have hk : k < ns.length := by omega
    have hn := hp ns[k] (List.getElem_mem hk)
    have hn6 := h6 ns[k] (List.getElem_mem hk)
    have e1 : getL (B ++ [.lst acc] ++ [.lst [.int k]]) j = some (ns.map Dv.int) := keep_app e
    have e2 : getL ((B ++ [.lst acc] ++ [.lst [.int k]]) ++ [.lst (List.replicate ns[k].toNat (Dv.int k))]) j = some (ns.map Dv.int) := keep_app e1
    obtain ⟨ρ2, B', hb, fb⟩ := numb_loop hp h6 f (k + 1) (some (.int k)) (acc ++ List.replicate ns[k].toNat (.int k)) (((B ++ [.lst acc]) ++ [.lst [.int k]]) ++ [.lst (List.replicate ns[k].toNat (Dv.int k))]) (by omega) (by simp; omega) (keep_app e2) (by simp; omega)
    refine ⟨ρ2, B', ?_, Fr.trans (Fr.trans (Fr.trans (Fr.app (l := [.lst acc])) Fr.app (by simp) (T := [])) (Fr.app (S := [])) (by simp)) fb (by simp)⟩
    rw [List.drop_eq_getElem_cons hk, nums, ← List.append_assoc, ← hb, forM]
    have hw : inW ns[k] = true := by simp [inW]; omega
    have c1 : ns[k] < 9223372036854775808 := by omega
    have c2 : -9223372036854775808 ≤ ns[k] := by omega
    have c3 : ns[k].toNat ≤ 1000000 := by omega
    have c4 : acc.length + ns[k].toNat ≤ 1000000 := by omega
    have ix : ixN ns.length (k : Int) = some k := by simp [ixN]; omega
    have g1 : getL (B ++ [.lst acc, .lst [.int k], .lst (List.replicate ns[k].toNat (Dv.int k))]) B.length = some acc := by simp [getL]
    have g2 : getL (B ++ [.lst acc, .lst [.int k], .lst (List.replicate ns[k].toNat (Dv.int k))]) (B.length + 2) = some (List.replicate ns[k].toNat (Dv.int k)) := by simp [getL]
    have g3 : getL (B ++ [.lst acc, .lst [.int k]]) (B.length + 1) = some [.int k] := by simp [getL]
    have g4 : getL (B ++ [.lst acc, .lst [.int k]]) j = some (ns.map Dv.int) := by simpa using e1
    simp [srcRng, sName, mAsg, m2, mVar, mLst, mCons, mNil, lim, ix0, noScr, ixD, g4, atL, atI, ix, hk, repD, g3, hw, c1, c2, c3, addE, addD, g1, g2, c4]
theorem inR_len {m : Nat} (h : m ≤ 6) : inR (m : Int) = true := by
  have h1 : (-4611686018427387904 : Int) ≤ m := by omega
  have h2 : (m : Int) < 4611686018427387904 := by omega
  unfold inR
  rw [decide_eq_true h1, decide_eq_true h2]; rfl
theorem rng_of {m : Int} (hr : inR m = true) : rng1D [.int m] H = .ok (srcRng 0 m) H := by simp [rng1D, hr]
theorem numb_ok (o : OkN ns) (hs : ns.sum ≤ 6) (e : getL H j = some (ns.map Dv.int)) : ∃ B, F__law_numbered [.ref j] H = .ok (.ref B.length) (B ++ [.lst (nums 0 ns)]) ∧ Fr [] H B := by
  obtain ⟨x, B, hb, fb⟩ := numb_loop o.pos (fun n hn => Int.le_trans (le_sum ns o.pos n hn) hs) ns.length 0 none [] H (by omega) (by have := o.l6; simp; omega) (keep_app e) (getL_lt e)
  refine ⟨B, ?_, fb⟩
  have hr := inR_len o.l6
  have e1 : getL (H ++ [.lst []]) j = some (ns.map Dv.int) := keep_app e
  have nn : (srcRng 0 (ns.length : Int)).n = ns.length := by simp [srcRng]
  have s1 : mAsg (mLst mNil) (sName 1) [some (.ref j), none, none] H = .nx [some (.ref j), some (.ref H.length), none] (H ++ [.lst []]) := rfl
  have s2 : mas rng1D (mCons (mCall (f1 len0) (mCons (mVar 0) mNil)) mNil) [some (.ref j), some (.ref H.length), none] (H ++ [.lst []]) = .ok (srcRng 0 (ns.length : Int)) (H ++ [.lst []]) := by
    rw [← rng_of hr]
    have q : f1 len0 [.ref j] (H ++ [.lst []]) = .ok (.int ns.length) (H ++ [.lst []]) := by
      rw [show f1 len0 [.ref j] (H ++ [.lst []]) = lenD [] (.ref j) (H ++ [.lst []]) from rfl]
      simp [lenD, seqD, e1]
    show ((f1 len0 [.ref j] (H ++ [.lst []])).bind fun d h1 => Rs.ok [d] h1).bind rng1D = _
    rw [q, Rs.bind_ok, Rs.bind_ok]
  have s3 : mb__law_numbered [some (.ref j), none, none] H = .rt (.ref B.length) (B ++ [.lst (nums 0 ns)]) := by
    unfold mb__law_numbered
    rw [seq_nx s1, seq_nx (by rw [for_ok s2, nn]; exact hb)]
    rfl
  show endOf (mb__law_numbered [some (.ref j), none, none] H) = _
  rw [s3]; rfl
end
end L2.Mr.K71
namespace L2.Mr.K71
open PySem PySem.Spec PyProof.Rows L2 L2.Mr
/-! ### orders as data -/
def ordD (n : Nat) (ps : List (Int × Int)) : Dv := .tup [.int n, .tup (ps.map prD)]
/-- the loose pairs (a, b) with b among a + 1 .. a + k -/
def looseB (ps : List (Int × Int)) (a : Nat) : Nat → List (Int × Int)
  | 0 => []
  | k + 1 => looseB ps a k ++ if ((a : Int), (a : Int) + 1 + (k : Int)) ∈ ps ∨ ((a : Int) + 1 + (k : Int), (a : Int)) ∈ ps then [] else [((a : Int), (a : Int) + 1 + (k : Int))]
def looseA (n : Nat) (ps : List (Int × Int)) : Nat → List (Int × Int)
  | 0 => []
  | k + 1 => looseA n ps k ++ looseB ps k (n - (k + 1))
def loose (n : Nat) (ps : List (Int × Int)) : List (Int × Int) := looseA n ps n
theorem looseB_len (ps : List (Int × Int)) (a : Nat) : ∀ k, (looseB ps a k).length ≤ k
  | 0 => Nat.le_refl _
  | k + 1 => by
    have := looseB_len ps a k
    unfold looseB
    split <;> simp <;> omega
theorem looseA_len (n : Nat) (ps : List (Int × Int)) : ∀ k, (looseA n ps k).length ≤ k * n
  | 0 => by simp [looseA]
  | k + 1 => by
    have h1 := looseA_len n ps k
    have h2 := looseB_len ps k (n - (k + 1))
    unfold looseA
    rw [List.length_append, Nat.succ_mul]
    omega
theorem inR_small {m : Int} (h0 : 0 ≤ m) (h : m ≤ 100) : inR m = true := by simp [inR]; omega
section
variable {n : Nat} {ps : List (Int × Int)} {i : Nat}
def lbody : MS := mIf (mAnd (mB (m2 (in0 true) (mTup (mCons (mVar 2) (mCons (mVar 3) mNil))) (m2 ix0 (mVar 0) (mC (.int 1))))) (mB (m2 (in0 true) (mTup (mCons (mVar 3) (mCons (mVar 2) mNil))) (m2 ix0 (mVar 0) (mC (.int 1)))))) (mExpr (mApp (mVar 1) (mTup (mCons (mVar 2) (mCons (mVar 3) mNil))))) mNext
theorem ord0 (H : Hs) : ix0 (ordD n ps) (.int 0) H = .ok (.int n) H := rfl
theorem ord1 (H : Hs) : ix0 (ordD n ps) (.int 1) H = .ok (.tup (ps.map prD)) H := rfl
theorem lbody_ok {H : Hs} {a b : Int} {acc : List (Int × Int)} (e : getL H i = some (acc.map prD)) (hl : acc.length < 1000) :
    lbody [some (ordD n ps), some (.ref i), some (.int a), some (.int b)] H = .nx [some (ordD n ps), some (.ref i), some (.int a), some (.int b)] (H.set i (.lst ((acc ++ if (a, b) ∈ ps ∨ (b, a) ∈ ps then [] else [(a, b)]).map prD))) := by
  have self : H.set i (.lst (acc.map prD)) = H := by
    apply List.ext_getElem?
    intro k
    by_cases hk : i = k
    · subst hk; rw [List.getElem?_set_self (getL_lt e), getL_some e]
    · rw [List.getElem?_set_ne hk]
  have t1 : ∀ (x y : Int), mB (m2 (in0 true) (fun _ h => .ok (prD (x, y)) h) (fun _ h => .ok (.tup (ps.map prD)) h)) [] H = .ok (!decide ((x, y) ∈ ps)) H := fun x y => by
    simp [mB, m2, in_prs, asB]
  have hl' : acc.length < 1000000 := by omega
  by_cases h1 : (a, b) ∈ ps
  · simp [lbody, mIf, mAnd, mB, m2, mTup, mCons, mVar, mNil, lim, mC, ord1]
    rw [show Dv.tup [.int a, .int b] = prD (a, b) from rfl, in_prs]
    simp [h1, asB, mNext, self]
  · by_cases h2 : (b, a) ∈ ps
    · simp [lbody, mIf, mAnd, mB, m2, mTup, mCons, mVar, mNil, lim, mC, ord1]
      rw [show Dv.tup [.int a, .int b] = prD (a, b) from rfl, show Dv.tup [.int b, .int a] = prD (b, a) from rfl, in_prs]
      simp [h1, asB, in_prs, h2, mNext, self]
    · simp [lbody, mIf, mAnd, mB, m2, mTup, mCons, mVar, mNil, lim, mC, ord1]
      rw [show Dv.tup [.int a, .int b] = prD (a, b) from rfl, show Dv.tup [.int b, .int a] = prD (b, a) from rfl, in_prs]
      simp only [h1, Rs.bind_ok, asB, in_prs]
      simp [h2, h1, mExpr, mApp, mVar, isL, e, mTup, mCons, mNil, lim, appD, hl']
      rfl
theorem rng2_of {H : Hs} {i j : Int} (h1 : inR i = true) (h2 : inR j = true) : rng2D [.int i, .int j] H = .ok (srcRng i j) H := by simp [rng2D, h1, h2]
theorem rng1_of {H : Hs} {j : Int} (h2 : inR j = true) : rng1D [.int j] H = .ok (srcRng 0 j) H := by simp [rng1D, h2]
/-- the inner loop -/
theorem loose_in {a : Nat} {x3 : Option Dv} {H : Hs} {acc : List (Int × Int)} (hn : n ≤ 10) (ha : a < n) (hl : acc.length ≤ 200) (e : getL H i = some (acc.map prD)) :
    ∃ y3, mFor (mas rng2D (mCons (m2 addE (mVar 2) (mC (.int 1))) (mCons (m2 ix0 (mVar 0) (mC (.int 0))) mNil))) (sName 3) lbody [some (ordD n ps), some (.ref i), some (.int a), x3] H =
      .nx [some (ordD n ps), some (.ref i), some (.int a), y3] (H.set i (.lst ((acc ++ looseB ps a (n - (a + 1))).map prD))) := by
  have hi : mas rng2D (mCons (m2 addE (mVar 2) (mC (.int 1))) (mCons (m2 ix0 (mVar 0) (mC (.int 0))) mNil)) [some (ordD n ps), some (.ref i), some (.int a), x3] H = .ok (srcRng ((a : Int) + 1) n) H := by
    have q : mCons (m2 addE (mVar 2) (mC (.int 1))) (mCons (m2 ix0 (mVar 0) (mC (.int 0))) mNil) [some (ordD n ps), some (.ref i), some (.int a), x3] H = .ok [.int ((a : Int) + 1), .int n] H := rfl
    unfold mas
    rw [q, Rs.bind_ok]
    exact rng2_of (inR_small (m := (a : Int) + 1) (by omega) (by omega)) (inR_small (m := (n : Int)) (by omega) (by omega))
  have hN : (srcRng ((a : Int) + 1) n).n = n - (a + 1) := by
    show ((n : Int) - ((a : Int) + 1)).toNat = _
    omega
  obtain ⟨ρ', H', h1, y3, h2, h3⟩ := for_run (b := lbody) (sg := sName 3) hi (fun k ρ H' => ∃ y3, ρ = [some (ordD n ps), some (.ref i), some (.int a), y3] ∧ H' = H.set i (.lst ((acc ++ looseB ps a k).map prD)))
    (fun k ρ H' hk ⟨y3, e1, e2⟩ => by
      subst e1; subst e2
      have e' : getL (H.set i (.lst ((acc ++ looseB ps a k).map prD))) i = some ((acc ++ looseB ps a k).map prD) := getL_set e
      refine ⟨.int ((a : Int) + 1 + (k : Int)), _, _, _, rfl, rfl, lbody_ok e' (by have := looseB_len ps a k; rw [List.length_append]; omega), _, rfl, ?_⟩
      rw [List.set_set, looseB, List.append_assoc]) (fun _ _ _ => rfl) ⟨x3, rfl, by
      have self : H.set i (.lst (acc.map prD)) = H := by
        apply List.ext_getElem?
        intro k
        by_cases hk : i = k
        · subst hk; rw [List.getElem?_set_self (getL_lt e), getL_some e]
        · rw [List.getElem?_set_ne hk]
      rw [looseB, List.append_nil, self]⟩
  rw [hN] at h3
  exact ⟨y3, by rw [h1, h2, h3]⟩
theorem loose_ok {H : Hs} (hn : n ≤ 10) : F__law_loose [ordD n ps] H = .ok (.ref H.length) (H ++ [.lst ((loose n ps).map prD)]) := by
  have e0 : getL (H ++ [.lst []]) H.length = some (([] : List (Int × Int)).map prD) := by simp [getL]
  have w0 : mAsg (mLst mNil) (sName 1) [some (ordD n ps), none, none, none] H = .nx [some (ordD n ps), some (.ref H.length), none, none] (H ++ [.lst []]) := rfl
  have hi : mas rng1D (mCons (m2 ix0 (mVar 0) (mC (.int 0))) mNil) [some (ordD n ps), some (.ref H.length), none, none] (H ++ [.lst []]) = .ok (srcRng 0 n) (H ++ [.lst []]) := by
    have q : mCons (m2 ix0 (mVar 0) (mC (.int 0))) mNil [some (ordD n ps), some (.ref H.length), none, none] (H ++ [.lst []]) = .ok [.int n] (H ++ [.lst []]) := rfl
    unfold mas
    rw [q, Rs.bind_ok]
    exact rng1_of (inR_small (m := (n : Int)) (by omega) (by omega))
  have hN : (srcRng 0 (n : Int)).n = n := by simp [srcRng]
  obtain ⟨ρ', H', h1, y2, y3, h2, h3⟩ := for_run (b := mFor (mas rng2D (mCons (m2 addE (mVar 2) (mC (.int 1))) (mCons (m2 ix0 (mVar 0) (mC (.int 0))) mNil))) (sName 3) lbody) (sg := sName 2) hi
    (fun k ρ H' => ∃ y2 y3, ρ = [some (ordD n ps), some (.ref H.length), y2, y3] ∧ H' = H ++ [.lst ((looseA n ps k).map prD)])
    (fun k ρ H' hk ⟨y2, y3, e1, e2⟩ => by
      subst e1; subst e2
      rw [hN] at hk
      have e' : getL (H ++ [.lst ((looseA n ps k).map prD)]) H.length = some ((looseA n ps k).map prD) := by simp [getL]
      have hb : (looseA n ps k).length ≤ 200 := by
        have h1 := looseA_len n ps k
        have h2 : k * n ≤ 10 * 10 := Nat.mul_le_mul (by omega) hn
        omega
      obtain ⟨z3, hz⟩ := loose_in (x3 := y3) (ps := ps) hn hk hb e'
      refine ⟨.int (0 + (k : Int)), [some (ordD n ps), some (.ref H.length), some (.int (k : Int)), y3], _, _, rfl, by simp [sName], hz, _, _, rfl, ?_⟩
      rw [set_app0, looseA]; rfl) (fun _ _ _ => rfl) ⟨none, none, rfl, rfl⟩
  rw [hN] at h3
  show endOf (mb__law_loose [some (ordD n ps), none, none, none] H) = _
  have z : mb__law_loose [some (ordD n ps), none, none, none] H = .rt (.ref H.length) (H ++ [.lst ((loose n ps).map prD)]) := by
    show mSeq (mAsg (mLst mNil) (sName 1)) (mSeq (mFor (mas rng1D (mCons (m2 ix0 (mVar 0) (mC (.int 0))) mNil)) (sName 2) (mFor (mas rng2D (mCons (m2 addE (mVar 2) (mC (.int 1))) (mCons (m2 ix0 (mVar 0) (mC (.int 0))) mNil))) (sName 3) lbody)) (mRet (mVar 1))) _ _ = _
    rw [seq_nx w0, seq_nx h1, h2, h3]
    rfl
  rw [z]; rfl
end
end L2.Mr.K71
namespace L2.Mr.K71
open PySem PySem.Spec PyProof.Rows L2 L2.Mr
/-! ### rows -/
def rowD (r : List Int) : Dv := .tup (r.map Dv.int)
def ahead (ps : List (Int × Int)) (r : List Int) (x : Int) : List Int := (ps.filter fun p => decide (p.2 = x) && !decide (p.1 ∈ r)).map (·.1)
theorem eq_nil {H : Hs} {q : Nat} {ks : List Int} (e : getL H q = some (ks.map Dv.int)) : eqD (.ref q) (.ref H.length) (H ++ [.lst []]) = .ok (.bl ks.isEmpty) (H ++ [.lst []]) := by
  have p1 : pur fuelD (H ++ [.lst []]) (.ref q) = some (.lst (ks.map Dt.int)) := by
    show pur (28 + 1 + 1) (H ++ [.lst []]) (.ref q) = _
    rw [pur]
    simp only [keep_app (l := [.lst []]) e, pur_ints]
  have p2 : pur fuelD (H ++ [.lst []]) (.ref H.length) = some (.lst []) := by
    show pur (28 + 1 + 1) (H ++ [.lst []]) (.ref H.length) = _
    rw [pur]
    have : getL (H ++ [.lst []]) H.length = some [] := by simp [getL]
    simp only [this]; rfl
  unfold eqD
  rw [p1, p2]
  cases ks <;> simp [deq, deqL]
theorem and_T {t u : M Bool} {ρ : Ev} {h h1 : Hs} (e : t ρ h = .ok true h1) : mAnd t u ρ h = u ρ h1 := by unfold mAnd; rw [e]; rfl
theorem and_F {t u : M Bool} {ρ : Ev} {h h1 : Hs} (e : t ρ h = .ok false h1) : mAnd t u ρ h = .ok false h1 := by unfold mAnd; rw [e]; rfl
section
variable {n : Nat} {ps : List (Int × Int)} {i : Nat}
theorem ahead_take (r : List Int) (x : Int) {k : Nat} (hk : k < ps.length) : ahead (ps.take (k + 1)) r x = ahead (ps.take k) r x ++ if ps[k].2 = x ∧ ps[k].1 ∉ r then [ps[k].1] else [] := by
  unfold ahead
  rw [List.take_succ_eq_append_getElem hk, List.filter_append, List.map_append]
  congr 1
  by_cases h1 : ps[k].2 = x <;> by_cases h2 : ps[k].1 ∈ r <;> simp [h1, h2]
theorem ahead_ok {H : Hs} {f tn lg y6 : Option Dv} {r : List Int} {x : Int} (hl : ps.length ≤ 1000) :
    mComp (m1s tupS (m2 ix0 (mVar 0) (mC (.int 1)))) [none, none, some 5, some 4] (sTup 2 (sCons (sName 0) (sCons (sName 1) sNil))) (mAnd (mB (m2 eqD (mVar 1) (mVar 2))) (mB (m2 (in0 true) (mVar 0) (mVar 3)))) (mEmit (mVar 0))
      [some (ordD n ps), f, tn, lg, some (rowD r), some (.int x), y6] H = .ok ((ahead ps r x).map Dv.int) H := by
  have hi : m1s tupS (m2 ix0 (mVar 0) (mC (.int 1))) [some (ordD n ps), f, tn, lg, some (rowD r), some (.int x), y6] H = .ok (srcL (ps.map prD)) H := rfl
  have hn : (srcL (ps.map prD)).n = ps.length := by simp [srcL]
  obtain ⟨ρ', H', acc', h1, a, b, h2, h3, h4⟩ := comp_inv (src := srcL (ps.map prD)) (sg := sTup 2 (sCons (sName 0) (sCons (sName 1) sNil))) (t := mAnd (mB (m2 eqD (mVar 1) (mVar 2))) (mB (m2 (in0 true) (mVar 0) (mVar 3)))) (m := mEmit (mVar 0))
    (fun k ρ H' acc => ∃ a b, ρ = [a, b, some (.int x), some (rowD r)] ∧ H' = H ∧ acc = (ahead (ps.take k) r x).map Dv.int)
    (fun k ρ H' acc hk ⟨a, b, e1, e2, e3⟩ => by
      subst e1; subst e2; subst e3
      rw [hn] at hk
      have hal : (ahead (ps.take k) r x).length ≤ 1000 := by
        unfold ahead
        rw [List.length_map]
        have := List.length_filter_le (fun p : Int × Int => decide (p.2 = x) && !decide (p.1 ∈ r)) (ps.take k)
        rw [List.length_take] at this
        omega
      refine ⟨prD ps[k], [some (.int ps[k].1), some (.int ps[k].2), some (.int x), some (rowD r)], by simp [srcL, hk], rfl, ?_⟩
      have te : mB (m2 eqD (mVar 1) (mVar 2)) [some (.int ps[k].1), some (.int ps[k].2), some (.int x), some (rowD r)] H' = .ok (decide (ps[k].2 = x)) H' := by
        simp [mB, m2, mVar, eqD, fuelD, pur, deq, asB]
        rw [Bool.eq_iff_iff]; simp
      have ti : mB (m2 (in0 true) (mVar 0) (mVar 3)) [some (.int ps[k].1), some (.int ps[k].2), some (.int x), some (rowD r)] H' = .ok (!decide (ps[k].1 ∈ r)) H' := by
        simp [mB, m2, mVar, rowD, in_ints, asB]
      rw [ahead_take r x hk]
      by_cases c1 : ps[k].2 = x
      · by_cases c2 : ps[k].1 ∈ r
        · exact .inl ⟨H', (and_T (te.trans (by rw [decide_eq_true c1]))).trans (ti.trans (by rw [decide_eq_true c2]; rfl)), _, _, rfl, rfl, by simp [c2]⟩
        · refine .inr ⟨H', [some (.int ps[k].1), some (.int ps[k].2), some (.int x), some (rowD r)], (ahead (ps.take k) r x).map Dv.int ++ [.int ps[k].1], H', (and_T (te.trans (by rw [decide_eq_true c1]))).trans (ti.trans (by rw [decide_eq_false c2]; rfl)), ?_, _, _, rfl, rfl, by simp [c1, c2]⟩
          have : (ahead (ps.take k) r x).length < 1000000 := by omega
          simp [mEmit, mVar, this]
      · exact .inl ⟨H', and_F (te.trans (by rw [decide_eq_false c1])), _, _, rfl, rfl, by simp [c1]⟩) (fun _ _ _ _ => rfl) (srcL (ps.map prD)).n 0 [none, none, some (.int x), some (rowD r)] H [] (by omega) ⟨none, none, rfl, rfl, by simp [ahead]⟩
  unfold mComp
  rw [hi, Rs.bind_ok]
  have hc : capEv [none, none, some 5, some 4] [some (ordD n ps), f, tn, lg, some (rowD r), some (.int x), y6] = [none, none, some (.int x), some (rowD r)] := rfl
  rw [hc, h1]
  dsimp only
  rw [h3, h4, hn, List.take_length]
/-- may x come next -/
def free (ps : List (Int × Int)) (r : List Int) (x : Int) : Bool := !decide (x ∈ r) && (ahead ps r x).isEmpty
def rbody : MS := (mSeq (mAsg (mAl (mComp (m1s tupS (m2 ix0 (mVar 0) (mC (.int 1)))) [none, none, some 5, some 4] (sTup 2 (sCons (sName 0) (sCons (sName 1) sNil))) (mAnd (mB (m2 eqD (mVar 1) (mVar 2))) (mB (m2 (in0 true) (mVar 0) (mVar 3)))) (mEmit (mVar 0)))) (sName 6)) (mIf (mAnd (mB (m2 (in0 true) (mVar 5) (mVar 4))) (mB (m2 eqD (mVar 6) (mLst mNil)))) (mExpr (mApp (mVar 3) (m2 addE (mVar 4) (mTup (mCons (mVar 5) mNil))))) mNext))
theorem addE_row {H : Hs} {r : List Int} {x : Int} (hr : r.length ≤ 1000) : addE (rowD r) (.tup [.int x]) H = .ok (rowD (r ++ [x])) H := by
  cases r with
  | nil => rfl
  | cons a t =>
    have : t.length + 1 + 1 ≤ 1000000 := by simp at hr; omega
    simp [rowD, addE, addD, lim, this]
theorem rbody_ok {H : Hs} {f tn y6 : Option Dv} {j : Nat} {r : List Int} {x : Int} {acc : List (List Int)} (hl : ps.length ≤ 1000) (hr : r.length ≤ 1000) (ha : acc.length < 1000000) (e : getL H j = some (acc.map rowD)) :
    ∃ y6' H', rbody [some (ordD n ps), f, tn, some (.ref j), some (rowD r), some (.int x), y6] H = .nx [some (ordD n ps), f, tn, some (.ref j), some (rowD r), some (.int x), y6'] H' ∧ getL H' j = some ((acc ++ if free ps r x then [r ++ [x]] else []).map rowD) ∧ Fr [j] H H' := by
  have w1 : mAsg (mAl (mComp (m1s tupS (m2 ix0 (mVar 0) (mC (.int 1)))) [none, none, some 5, some 4] (sTup 2 (sCons (sName 0) (sCons (sName 1) sNil))) (mAnd (mB (m2 eqD (mVar 1) (mVar 2))) (mB (m2 (in0 true) (mVar 0) (mVar 3)))) (mEmit (mVar 0)))) (sName 6)
      [some (ordD n ps), f, tn, some (.ref j), some (rowD r), some (.int x), y6] H = .nx [some (ordD n ps), f, tn, some (.ref j), some (rowD r), some (.int x), some (.ref H.length)] (H ++ [.lst ((ahead ps r x).map Dv.int)]) := by
    unfold mAsg mAl
    rw [ahead_ok hl]
    rfl
  have e1 : getL (H ++ [.lst ((ahead ps r x).map Dv.int)]) j = some (acc.map rowD) := keep_app e
  have ea : getL (H ++ [.lst ((ahead ps r x).map Dv.int)]) H.length = some ((ahead ps r x).map Dv.int) := by simp [getL]
  have f1 : Fr [j] H (H ++ [.lst ((ahead ps r x).map Dv.int)]) := Fr.app
  generalize H ++ [.lst ((ahead ps r x).map Dv.int)] = H1 at w1 e1 ea f1
  have t1 : mB (m2 (in0 true) (mVar 5) (mVar 4)) [some (ordD n ps), f, tn, some (.ref j), some (rowD r), some (.int x), some (.ref H.length)] H1 = .ok (!decide (x ∈ r)) H1 := by
    simp [mB, m2, mVar, rowD, in_ints, asB]
  have t2 : mB (m2 eqD (mVar 6) (mLst mNil)) [some (ordD n ps), f, tn, some (.ref j), some (rowD r), some (.int x), some (.ref H.length)] H1 = .ok (ahead ps r x).isEmpty (H1 ++ [.lst []]) := by
    simp [mB, m2, mVar, mLst, mNil, lim, eq_nil ea, asB]
  have e2 : getL (H1 ++ [.lst []]) j = some (acc.map rowD) := keep_app e1
  have f2 : Fr [j] H (H1 ++ [.lst []]) := f1.trans (T := []) Fr.app (by simp)
  by_cases c1 : x ∈ r
  · refine ⟨some (.ref H.length), H1, ?_, by simpa [free, c1] using e1, f1⟩
    unfold rbody
    rw [seq_nx w1, if_F (h1 := H1) (by simp [mAnd, t1, c1])]; rfl
  · cases c2 : (ahead ps r x).isEmpty with
    | true =>
      refine ⟨some (.ref H.length), (H1 ++ [Ob.lst []]).set j (Ob.lst ((acc ++ [r ++ [x]]).map rowD)), ?_, ?_, f2.trans (T := [j]) Fr.set (by simp)⟩
      · unfold rbody
        rw [seq_nx w1, if_T (h1 := H1 ++ [.lst []]) (by simp [mAnd, t1, c1, t2, c2])]
        simp [mExpr, mApp, mVar, isL, e2, m2, mTup, mCons, mNil, lim, addE_row hr, appD, ha]
      · rw [getL_set e2]; simp [free, c1, c2]
    | false =>
      refine ⟨some (.ref H.length), H1 ++ [.lst []], ?_, by simpa [free, c1, c2] using e2, f2⟩
      unfold rbody
      rw [seq_nx w1, if_F (h1 := H1 ++ [.lst []]) (by simp [mAnd, t1, c1, t2, c2])]; rfl
def nextR (ps : List (Int × Int)) (r : List Int) : Nat → List (List Int)
  | 0 => []
  | k + 1 => nextR ps r k ++ if free ps r (0 + (k : Int)) then [r ++ [0 + (k : Int)]] else []
theorem nextR_len (ps : List (Int × Int)) (r : List Int) : ∀ k, (nextR ps r k).length ≤ k
  | 0 => Nat.le_refl _
  | k + 1 => by
    have := nextR_len ps r k
    unfold nextR
    split <;> simp <;> omega
theorem things_ok {H : Hs} {f tn x5 y6 : Option Dv} {j : Nat} {r : List Int} {acc : List (List Int)} (hn : n ≤ 10) (hl : ps.length ≤ 1000) (hr : r.length ≤ 1000) (ha : acc.length ≤ 100000) (e : getL H j = some (acc.map rowD)) :
    ∃ y5 y6' H', mFor (mas rng1D (mCons (m2 ix0 (mVar 0) (mC (.int 0))) mNil)) (sName 5) rbody [some (ordD n ps), f, tn, some (.ref j), some (rowD r), x5, y6] H = .nx [some (ordD n ps), f, tn, some (.ref j), some (rowD r), y5, y6'] H' ∧ getL H' j = some ((acc ++ nextR ps r n).map rowD) ∧ Fr [j] H H' := by
  have hi : mas rng1D (mCons (m2 ix0 (mVar 0) (mC (.int 0))) mNil) [some (ordD n ps), f, tn, some (.ref j), some (rowD r), x5, y6] H = .ok (srcRng 0 n) H := by
    have q : mCons (m2 ix0 (mVar 0) (mC (.int 0))) mNil [some (ordD n ps), f, tn, some (.ref j), some (rowD r), x5, y6] H = .ok [.int n] H := rfl
    unfold mas
    rw [q, Rs.bind_ok]
    exact rng1_of (inR_small (m := (n : Int)) (by omega) (by omega))
  have hN : (srcRng 0 (n : Int)).n = n := by simp [srcRng]
  obtain ⟨ρ', H', h1, y5, y6', h2, h3, h4⟩ := for_run (b := rbody) (sg := sName 5) hi (fun k ρ H' => ∃ y5 y6', ρ = [some (ordD n ps), f, tn, some (.ref j), some (rowD r), y5, y6'] ∧ getL H' j = some ((acc ++ nextR ps r k).map rowD) ∧ Fr [j] H H')
    (fun k ρ H' hk ⟨y5, y6', e1, e2, e3⟩ => by
      subst e1
      rw [hN] at hk
      obtain ⟨z, H2, b1, b2, b3⟩ := rbody_ok (n := n) (f := f) (tn := tn) (y6 := y6') (x := 0 + (k : Int)) hl hr (by have := nextR_len ps r k; rw [List.length_append]; omega) e2
      exact ⟨.int (0 + (k : Int)), _, _, _, rfl, rfl, b1, _, _, rfl, by rw [b2, nextR, List.append_assoc], e3.trans b3 (fun j hj => .inl hj)⟩) (fun _ _ _ => rfl) ⟨x5, y6, rfl, by rw [nextR, List.append_nil]; exact e, Fr.refl⟩
  rw [hN] at h3
  exact ⟨y5, y6', H', by rw [h1, h2], h3, h4⟩
def nextL (n : Nat) (ps : List (Int × Int)) : List (List Int) → List (List Int)
  | [] => []
  | r :: rs => nextR ps r n ++ nextL n ps rs
theorem nextL_app (ps : List (Int × Int)) : ∀ xs ys : List (List Int), nextL n ps (xs ++ ys) = nextL n ps xs ++ nextL n ps ys
  | [], ys => rfl
  | x :: xs, ys => by simp [nextL, nextL_app ps xs ys]
theorem nextL_len (ps : List (Int × Int)) : ∀ xs : List (List Int), (nextL n ps xs).length ≤ xs.length * n
  | [] => by simp [nextL]
  | x :: xs => by
    have h1 := nextR_len ps x n
    have h2 := nextL_len ps xs
    simp only [nextL, List.length_append, List.length_cons, Nat.succ_mul]
    omega
theorem rows_in {H : Hs} {tn x4 x5 x6 : Option Dv} {i j : Nat} {rs : List (List Int)} (hn : n ≤ 10) (hl : ps.length ≤ 1000) (hr : ∀ r ∈ rs, r.length ≤ 1000) (hb : rs.length ≤ 8000) (hij : i ≠ j) (ei : getL H i = some (rs.map rowD)) (ej : getL H j = some []) :
    ∃ y4 y5 y6 H', mFor (m1s lstD (mVar 1)) (sName 4) (mFor (mas rng1D (mCons (m2 ix0 (mVar 0) (mC (.int 0))) mNil)) (sName 5) rbody) [some (ordD n ps), some (.ref i), tn, some (.ref j), x4, x5, x6] H = .nx [some (ordD n ps), some (.ref i), tn, some (.ref j), y4, y5, y6] H' ∧ getL H' j = some ((nextL n ps rs).map rowD) ∧ Fr [j] H H' := by
  have hi : m1s lstD (mVar 1) [some (ordD n ps), some (.ref i), tn, some (.ref j), x4, x5, x6] H = .ok (srcR i rs.length) H := by
    simp [m1s, mVar, lstD, ei]
  obtain ⟨ρ', H', h1, y4, y5, y6, h2, h3, h4⟩ := for_run (b := mFor (mas rng1D (mCons (m2 ix0 (mVar 0) (mC (.int 0))) mNil)) (sName 5) rbody) (sg := sName 4) hi (fun k ρ H' => ∃ y4 y5 y6, ρ = [some (ordD n ps), some (.ref i), tn, some (.ref j), y4, y5, y6] ∧ getL H' j = some ((nextL n ps (rs.take k)).map rowD) ∧ Fr [j] H H')
    (fun k ρ H' hk ⟨y4, y5, y6, e1, e2, e3⟩ => by
      subst e1
      have hk' : k < rs.length := hk
      have hlen : (nextL n ps (rs.take k)).length ≤ 100000 := by
        have h1 := nextL_len (n := n) ps (rs.take k)
        have h2 : (rs.take k).length * n ≤ 8000 * 10 := Nat.mul_le_mul (by rw [List.length_take]; omega) hn
        omega
      obtain ⟨z5, z6, H2, b1, b2, b3⟩ := things_ok (f := some (.ref i)) (tn := tn) (x5 := y5) (y6 := y6) hn hl (hr rs[k] (List.getElem_mem hk')) hlen e2
      have eg : (srcR i rs.length).get k H' = some (rowD rs[k]) := by
        have := e3.getL ei (by simpa using hij)
        simp [srcR, this, hk']
      exact ⟨rowD rs[k], _, _, _, eg, rfl, b1, _, _, _, rfl, by rw [b2, List.take_succ_eq_append_getElem hk', nextL_app]; simp [nextL], e3.trans b3 (fun j hj => .inl hj)⟩)
    (fun ρ H' ⟨_, _, _, _, _, e3⟩ => by
      have := e3.getL ei (by simpa using hij)
      simp [srcR, this]) ⟨x4, x5, x6, rfl, by simpa [nextL] using ej, Fr.refl⟩
  rw [show (srcR i rs.length).n = rs.length from rfl, List.take_length] at h3
  exact ⟨y4, y5, y6, H', by rw [h1, h2], h3, h4⟩
end
end L2.Mr.K71
namespace L2.Mr.K71
open PySem PySem.Spec PyProof.Rows L2 L2.Mr
def rowsP (n : Nat) (ps : List (Int × Int)) : Nat → List (List Int)
  | 0 => [[]]
  | k + 1 => nextL n ps (rowsP n ps k)
section
variable {n : Nat} {ps : List (Int × Int)}
theorem nextR_mem (r : List Int) : ∀ k, ∀ q ∈ nextR ps r k, q.length = r.length + 1
  | 0, q, h => by simp [nextR] at h
  | k + 1, q, h => by
    unfold nextR at h
    rcases List.mem_append.mp h with h | h
    · exact nextR_mem r k q h
    · split at h
      · simp at h; subst h; simp
      · simp at h
theorem nextL_mem : ∀ (rs : List (List Int)) (m : Nat), (∀ r ∈ rs, r.length = m) → ∀ q ∈ nextL n ps rs, q.length = m + 1
  | [], m, h, q, hq => by simp [nextL] at hq
  | r :: rs, m, h, q, hq => by
    unfold nextL at hq
    rcases List.mem_append.mp hq with hq | hq
    · rw [nextR_mem r n q hq, h r (by simp)]
    · exact nextL_mem rs m (fun r hr => h r (by simp [hr])) q hq
theorem rowsP_mem : ∀ k, ∀ q ∈ rowsP n ps k, q.length = k
  | 0, q, h => by simp [rowsP] at h; subst h; rfl
  | k + 1, q, h => nextL_mem (rowsP n ps k) k (rowsP_mem k) q h
theorem rowsP_len (hn : n ≤ 6) : ∀ k, (rowsP n ps k).length ≤ 6 ^ k
  | 0 => by simp [rowsP]
  | k + 1 => by
    have h1 := nextL_len (n := n) ps (rowsP n ps k)
    have h2 := rowsP_len hn k
    have h3 : (rowsP n ps k).length * n ≤ 6 ^ k * 6 := Nat.mul_le_mul h2 hn
    rw [Nat.pow_succ]
    exact Nat.le_trans h1 h3
theorem rows_ok {H : Hs} (hn : n ≤ 6) (hl : ps.length ≤ 1000) : ∃ i H', F__law_rows [ordD n ps] H = .ok (.ref i) H' ∧ getL H' i = some ((rowsP n ps n).map rowD) ∧ Fr [] H H' := by
  have w0 : mAsg (mLst (mCons (mTup mNil) mNil)) (sName 1) [some (ordD n ps), none, none, none, none, none, none] H = .nx [some (ordD n ps), some (.ref H.length), none, none, none, none, none] (H ++ [.lst [.tup []]]) := rfl
  have hi : mas rng1D (mCons (m2 ix0 (mVar 0) (mC (.int 0))) mNil) [some (ordD n ps), some (.ref H.length), none, none, none, none, none] (H ++ [.lst [.tup []]]) = .ok (srcRng 0 n) (H ++ [.lst [.tup []]]) := by
    have q : mCons (m2 ix0 (mVar 0) (mC (.int 0))) mNil [some (ordD n ps), some (.ref H.length), none, none, none, none, none] (H ++ [.lst [.tup []]]) = .ok [.int n] (H ++ [.lst [.tup []]]) := rfl
    unfold mas
    rw [q, Rs.bind_ok]
    exact rng1_of (inR_small (m := (n : Int)) (by omega) (by omega))
  have hN : (srcRng 0 (n : Int)).n = n := by simp [srcRng]
  obtain ⟨ρ', H', h1, i, y2, y3, y4, y5, y6, h2, h3, h4⟩ := for_run (b := mSeq (mAsg (mLst mNil) (sName 3)) (mSeq (mFor (m1s lstD (mVar 1)) (sName 4) (mFor (mas rng1D (mCons (m2 ix0 (mVar 0) (mC (.int 0))) mNil)) (sName 5) rbody)) (mAsg (mVar 3) (sName 1)))) (sg := sName 2) hi
    (fun k ρ H' => ∃ (i : Nat) (y2 y3 y4 y5 y6 : Option Dv), ρ = [some (ordD n ps), some (.ref i), y2, y3, y4, y5, y6] ∧ getL H' i = some ((rowsP n ps k).map rowD) ∧ Fr [] H H')
    (fun k ρ H' hk ⟨i, y2, y3, y4, y5, y6, e1, e2, e3⟩ => by
      subst e1
      rw [hN] at hk
      have hb : (rowsP n ps k).length ≤ 8000 := by
        have h1 := rowsP_len (ps := ps) hn k
        have h2 : 6 ^ k ≤ 6 ^ 5 := Nat.pow_le_pow_right (by decide) (by omega)
        omega
      have li := getL_lt e2
      obtain ⟨z4, z5, z6, H2, b1, b2, b3⟩ := rows_in (n := n) (ps := ps) (rs := rowsP n ps k) (tn := some (.int (0 + (k : Int)))) (x4 := y4) (x5 := y5) (x6 := y6) (i := i) (j := H'.length) (by omega) hl (fun r hr => by rw [rowsP_mem k r hr]; omega) hb (by omega) (keep_app (l := [.lst []]) e2) (by simp [getL])
      have v0 : mAsg (mLst mNil) (sName 3) [some (ordD n ps), some (.ref i), some (.int (0 + (k : Int))), y3, y4, y5, y6] H' = .nx [some (ordD n ps), some (.ref i), some (.int (0 + (k : Int))), some (.ref H'.length), y4, y5, y6] (H' ++ [.lst []]) := rfl
      refine ⟨.int (0 + (k : Int)), [some (ordD n ps), some (.ref i), some (.int (0 + (k : Int))), y3, y4, y5, y6], [some (ordD n ps), some (.ref H'.length), some (.int (0 + (k : Int))), some (.ref H'.length), z4, z5, z6], H2, rfl, rfl, ?_, _, _, _, _, _, _, rfl, b2, ?_⟩
      · rw [seq_nx v0, seq_nx b1]; rfl
      · exact (e3.trans (T := []) Fr.app (by simp)).trans b3 (fun j hj => by simp at hj; subst hj; exact .inr e3.le)) (fun _ _ _ => rfl) ⟨H.length, none, none, none, none, none, rfl, by simp [getL, rowsP, rowD], Fr.app⟩
  rw [hN] at h3
  refine ⟨i, H', ?_, h3, h4⟩
  show endOf (mb__law_rows [some (ordD n ps), none, none, none, none, none, none] H) = _
  have z : mb__law_rows [some (ordD n ps), none, none, none, none, none, none] H = .rt (.ref i) H' := by
    show mSeq (mAsg (mLst (mCons (mTup mNil) mNil)) (sName 1)) (mSeq (mFor (mas rng1D (mCons (m2 ix0 (mVar 0) (mC (.int 0))) mNil)) (sName 2) (mSeq (mAsg (mLst mNil) (sName 3)) (mSeq (mFor (m1s lstD (mVar 1)) (sName 4) (mFor (mas rng1D (mCons (m2 ix0 (mVar 0) (mC (.int 0))) mNil)) (sName 5) rbody)) (mAsg (mVar 3) (sName 1))))) (mRet (mVar 1))) _ _ = _
    rw [seq_nx w0, seq_nx h1, h2]
    rfl
  rw [z]; rfl
end
end L2.Mr.K71
namespace L2.Mr.K71
open PySem PySem.Spec PyProof.Rows L2 L2.Mr
/-! ### spans -/
def dist (r : List Int) (p : Int × Int) : Option Int := match posI p.1 r, posI p.2 r with
  | some i, some j => some (((i : Int) - (j : Int)).natAbs : Int)
  | _, _ => none
def spanL (qs : List (Int × Int)) : Int → List (List Int) → Option Int
  | l, [] => some l
  | l, r :: rs => match optL (dist r) qs with
    | none => none
    | some fs => spanL qs (if maxI (0 :: fs) < l then maxI (0 :: fs) else l) rs
def spanP (n : Nat) (ps : List (Int × Int)) : Option Int := spanL (loose n ps) n (rowsP n ps n)
theorem optL_get {α β : Type} {f : α → Option β} : ∀ {xs : List α} {ys : List β}, optL f xs = some ys → ∀ k (h : k < xs.length), ∃ h' : k < ys.length, f xs[k] = some ys[k]
  | [], ys, e, k, h => by simp at h
  | x :: xs, ys, e, k, h => by
    unfold optL at e
    cases q : f x with
    | none => rw [q] at e; cases e
    | some y =>
      rw [q] at e
      dsimp only at e
      cases q2 : optL f xs with
      | none => rw [q2] at e; cases e
      | some zs =>
        rw [q2] at e; cases e
        cases k with
        | zero => exact ⟨by simp, by simpa using q⟩
        | succ k =>
          obtain ⟨h', e'⟩ := optL_get q2 k (by simpa using h)
          exact ⟨by simpa using h', by simpa using e'⟩
theorem optL_int' : ∀ ns : List Int, optL intD (ns.map Dv.int) = some ns
  | [] => rfl
  | n :: ns => by simp [optL, intD, optL_int' ns]
section
variable {n : Nat} {ps : List (Int × Int)}
def fbody : M Dv := mCall (f1 absD) (mCons (m2 subD (mIdx (mVar 2) (mVar 0)) (mIdx (mVar 2) (mVar 1))) mNil)
theorem fbody_ok {H : Hs} {r : List Int} {p : Int × Int} {v : Int} (h : dist r p = some v) : fbody [some (.int p.1), some (.int p.2), some (rowD r)] H = .ok (.int v) H := by
  unfold dist at h
  split at h
  · rename_i i j h1 h2
    cases h
    simp [fbody, mCall, mCons, m2, mIdx, mVar, isTp, rowD, idxD, optL_int', h1, h2, subD, iOp, mNil, f1, absD]
    split <;> omega
  · cases h
theorem far_ok {H : Hs} {x0 x2 x4 : Option Dv} {q : Nat} {r : List Int} {qs : List (Int × Int)} {fs : List Int} (hl : qs.length ≤ 1000) (e : getL H q = some (qs.map prD)) (hf : optL (dist r) qs = some fs) :
    mComp (m1s lstD (mVar 1)) [none, none, some 3] (sTup 2 (sCons (sName 0) (sCons (sName 1) sNil))) mTrue (mEmit fbody) [x0, some (.ref q), x2, some (rowD r), x4] H = .ok (fs.map Dv.int) H := by
  have hi : m1s lstD (mVar 1) [x0, some (.ref q), x2, some (rowD r), x4] H = .ok (srcR q qs.length) H := by simp [m1s, mVar, lstD, e]
  have hfl := optL_len hf
  obtain ⟨ρ', H', acc', h1, a, b, h2, h3, h4⟩ := comp_inv (src := srcR q qs.length) (sg := sTup 2 (sCons (sName 0) (sCons (sName 1) sNil))) (t := mTrue) (m := mEmit fbody)
    (fun k ρ H' acc => ∃ a b, ρ = [a, b, some (rowD r)] ∧ H' = H ∧ acc = (fs.take k).map Dv.int)
    (fun k ρ H' acc hk ⟨a, b, e1, e2, e3⟩ => by
      subst e1; subst e2; subst e3
      have hk' : k < qs.length := hk
      obtain ⟨hk2, hd⟩ := optL_get hf k hk'
      refine ⟨prD qs[k], [some (.int qs[k].1), some (.int qs[k].2), some (rowD r)], by simp [srcR, e, hk'], rfl, .inr ⟨H', [some (.int qs[k].1), some (.int qs[k].2), some (rowD r)], (fs.take k).map Dv.int ++ [.int fs[k]], H', rfl, ?_, _, _, rfl, rfl, ?_⟩⟩
      · have : min k fs.length < 1000000 := by omega
        simp [mEmit, fbody_ok hd, this]
      · rw [List.take_succ_eq_append_getElem hk2, List.map_append]; rfl) (fun ρ H' acc ⟨_, _, _, e2, _⟩ => by subst e2; simp [srcR, e]) qs.length 0 [none, none, some (rowD r)] H [] (by simp [srcR]) ⟨none, none, rfl, rfl, by simp⟩
  unfold mComp
  rw [hi, Rs.bind_ok]
  have hc : capEv [none, none, some 3] [x0, some (.ref q), x2, some (rowD r), x4] = [none, none, some (rowD r)] := rfl
  rw [hc, show (srcR q qs.length).n = qs.length from rfl, h1]
  dsimp only
  rw [h3, h4, show (srcR q qs.length).n = qs.length from rfl, ← hfl, List.take_length]
def sbody : MS := (mSeq (mAsg (mAl (mComp (m1s lstD (mVar 1)) [none, none, some 3] (sTup 2 (sCons (sName 0) (sCons (sName 1) sNil))) mTrue (mEmit fbody))) (sName 4)) (mAsg (mCall min2F (mCons (mVar 2) (mCons (mCall (f1 (l1D maxI)) (mCons (m2 addE (mLst (mCons (mC (.int 0)) mNil)) (mVar 4)) mNil)) mNil))) (sName 2)))
theorem sbody_ok {H : Hs} {x0 x4 : Option Dv} {q : Nat} {l : Int} {r : List Int} {qs : List (Int × Int)} {fs : List Int} (hl : qs.length ≤ 1000) (e : getL H q = some (qs.map prD)) (hf : optL (dist r) qs = some fs) :
    ∃ y4 H', sbody [x0, some (.ref q), some (.int l), some (rowD r), x4] H = .nx [x0, some (.ref q), some (.int (if maxI (0 :: fs) < l then maxI (0 :: fs) else l)), some (rowD r), y4] H' ∧ Fr [] H H' := by
  have hfl := optL_len hf
  have w1 : mAsg (mAl (mComp (m1s lstD (mVar 1)) [none, none, some 3] (sTup 2 (sCons (sName 0) (sCons (sName 1) sNil))) mTrue (mEmit fbody))) (sName 4) [x0, some (.ref q), some (.int l), some (rowD r), x4] H = .nx [x0, some (.ref q), some (.int l), some (rowD r), some (.ref H.length)] (H ++ [.lst (fs.map Dv.int)]) := by
    unfold mAsg mAl
    rw [far_ok hl e hf]
    rfl
  have ea : getL (H ++ [.lst (fs.map Dv.int)] ++ [.lst [.int 0]]) H.length = some (fs.map Dv.int) := keep_app (by simp [getL])
  have f1' : Fr [] H (H ++ [.lst (fs.map Dv.int)] ++ [.lst [.int 0]]) := Fr.trans (T := []) Fr.app Fr.app (by simp)
  generalize hH : H ++ [.lst (fs.map Dv.int)] = H1 at w1 ea f1'
  have ez : getL (H1 ++ [.lst [.int 0]]) H1.length = some [.int 0] := by simp [getL]
  have hz : fs.length + 1 ≤ 1000000 := by omega
  have em : getL (H1 ++ [.lst [.int 0], .lst (.int 0 :: fs.map Dv.int)]) (H1.length + 1) = some ((0 :: fs).map Dv.int) := by simp [getL]
  have lm : l1D maxI (.ref (H1.length + 1)) (H1 ++ [.lst [.int 0], .lst (.int 0 :: fs.map Dv.int)]) = .ok (.int (maxI (0 :: fs))) (H1 ++ [.lst [.int 0], .lst (.int 0 :: fs.map Dv.int)]) := by
    simp only [l1D, em, optL_int']
    simp
  refine ⟨some (.ref H.length), H1 ++ [.lst [.int 0], .lst (.int 0 :: fs.map Dv.int)], ?_, ?_⟩
  · unfold sbody
    rw [seq_nx w1]
    have hz' : 1 + fs.length ≤ 1000000 := by omega
    simp [mAsg, mCall, mCons, mVar, mLst, mC, mNil, lim, m2, addE, addD, ez, ea, hz', f1, lm, min2F, sName]
  · have := f1'.trans (T := []) (Fr.app (S := []) (l := [.lst (.int 0 :: fs.map Dv.int)])) (by simp)
    simpa using this
theorem span_eq : mb__law_span = mSeq (mAsg (mCall F__law_loose (mCons (mVar 0) mNil)) (sName 1)) (mSeq (mAsg (m2 ix0 (mVar 0) (mC (.int 0))) (sName 2)) (mSeq (mFor (m1s lstD (mCall F__law_rows (mCons (mVar 0) mNil))) (sName 3) sbody) (mRet (mVar 2)))) := rfl
theorem span_gen {H H2 : Hs} {d : Dv} {N v : Int} {i : Nat} {qs : List (Int × Int)} {rs : List (List Int)} (hq : qs.length ≤ 1000) (hL : F__law_loose [d] H = .ok (.ref H.length) (H ++ [.lst (qs.map prD)])) (hx : ∀ H, ix0 d (.int 0) H = .ok (.int N) H)
    (hr : F__law_rows [d] (H ++ [.lst (qs.map prD)]) = .ok (.ref i) H2) (er : getL H2 i = some (rs.map rowD)) (fr : Fr [] (H ++ [.lst (qs.map prD)]) H2) (hv : spanL qs N rs = some v) : ∃ H', F__law_span [d] H = .ok (.int v) H' ∧ Fr [] H H' := by
  have w0 : mAsg (mCall F__law_loose (mCons (mVar 0) mNil)) (sName 1) [some d, none, none, none, none] H = .nx [some d, some (.ref H.length), none, none, none] (H ++ [.lst (qs.map prD)]) := by
    simp [mAsg, mCall, mCons, mVar, mNil, hL, sName]
  have e0 : getL (H ++ [.lst (qs.map prD)]) H.length = some (qs.map prD) := by simp [getL]
  have f0 : Fr [] H (H ++ [.lst (qs.map prD)]) := Fr.app
  generalize H ++ [.lst (qs.map prD)] = H1 at w0 e0 f0 hr fr
  have w1 : mAsg (m2 ix0 (mVar 0) (mC (.int 0))) (sName 2) [some d, some (.ref H.length), none, none, none] H1 = .nx [some d, some (.ref H.length), some (.int N), none, none] H1 := by
    simp [mAsg, m2, mVar, mC, hx, sName]
  have hi : m1s lstD (mCall F__law_rows (mCons (mVar 0) mNil)) [some d, some (.ref H.length), some (.int N), none, none] H1 = .ok (srcR i rs.length) H2 := by
    simp [m1s, mCall, mCons, mVar, mNil, hr, lstD, er]
  obtain ⟨ρ', H', h1, l, y3, y4, h2, h3, h4⟩ := for_run (b := sbody) (sg := sName 3) hi (fun k ρ H' => ∃ (l : Int) (y3 y4 : Option Dv), ρ = [some d, some (.ref H.length), some (.int l), y3, y4] ∧ spanL qs l (rs.drop k) = some v ∧ Fr [] H2 H')
    (fun k ρ H' hk ⟨l, y3, y4, e1, e2, e3⟩ => by
      subst e1
      have hk' : k < rs.length := hk
      rw [List.drop_eq_getElem_cons hk'] at e2
      unfold spanL at e2
      cases hf : optL (dist rs[k]) qs with
      | none => rw [hf] at e2; cases e2
      | some fs =>
        rw [hf] at e2
        obtain ⟨z4, H3, b1, b2⟩ := sbody_ok (x0 := some d) (x4 := y4) (l := l) hq (e3.getL (fr.getL e0 (by simp)) (by simp)) hf
        have eg : (srcR i rs.length).get k H' = some (rowD rs[k]) := by
          have := e3.getL er (by simp)
          simp [srcR, this, hk']
        exact ⟨rowD rs[k], _, _, _, eg, rfl, b1, _, _, _, rfl, e2, e3.trans b2 (by simp)⟩)
    (fun ρ H' ⟨_, _, _, _, _, e3⟩ => by
      have := e3.getL er (by simp)
      simp [srcR, this]) ⟨N, none, none, rfl, by simpa using hv, Fr.refl⟩
  rw [show (srcR i rs.length).n = rs.length from rfl, List.drop_length] at h3
  have hlv : l = v := by simpa [spanL] using h3
  subst hlv
  refine ⟨H', ?_, (f0.trans fr (by simp)).trans h4 (by simp)⟩
  have z0 : F__law_span [d] H = endOf (mb__law_span [some d, none, none, none, none] H) := rfl
  have z : mb__law_span [some d, none, none, none, none] H = .rt (.int l) H' := by
    rw [span_eq, seq_nx w0, seq_nx w1, seq_nx h1, h2]
    rfl
  rw [z0, z]; rfl
theorem span_ok {H : Hs} {v : Int} (hn : n ≤ 6) (hl : ps.length ≤ 1000) (hv : spanP n ps = some v) : ∃ H', F__law_span [ordD n ps] H = .ok (.int v) H' ∧ Fr [] H H' := by
  obtain ⟨i, H2, hr, er, fr⟩ := rows_ok (n := n) (ps := ps) (H := H ++ [.lst ((loose n ps).map prD)]) hn hl
  have hq : (loose n ps).length ≤ 1000 := by
    have h1 := looseA_len n ps n
    have h2 : n * n ≤ 6 * 6 := Nat.mul_le_mul hn hn
    unfold loose; omega
  exact span_gen hq (loose_ok (by omega)) (fun H => ord0 H) hr er fr hv
end
end L2.Mr.K71
namespace L2.Mr.K71
open PySem PySem.Spec PyProof.Rows L2 L2.Mr
/-! ### the numbers by rule -/
section
variable {ns : List Int} {H : Hs} {j : Nat}
theorem levels_ok (o : OkN ns) (e : getL H j = some (ns.map Dv.int)) : F_levels_span [.ref j] H = .ok (.int (maxI ns - 1)) H := by
  have h := need_ok o e
  have h0 : 0 < ns.length := o.l1
  simp [F_levels_span, mb_levels_span, callM, startEv, mSeq, mExpr, mCall, mCons, mNil, mVar, h, f1, l1D, e, optL_int, h0, mRet, m2, subD, iOp, mC, endOf]
/-- the last two of the sorted sizes -/
def two (ns : List Int) : List Int := (sortI ns).drop (ns.length - 2)
theorem cut_two (o : OkN ns) (h2 : ns.length ≠ 1) : cutD ((sortI ns).map Dv.int) (some (-2)) none = (two ns).map Dv.int := by
  have hl := o.l1
  have hs : ((sortI ns).map Dv.int).length = ns.length := by simp [sort_len]
  have e : HT.sIx ((sortI ns).map Dv.int).length 0 (some (-2)) = ns.length - 2 := by
    rw [hs]
    unfold HT.sIx
    dsimp only
    rw [if_pos (by decide)]; omega
  unfold cutD two
  rw [e, HT.sIx_none, hs, List.map_drop]
  apply List.take_of_length_le
  simp [sort_len]
theorem two_is (o : OkN ns) (h2 : ns.length ≠ 1) : ∃ a b, two ns = [a, b] := by
  have hl := o.l1
  have : (two ns).length = 2 := by unfold two; rw [List.length_drop, sort_len]; omega
  match h : two ns, this with
  | [a, b], _ => exact ⟨a, b, rfl⟩
def slM : M Dv := mSl (mCall (f1 sortD) (mCons (mVar 0) mNil)) (mBd (m1 negD (mC (.int 2)))) mNoB
theorem sl_ok (o : OkN ns) (h2 : ns.length ≠ 1) (e : getL H j = some (ns.map Dv.int)) {ρ : Ev} (hρ : ρ[0]? = some (some (.ref j))) : ∃ H', slM ρ H = .ok (.ref (H.length + 1)) H' ∧ getL H' (H.length + 1) = some ((two ns).map Dv.int) ∧ Fr [] H H' := by
  have h64 : ns.length < 64 := by have := o.l6; omega
  have e1 : getL (H ++ [.lst ((sortI ns).map Dv.int)]) H.length = some ((sortI ns).map Dv.int) := by simp [getL]
  refine ⟨H ++ [.lst ((sortI ns).map Dv.int)] ++ [.lst ((two ns).map Dv.int)], ?_, by simp [getL], Fr.trans (T := []) Fr.app Fr.app (by simp)⟩
  have hc := cut_two o h2
  simp only [slM, mSl, mCall, mCons, mVar, hρ, mNil, Rs.bind_ok, f1, sortD, e, optL_int, h64, if_true, mBd, m1, mC, negD, asI, mNoB, slD, e1, hc]
  simp
def reachI (ns : List Int) : Int := if ns.length = 1 then 0 else -(-((two ns).sum - 2) / 2)
theorem len1 {ρ : Ev} (hρ : ρ[0]? = some (some (.ref j))) (e : getL H j = some (ns.map Dv.int)) : mB (m2 eqD (mCall (f1 len0) (mCons (mVar 0) mNil)) (mC (.int 1))) ρ H = .ok (decide (ns.length = 1)) H := by
  have hb : ((ns.length : Int) == 1) = decide (ns.length = 1) := by
    rw [Bool.eq_iff_iff]; simp; omega
  generalize hm : (ns.length : Int) = m at hb
  have hq : f1 len0 [.ref j] H = .ok (.int m) H := by
    rw [show f1 len0 [.ref j] H = lenD [] (.ref j) H from rfl]
    simp [lenD, seqD, e, ← hm]
  simp [mB, m2, mCall, mCons, mVar, hρ, mNil, hq, mC, eqD, fuelD, pur, deq, asB, hb]
theorem chains_eq : mb_chains_reach = mSeq (mExpr (mCall F_need_sizes (mCons (mVar 0) mNil))) (mSeq (mIf (mB (m2 eqD (mCall (f1 len0) (mCons (mVar 0) mNil)) (mC (.int 1)))) (mRet (mC (.int 0))) mNext) (mRet (mCall F_rounded_up (mCons (m2 subD (mCall (f1 sumD) (mCons slM mNil)) (mC (.int 2))) (mCons (mC (.int 2)) mNil))))) := rfl
theorem up_of (s : Int) : F_rounded_up [.int s, .int 2] H = .ok (.int (-(-s / 2))) H := by
  simp [F_rounded_up, mb_rounded_up, callM, startEv, mRet, m1, negD, m2, mVar, fdivW, iOpC, divW, endOf]
theorem chains_ok (o : OkN ns) (e : getL H j = some (ns.map Dv.int)) : ∃ H', F_chains_reach [.ref j] H = .ok (.int (reachI ns)) H' ∧ Fr [] H H' := by
  have z0 : F_chains_reach [.ref j] H = endOf (mb_chains_reach [some (.ref j)] H) := rfl
  have w0 : mExpr (mCall F_need_sizes (mCons (mVar 0) mNil)) [some (.ref j)] H = .nx [some (.ref j)] H := by
    simp [mExpr, mCall, mCons, mVar, mNil, need_ok o e]
  have t := len1 (ρ := [some (.ref j)]) rfl e
  rw [z0, chains_eq, seq_nx w0]
  by_cases h1 : ns.length = 1
  · refine ⟨H, ?_, Fr.refl⟩
    have : mSeq (mIf (mB (m2 eqD (mCall (f1 len0) (mCons (mVar 0) mNil)) (mC (.int 1)))) (mRet (mC (.int 0))) mNext) (mRet (mCall F_rounded_up (mCons (m2 subD (mCall (f1 sumD) (mCons slM mNil)) (mC (.int 2))) (mCons (mC (.int 2)) mNil)))) [some (.ref j)] H = .rt (.int 0) H := by
      unfold mSeq
      rw [if_T (t.trans (by rw [decide_eq_true h1]))]
      rfl
    rw [this]
    simp [endOf, reachI, h1]
  · obtain ⟨H', hs, es, fs⟩ := sl_ok o h1 e (ρ := [some (.ref j)]) rfl
    refine ⟨H', ?_, fs⟩
    rw [seq_nx (ρ1 := [some (.ref j)]) (h1 := H) (by rw [if_F (t.trans (by rw [decide_eq_false h1]))]; rfl)]
    simp [mRet, mCall, mCons, m2, hs, f1, sum_ok es, mC, subD, iOp, mNil, up_of, endOf, reachI, h1]
theorem rule_eq : mb__law_reach_by_rule = mSeq (mIf (mB (m2 eqD (mCall (f1 len0) (mCons (mVar 0) mNil)) (mC (.int 1)))) (mRet (mC (.int 0))) mNext) (mSeq (mAsg slM (sName 1)) (mRet (m2 addE (m2 fdivW (m2 subD (m2 addE (m2 ix0 (mVar 1) (mC (.int 0))) (m2 ix0 (mVar 1) (mC (.int 1)))) (mC (.int 2))) (mC (.int 2))) (m2 modD (m2 addE (m2 ix0 (mVar 1) (mC (.int 0))) (m2 ix0 (mVar 1) (mC (.int 1)))) (mC (.int 2)))))) := rfl
theorem rule_ok (o : OkN ns) (e : getL H j = some (ns.map Dv.int)) : ∃ H', F__law_reach_by_rule [.ref j] H = .ok (.int (reachI ns)) H' ∧ Fr [] H H' := by
  have z0 : F__law_reach_by_rule [.ref j] H = endOf (mb__law_reach_by_rule [some (.ref j), none] H) := rfl
  have t := len1 (ρ := [some (.ref j), none]) rfl e
  rw [z0, rule_eq]
  by_cases h1 : ns.length = 1
  · refine ⟨H, ?_, Fr.refl⟩
    unfold mSeq
    rw [if_T (t.trans (by rw [decide_eq_true h1]))]
    simp [mRet, mC, endOf, reachI, h1]
  · obtain ⟨H', hs, es, fs⟩ := sl_ok o h1 e (ρ := [some (.ref j), none]) rfl
    obtain ⟨a, b, hab⟩ := two_is o h1
    refine ⟨H', ?_, fs⟩
    rw [hab] at es
    have es' : getL H' (H.length + 1) = some [.int a, .int b] := es
    rw [seq_nx (ρ1 := [some (.ref j), none]) (h1 := H) (by rw [if_F (t.trans (by rw [decide_eq_false h1]))]; rfl), seq_nx (ρ1 := [some (.ref j), some (.ref (H.length + 1))]) (h1 := H') (by simp [mAsg, hs, sName])]
    simp [mRet, m2, ix0, noScr, ixD, mVar, es', mC, atL, atI, ixN, addE, addD, subD, iOp, fdivW, iOpC, divW, modD, modB, endOf, reachI, h1, hab]
    omega
end
end L2.Mr.K71
namespace L2.Mr.K71
open PySem PySem.Spec PyProof.Rows L2 L2.Mr
/-! ### sizes drawn -/
def bd1 : MS := mExpr (mApp (mVar 1) (m2 addE (mC (.int 1)) (m2 ix0 (mLst (mCons (mC (.int 0)) (mCons (mC (.int 0)) (mCons (mCall F__law_take (mCons (mVar 0) (mCons (mC (.int 3)) mNil))) (mCons (mCall F__law_take (mCons (mVar 0) (mCons (mC (.int 6)) mNil))) mNil))))) (mCall F__law_take (mCons (mVar 0) (mCons (mC (.int 4)) mNil))))))
def bd2 : MS := mIf (mOr (mB (m2 leD (mVar 5) (mVar 3))) (mB (m2 eqD (mVar 4) (mLst mNil)))) (mSeq (mExpr (mApp (mVar 4) (mVar 5))) (mAsg (m2 subD (mVar 3) (mVar 5)) (sName 3))) mNext
section
variable {H : Hs} {st p q : Nat} {xs : List Dv}
theorem St.lt (s : St st H) : st < H.length := let ⟨_, _, e⟩ := s; getL_lt e
theorem fill_step {ρ : Ev} (h0 : ρ[0]? = some (some (.ref st))) (h1 : ρ[1]? = some (some (.ref p))) (s : St st H) (e : getL H p = some xs) (hp : p ≠ st) (hl : xs.length < 1000000) :
    ∃ (n : Int) (H' : Hs), 1 ≤ n ∧ bd1 ρ H = .nx ρ H' ∧ getL H' p = some (xs ++ [.int n]) ∧ Fr [st, p] H H' ∧ St st H' := by
  obtain ⟨r3, H1, a0, a1, t1, f1, s1⟩ := take_in 3 s h0
  obtain ⟨r6, H2, b0, b1, t2, f2, s2⟩ := take_in 6 s1 h0
  have f3 : Fr [] H2 (H2 ++ [.lst [.int 0, .int 0, .int r3, .int r6]]) := Fr.app
  have s3 := s2.fr f3 (by simp)
  obtain ⟨r4, H4, c0, c1, t4, f4, s4⟩ := take_in 4 s3 h0
  have hlt := s2.lt
  have hps : p ∉ [st] := by simpa using hp
  have g : getL H4 H2.length = some [.int 0, .int 0, .int r3, .int r6] := f4.getL (by simp [getL]) (by simp; omega)
  have gp : getL H4 p = some xs := f4.getL (keep_app (f2.getL (f1.getL e hps) hps)) hps
  have ⟨v, v0, hv⟩ : ∃ v, 0 ≤ v ∧ ix0 (.ref H2.length) (.int r4) H4 = .ok (.int v) H4 := by
    have : r4 = 0 ∨ r4 = 1 ∨ r4 = 2 ∨ r4 = 3 := by omega
    rcases this with rfl | rfl | rfl | rfl
    · exact ⟨0, by omega, by simp [ix0, noScr, ixD, g, atL, atI, ixN]⟩
    · exact ⟨0, by omega, by simp [ix0, noScr, ixD, g, atL, atI, ixN]⟩
    · exact ⟨r3, by omega, by simp [ix0, noScr, ixD, g, atL, atI, ixN]⟩
    · exact ⟨r6, by omega, by simp [ix0, noScr, ixD, g, atL, atI, ixN]⟩
  have fr : Fr [st, p] H H4 := ((f1.trans f2 (fun j hj => .inl hj)).trans f3 (by simp)).trans f4 (fun j hj => .inl hj) |>.mono (by simp)
  refine ⟨1 + v, H4.set p (.lst (xs ++ [.int (1 + v)])), by omega, ?_, getL_set gp, fr.trans Fr.set (by simp), s4.fr Fr.set (by simpa using Ne.symm hp)⟩
  simp [bd1, mExpr, mApp, mVar, h1, isL, e, m2, mC, mLst, mCons, mNil, lim, t1, t2, t4, hv, addE, addD, appD, gp, hl]
theorem fill_loop {m : Int} : ∀ (f k : Nat) (H : Hs) (ns : List Int) (x2 : Option Dv), St st H → getL H p = some (ns.map Dv.int) → p ≠ st → ns.length + f ≤ 1000 → (∀ n ∈ ns, 1 ≤ n) →
    ∃ (ms : List Int) (H' : Hs) (y2 : Option Dv), forM (srcRng 0 m) (sName 2) bd1 f k [some (.ref st), some (.ref p), x2, none, none, none] H = .nx [some (.ref st), some (.ref p), y2, none, none, none] H' ∧ getL H' p = some (ms.map Dv.int) ∧ ms.length = ns.length + f ∧ (∀ n ∈ ms, 1 ≤ n) ∧ Fr [st, p] H H' ∧ St st H'
  | 0, k, H, ns, x2, s, e, hp, hl, h1 => ⟨ns, H, x2, by simp [forM, srcRng], e, rfl, h1, Fr.refl, s⟩
  | f + 1, k, H, ns, x2, s, e, hp, hl, h1 => by
    obtain ⟨n, H1, n1, hb, e1, f1, s1⟩ := fill_step (ρ := [some (.ref st), some (.ref p), some (.int (0 + (k : Int))), none, none, none]) rfl rfl s e hp (by simp; omega)
    obtain ⟨ms, H2, y2, hf, e2, l2, p2, f2, s2⟩ := fill_loop (m := m) f (k + 1) H1 (ns ++ [n]) (some (.int (0 + (k : Int)))) s1 (by rw [e1]; simp) hp (by simp; omega) (fun a ha => by
      simp at ha
      rcases ha with ha | rfl
      · exact h1 a ha
      · exact n1)
    refine ⟨ms, H2, y2, ?_, e2, by rw [l2]; simp; omega, p2, f1.trans f2 (fun j hj => .inl hj), s2⟩
    rw [← hf]
    have hg : (srcRng 0 m).get k H = some (.int (0 + (k : Int))) := rfl
    have hs : sName 2 (.int (0 + (k : Int))) [some (.ref st), some (.ref p), x2, none, none, none] = some [some (.ref st), some (.ref p), some (.int (0 + (k : Int))), none, none, none] := rfl
    exact for_step hg hs hb
theorem keep_step {ρ : Ev} {left n : Int} {ks : List Int} (hl : 6 ≤ ρ.length) (h3 : ρ[3]? = some (some (.int left))) (h4 : ρ[4]? = some (some (.ref q))) (h5 : ρ[5]? = some (some (.int n))) (e : getL H q = some (ks.map Dv.int)) (hk : ks.length < 1000) :
    ∃ (ks' : List Int) (left' : Int) (H' : Hs), bd2 ρ H = .nx (ρ.set 3 (some (.int left'))) H' ∧ getL H' q = some (ks'.map Dv.int) ∧ (ks' = ks ++ [n] ∨ ks' = ks ∧ ks ≠ []) ∧ Fr [q] H H' := by
  have self : ρ.set 3 (some (.int left)) = ρ := by
    apply List.ext_getElem?
    intro i
    by_cases hi : 3 = i
    · subst hi; rw [List.getElem?_set_self (by omega), h3]
    · rw [List.getElem?_set_ne hi]
  have go : ∀ H1, getL H1 q = some (ks.map Dv.int) → mSeq (mExpr (mApp (mVar 4) (mVar 5))) (mAsg (m2 subD (mVar 3) (mVar 5)) (sName 3)) ρ H1 = .nx (ρ.set 3 (some (.int (left - n)))) (H1.set q (.lst ((ks ++ [n]).map Dv.int))) := fun H1 e1 => by
    have hk' : ks.length < 1000000 := by omega
    simp [mSeq, mExpr, mApp, mVar, h3, h4, h5, isL, e1, appD, hk', mAsg, m2, subD, iOp, sName]
  by_cases hle : n ≤ left
  · refine ⟨ks ++ [n], left - n, _, ?_, getL_set e, .inl rfl, Fr.set⟩
    unfold bd2
    rw [if_T (h1 := H) (by simp [mOr, mB, m2, mVar, h5, h3, leD, iOp, hle, asB])]
    exact go H e
  · have ea : mOr (mB (m2 leD (mVar 5) (mVar 3))) (mB (m2 eqD (mVar 4) (mLst mNil))) ρ H = .ok ks.isEmpty (H ++ [.lst []]) := by
      simp [mOr, mB, m2, mVar, h5, h3, h4, leD, iOp, hle, asB, mLst, mNil, lim, eq_nil e]
    cases ks with
    | nil =>
      refine ⟨[] ++ [n], left - n, _, ?_, getL_set (keep_app (l := [.lst []]) e), .inl rfl, (Fr.app (S := [q]) (l := [.lst []])).trans Fr.set (by simp)⟩
      unfold bd2
      rw [if_T ea]
      exact go _ (keep_app e)
    | cons a t =>
      refine ⟨a :: t, left, _, ?_, keep_app (l := [.lst []]) e, .inr ⟨rfl, by simp⟩, Fr.app⟩
      unfold bd2
      rw [if_F ea, self]; rfl
theorem keep_loop {ns : List Int} {x2 : Option Dv} (hp : ∀ n ∈ ns, 1 ≤ n) (h6 : ns.length ≤ 6) (hpq : p ≠ q) : ∀ (f k : Nat) (H : Hs) (left : Int) (ks : List Int) (x5 : Option Dv), f + k = ns.length → getL H p = some (ns.map Dv.int) → getL H q = some (ks.map Dv.int) → ks.length ≤ k → (∀ n ∈ ks, 1 ≤ n) → (ks = [] → k = 0) →
    ∃ (ms : List Int) (H' : Hs) (l' : Int) (y5 : Option Dv), forM (srcR p ns.length) (sName 5) bd2 f k [some (.ref st), some (.ref p), x2, some (.int left), some (.ref q), x5] H = .nx [some (.ref st), some (.ref p), x2, some (.int l'), some (.ref q), y5] H' ∧ getL H' q = some (ms.map Dv.int) ∧ ms.length ≤ ns.length ∧ (∀ n ∈ ms, 1 ≤ n) ∧ (ms = [] → ns = []) ∧ Fr [q] H H'
  | 0, k, H, left, ks, x5, h, ep, eq, hk, h1, hz => ⟨ks, H, left, x5, by simp [forM, srcR, ep], eq, by omega, h1, fun z => List.length_eq_zero_iff.mp (by have := hz z; omega), Fr.refl⟩
  | f + 1, k, H, left, ks, x5, h, ep, eq, hk, h1, hz => by
    have hlt : k < ns.length := by omega
    have hn := hp ns[k] (List.getElem_mem hlt)
    obtain ⟨ks', l', H1, hb, e1, hks, f1⟩ := keep_step (ρ := [some (.ref st), some (.ref p), x2, some (.int left), some (.ref q), some (.int ns[k])]) (by simp) rfl rfl rfl eq (by omega)
    have ep1 : getL H1 p = some (ns.map Dv.int) := f1.getL ep (by simpa using hpq)
    have c1 : ks'.length ≤ k + 1 := by
      rcases hks with rfl | ⟨rfl, _⟩
      · simp; omega
      · omega
    have c2 : ∀ n ∈ ks', 1 ≤ n := by
      rcases hks with rfl | ⟨rfl, _⟩
      · intro n hn'
        simp at hn'
        rcases hn' with hn' | rfl
        · exact h1 n hn'
        · exact hn
      · exact h1
    have c3 : ks' = [] → k + 1 = 0 := by
      rcases hks with rfl | ⟨rfl, z⟩
      · simp
      · exact fun w => absurd w z
    obtain ⟨ms, H2, l2, y5, hf, e2, lm, pm, zm, f2⟩ := keep_loop hp h6 hpq f (k + 1) H1 l' ks' (some (.int ns[k])) (by omega) ep1 e1 c1 c2 c3
    refine ⟨ms, H2, l2, y5, ?_, e2, lm, pm, zm, f1.trans f2 (fun j hj => .inl hj)⟩
    rw [← hf]
    have hg : (srcR p ns.length).get k H = some (.int ns[k]) := by simp [srcR, ep, hlt]
    have hs : sName 5 (.int ns[k]) [some (.ref st), some (.ref p), x2, some (.int left), some (.ref q), x5] = some [some (.ref st), some (.ref p), x2, some (.int left), some (.ref q), some (.int ns[k])] := rfl
    exact for_step hg hs hb
theorem sizes_eq : mb__law_sizes = (mSeq (mAsg (mLst mNil) (sName 1)) (mSeq (mFor (mas rng1D (mCons (m2 addE (mC (.int 1)) (mCall F__law_take (mCons (mVar 0) (mCons (mC (.int 6)) mNil)))) mNil)) (sName 2) bd1) (mSeq (mAsg (mC (.int 6)) (sName 3)) (mSeq (mAsg (mLst mNil) (sName 4)) (mSeq (mFor (m1s lstD (mVar 1)) (sName 5) bd2) (mRet (m2 ix0 (mLst (mCons (mVar 4) (mCons (mVar 4) (mCons (mVar 4) (mCons (mVar 1) mNil))))) (mCall F__law_take (mCons (mVar 0) (mCons (mC (.int 4)) mNil)))))))))) := rfl
theorem sizes_ok (s : St st H) : ∃ (i : Nat) (ns : List Int) (H' : Hs), F__law_sizes [.ref st] H = .ok (.ref i) H' ∧ getL H' i = some (ns.map Dv.int) ∧ OkN ns ∧ Fr [st] H H' ∧ St st H' ∧ H.length ≤ i := by
  have lt0 := s.lt
  -- found
  have f0 : Fr [] H (H ++ [.lst []]) := Fr.app
  have s0 := s.fr f0 (by simp)
  have e0 : getL (H ++ [.lst []]) H.length = some (([] : List Int).map Dv.int) := by simp [getL]
  have w0 : mAsg (mLst mNil) (sName 1) [some (.ref st), none, none, none, none, none] H = .nx [some (.ref st), some (.ref H.length), none, none, none, none] (H ++ [.lst []]) := rfl
  obtain ⟨r, H1, r0, r1, t1, f1, s1⟩ := take_in (ρ := [some (.ref st), some (.ref H.length), none, none, none, none]) (i := 0) 6 s0 rfl
  have e1 : getL H1 H.length = some (([] : List Int).map Dv.int) := f1.getL e0 (by simp; omega)
  have hr : inR (1 + r) = true := by simp [inR]; omega
  have w1 : mas rng1D (mCons (m2 addE (mC (.int 1)) (mCall F__law_take (mCons (mVar 0) (mCons (mC (.int 6)) mNil)))) mNil) [some (.ref st), some (.ref H.length), none, none, none, none] (H ++ [.lst []]) = .ok (srcRng 0 (1 + r)) H1 := by
    simp [mas, mCons, m2, mC, t1, addE, addD, mNil, rng_of hr]
  obtain ⟨ns, H2, y2, w2, e2, l2, p2, f2, s2⟩ := fill_loop (m := 1 + r) (p := H.length) (srcRng 0 (1 + r)).n 0 H1 [] none s1 e1 (by omega) (by simp [srcRng]; omega) (by simp)
  have l2' : 1 ≤ ns.length ∧ ns.length ≤ 6 := by
    rw [l2]; simp [srcRng]; omega
  -- kept
  have w3 : mAsg (mC (.int 6)) (sName 3) [some (.ref st), some (.ref H.length), y2, none, none, none] H2 = .nx [some (.ref st), some (.ref H.length), y2, some (.int 6), none, none] H2 := rfl
  have w4 : mAsg (mLst mNil) (sName 4) [some (.ref st), some (.ref H.length), y2, some (.int 6), none, none] H2 = .nx [some (.ref st), some (.ref H.length), y2, some (.int 6), some (.ref H2.length), none] (H2 ++ [.lst []]) := rfl
  have f4 : Fr [] H2 (H2 ++ [.lst []]) := Fr.app
  have e4 : getL (H2 ++ [.lst []]) H.length = some (ns.map Dv.int) := keep_app e2
  have q4 : getL (H2 ++ [.lst []]) H2.length = some (([] : List Int).map Dv.int) := by simp [getL]
  have lt2 := getL_lt e2
  have w5 : m1s lstD (mVar 1) [some (.ref st), some (.ref H.length), y2, some (.int 6), some (.ref H2.length), none] (H2 ++ [.lst []]) = .ok (srcR H.length ns.length) (H2 ++ [.lst []]) := by
    simp [m1s, mVar, lstD, e4]
  obtain ⟨ms, H3, lf, y5, w6, e6, l6, p6, z6, f6⟩ := keep_loop (st := st) (x2 := y2) p2 l2'.2 (show H.length ≠ H2.length by omega) ns.length 0 (H2 ++ [.lst []]) 6 [] none (by omega) e4 q4 (by simp) (by simp) (by simp)
  have st3 := (s2.fr f4 (by simp)).fr f6 (by have := s2.lt; simp; omega)
  have e7 : getL H3 H.length = some (ns.map Dv.int) := f6.getL e4 (by simp; omega)
  -- which
  have f8 : Fr [] H3 (H3 ++ [.lst [.ref H2.length, .ref H2.length, .ref H2.length, .ref H.length]]) := Fr.app
  have st8 := st3.fr f8 (by simp)
  obtain ⟨v, H4, v0, v1, t8, f9, s9⟩ := take_in (ρ := [some (.ref st), some (.ref H.length), y2, some (.int lf), some (.ref H2.length), y5]) (i := 0) 4 st8 rfl
  have g9 : getL H4 H3.length = some [.ref H2.length, .ref H2.length, .ref H2.length, .ref H.length] := f9.getL (by simp [getL]) (by have := st3.lt; simp; omega)
  have okn : OkN ns := ⟨l2'.1, l2'.2, p2⟩
  have okm : OkN ms := ⟨by
    cases ms with
    | nil => have := z6 rfl; rw [this] at l2'; simp at l2'
    | cons a t => simp, by omega, p6⟩
  have fr : Fr [st] H H4 := by
    have a1 := f0.mono (T := [st]) (by simp)
    have a2 := a1.trans f1 (fun j hj => .inl hj)
    have a3 := a2.trans f2 (fun j hj => by simp at hj; rcases hj with rfl | rfl <;> simp)
    have a4 := a3.trans f4 (by simp)
    have a5 := a4.trans f6 (fun j hj => by simp at hj; subst hj; right; omega)
    have a6 := a5.trans f8 (by simp)
    exact a6.trans f9 (fun j hj => .inl hj)
  have gn : getL H4 H.length = some (ns.map Dv.int) := f9.getL (keep_app e7) (by simp; omega)
  have gm : getL H4 H2.length = some (ms.map Dv.int) := f9.getL (keep_app e6) (by have := s2.lt; simp; omega)
  have run : ∀ d, ix0 (.ref H3.length) (.int v) H4 = .ok d H4 → F__law_sizes [.ref st] H = .ok d H4 := fun d hd => by
    show endOf (mb__law_sizes [some (.ref st), none, none, none, none, none] H) = _
    have z : mb__law_sizes [some (.ref st), none, none, none, none, none] H = .rt d H4 := by
      rw [sizes_eq, seq_nx w0, seq_nx ((for_ok w1).trans w2), seq_nx w3, seq_nx w4, seq_nx ((for_ok w5).trans w6)]
      simp [mRet, m2, mLst, mCons, mVar, mNil, lim, t8, hd]
    rw [z]; rfl
  have : v = 0 ∨ v = 1 ∨ v = 2 ∨ v = 3 := by omega
  rcases this with rfl | rfl | rfl | rfl
  · exact ⟨H2.length, ms, H4, run _ (by simp [ix0, noScr, ixD, g9, atL, atI, ixN]), gm, okm, fr, s9, by omega⟩
  · exact ⟨H2.length, ms, H4, run _ (by simp [ix0, noScr, ixD, g9, atL, atI, ixN]), gm, okm, fr, s9, by omega⟩
  · exact ⟨H2.length, ms, H4, run _ (by simp [ix0, noScr, ixD, g9, atL, atI, ixN]), gm, okm, fr, s9, by omega⟩
  · exact ⟨H.length, ns, H4, run _ (by simp [ix0, noScr, ixD, g9, atL, atI, ixN]), gn, okn, fr, s9, by omega⟩
end
end L2.Mr.K71
namespace L2.Mr.K71
open PySem PySem.Spec PyProof.Rows L2 L2.Mr
/-! ### great sizes -/
def gpart : MS := mAsg (m2 addE (m2 mulD (mVar 3) (mC (.int 2147483587))) (mCall F__law_take (mCons (mVar 0) (mCons (mC (.int 2147483587)) mNil)))) (sName 3)
def gend : MS := mExpr (mApp (mVar 1) (m2 addE (mC (.int 1)) (m2 modD (mVar 3) (m2 ix0 (mLst (mCons (mC (.int 10)) (mCons (mC (.int 1000)) (mCons (m2 powD (mC (.int 10)) (mC (.int 15))) (mCons (m2 subD (m2 powD (mC (.int 10)) (mC (.int 30))) (mC (.int 1))) mNil))))) (mCall F__law_take (mCons (mVar 0) (mCons (mC (.int 4)) mNil)))))))
section
variable {H : Hs} {st p : Nat} {xs : List Dv}
theorem gpart_ok {y2 y4 : Option Dv} {z : Int} (s : St st H) : ∃ z' H', gpart [some (.ref st), some (.ref p), y2, some (.int z), y4] H = .nx [some (.ref st), some (.ref p), y2, some (.int z'), y4] H' ∧ Fr [st] H H' ∧ St st H' := by
  obtain ⟨r, H1, r0, r1, t1, f1, s1⟩ := take_in (ρ := [some (.ref st), some (.ref p), y2, some (.int z), y4]) (i := 0) 2147483587 s rfl
  refine ⟨z * 2147483587 + r, H1, ?_, f1, s1⟩
  have w : inW 2147483587 = true := by decide
  simp [gpart, mAsg, m2, mVar, mC, mulD, iOpC, mulB, w, t1, addE, addD, sName]
theorem gparts_ok {y2 y4 : Option Dv} (s : St st H) : ∃ z y4' H', mFor (mas rng1D (mCons (mC (.int 4)) mNil)) (sName 4) gpart [some (.ref st), some (.ref p), y2, some (.int 0), y4] H = .nx [some (.ref st), some (.ref p), y2, some (.int z), y4'] H' ∧ Fr [st] H H' ∧ St st H' := by
  obtain ⟨ρ', H', h1, z, y4', h2, h3, h4⟩ := for_run (mi := mas rng1D (mCons (mC (.int 4)) mNil)) (src := srcRng 0 4) (H1 := H) (ρ := [some (.ref st), some (.ref p), y2, some (.int 0), y4]) (H := H) (b := gpart) (sg := sName 4) rfl
    (fun k ρ H' => ∃ (z : Int) (y4 : Option Dv), ρ = [some (.ref st), some (.ref p), y2, some (.int z), y4] ∧ Fr [st] H H' ∧ St st H')
    (fun k ρ H' hk ⟨z, y4, e1, e2, e3⟩ => by
      subst e1
      obtain ⟨z', H2, b1, b2, b3⟩ := gpart_ok (p := p) (y2 := y2) (y4 := some (.int (0 + (k : Int)))) (z := z) e3
      exact ⟨.int (0 + (k : Int)), _, _, _, rfl, rfl, b1, _, _, rfl, e2.trans b2 (fun j hj => .inl hj), b3⟩) (fun _ _ _ => rfl) ⟨0, y4, rfl, Fr.refl, s⟩
  exact ⟨z, y4', H', by rw [h1, h2], h3, h4⟩
theorem gend_ok {y2 y4 : Option Dv} {z : Int} (s : St st H) (e : getL H p = some xs) (hp : p ≠ st) (hl : xs.length < 1000000) :
    ∃ (n : Int) (H' : Hs), 1 ≤ n ∧ gend [some (.ref st), some (.ref p), y2, some (.int z), y4] H = .nx [some (.ref st), some (.ref p), y2, some (.int z), y4] H' ∧ getL H' p = some (xs ++ [.int n]) ∧ Fr [st, p] H H' ∧ St st H' := by
  have f3 : Fr [] H (H ++ [.lst [.int 10, .int 1000, .int 1000000000000000, .int 999999999999999999999999999999]]) := Fr.app
  have s3 := s.fr f3 (by simp)
  obtain ⟨r4, H4, c0, c1, t4, f4, s4⟩ := take_in (ρ := [some (.ref st), some (.ref p), y2, some (.int z), y4]) (i := 0) 4 s3 rfl
  have hlt := s.lt
  have hps : p ∉ [st] := by simpa using hp
  have g : getL H4 H.length = some [.int 10, .int 1000, .int 1000000000000000, .int 999999999999999999999999999999] := f4.getL (by simp [getL]) (by simp; omega)
  have gp : getL H4 p = some xs := f4.getL (keep_app e) hps
  have ⟨v, v0, hv⟩ : ∃ v, 0 < v ∧ ix0 (.ref H.length) (.int r4) H4 = .ok (.int v) H4 := by
    have : r4 = 0 ∨ r4 = 1 ∨ r4 = 2 ∨ r4 = 3 := by omega
    rcases this with rfl | rfl | rfl | rfl
    · exact ⟨10, by omega, by simp [ix0, noScr, ixD, g, atL, atI, ixN]⟩
    · exact ⟨1000, by omega, by simp [ix0, noScr, ixD, g, atL, atI, ixN]⟩
    · exact ⟨1000000000000000, by omega, by simp [ix0, noScr, ixD, g, atL, atI, ixN]⟩
    · exact ⟨999999999999999999999999999999, by omega, by simp [ix0, noScr, ixD, g, atL, atI, ixN]⟩
  have fr : Fr [st, p] H H4 := (f3.mono (T := [st]) (by simp)).trans f4 (fun j hj => .inl hj) |>.mono (by simp)
  have hm : 0 ≤ z % v := Int.emod_nonneg _ (by omega)
  refine ⟨1 + z % v, H4.set p (.lst (xs ++ [.int (1 + z % v)])), by omega, ?_, getL_set gp, fr.trans Fr.set (by simp), s4.fr Fr.set (by simpa using Ne.symm hp)⟩
  simp [gend, mExpr, mApp, mVar, isL, e, m2, mC, mLst, mCons, mNil, lim, powD, iOpC, powB, subD, iOp, t4, hv, modD, modB, v0, addE, addD, appD, gp, hl]
def gbody : MS := mSeq (mAsg (mC (.int 0)) (sName 3)) (mSeq (mFor (mas rng1D (mCons (mC (.int 4)) mNil)) (sName 4) gpart) gend)
theorem gbody_ok {y2 y3 y4 : Option Dv} (s : St st H) (e : getL H p = some xs) (hp : p ≠ st) (hl : xs.length < 1000000) :
    ∃ (n : Int) (y3' y4' : Option Dv) (H' : Hs), 1 ≤ n ∧ gbody [some (.ref st), some (.ref p), y2, y3, y4] H = .nx [some (.ref st), some (.ref p), y2, y3', y4'] H' ∧ getL H' p = some (xs ++ [.int n]) ∧ Fr [st, p] H H' ∧ St st H' := by
  obtain ⟨z, y4', H1, b1, f1, s1⟩ := gparts_ok (p := p) (y2 := y2) (y4 := y4) s
  obtain ⟨n, H2, n1, b2, e2, f2, s2⟩ := gend_ok (y2 := y2) (y4 := y4') (z := z) s1 (f1.getL e (by simpa using hp)) hp hl
  refine ⟨n, some (.int z), y4', H2, n1, ?_, e2, (f1.mono (T := [st, p]) (by simp)).trans f2 (fun j hj => .inl hj), s2⟩
  have w0 : mAsg (mC (.int 0)) (sName 3) [some (.ref st), some (.ref p), y2, y3, y4] H = .nx [some (.ref st), some (.ref p), y2, some (.int 0), y4] H := rfl
  unfold gbody
  rw [seq_nx w0, seq_nx b1, b2]
theorem great_eq : mb__law_great = mSeq (mAsg (mLst mNil) (sName 1)) (mSeq (mFor (mas rng1D (mCons (m2 addE (mC (.int 1)) (mCall F__law_take (mCons (mVar 0) (mCons (mC (.int 6)) mNil)))) mNil)) (sName 2) gbody) (mRet (mVar 1))) := rfl
theorem great_ok (s : St st H) : ∃ (i : Nat) (ns : List Int) (H' : Hs), F__law_great [.ref st] H = .ok (.ref i) H' ∧ getL H' i = some (ns.map Dv.int) ∧ OkN ns ∧ Fr [st] H H' ∧ St st H' ∧ H.length ≤ i := by
  have lt0 := s.lt
  have f0 : Fr [] H (H ++ [.lst []]) := Fr.app
  have s0 := s.fr f0 (by simp)
  have e0 : getL (H ++ [.lst []]) H.length = some (([] : List Int).map Dv.int) := by simp [getL]
  have w0 : mAsg (mLst mNil) (sName 1) [some (.ref st), none, none, none, none] H = .nx [some (.ref st), some (.ref H.length), none, none, none] (H ++ [.lst []]) := rfl
  obtain ⟨r, H1, r0, r1, t1, f1, s1⟩ := take_in (ρ := [some (.ref st), some (.ref H.length), none, none, none]) (i := 0) 6 s0 rfl
  have e1 : getL H1 H.length = some (([] : List Int).map Dv.int) := f1.getL e0 (by simp; omega)
  have hr : inR (1 + r) = true := by simp [inR]; omega
  have w1 : mas rng1D (mCons (m2 addE (mC (.int 1)) (mCall F__law_take (mCons (mVar 0) (mCons (mC (.int 6)) mNil)))) mNil) [some (.ref st), some (.ref H.length), none, none, none] (H ++ [.lst []]) = .ok (srcRng 0 (1 + r)) H1 := by
    simp [mas, mCons, m2, mC, t1, addE, addD, mNil, rng_of hr]
  have hN : (srcRng 0 (1 + r)).n = (1 + r).toNat := by simp [srcRng]
  obtain ⟨ρ', H', h1, ns, y2, y3, y4, h2, h3, h4, h5, h6, h7⟩ := for_run (b := gbody) (sg := sName 2) w1
    (fun k ρ H' => ∃ (ns : List Int) (y2 y3 y4 : Option Dv), ρ = [some (.ref st), some (.ref H.length), y2, y3, y4] ∧ getL H' H.length = some (ns.map Dv.int) ∧ ns.length = k ∧ (∀ n ∈ ns, 1 ≤ n) ∧ Fr [st, H.length] H1 H' ∧ St st H')
    (fun k ρ H' hk ⟨ns, y2, y3, y4, e1, e2, e3, e4, e5, e6⟩ => by
      subst e1
      rw [hN] at hk
      obtain ⟨n, z3, z4, H2, n1, b1, b2, b3, b4⟩ := gbody_ok (y2 := some (.int (0 + (k : Int)))) (y3 := y3) (y4 := y4) e6 e2 (by omega) (by simp; omega)
      refine ⟨.int (0 + (k : Int)), _, _, _, rfl, rfl, b1, ns ++ [n], _, _, _, rfl, by rw [b2]; simp, by simp [e3], fun a ha => ?_, e5.trans b3 (fun j hj => .inl hj), b4⟩
      simp at ha
      rcases ha with ha | rfl
      · exact e4 a ha
      · exact n1) (fun _ _ _ => rfl) ⟨[], none, none, none, rfl, e1, rfl, by simp, Fr.refl, s1⟩
  rw [hN] at h4
  have z0 : F__law_great [.ref st] H = endOf (mb__law_great [some (.ref st), none, none, none, none] H) := rfl
  refine ⟨H.length, ns, H', ?_, h3, ⟨by omega, by omega, h5⟩, ?_, h7, Nat.le_refl _⟩
  · have z : mb__law_great [some (.ref st), none, none, none, none] H = .rt (.ref H.length) H' := by
      rw [great_eq, seq_nx w0, seq_nx h1, h2]; rfl
    rw [z0, z]; rfl
  · have a1 := f0.mono (T := [st]) (by simp)
    have a2 := a1.trans f1 (fun j hj => .inl hj)
    exact a2.trans h6 (fun j hj => by simp at hj; rcases hj with rfl | rfl <;> simp)
end
end L2.Mr.K71
namespace L2.Mr.K71
open PySem PySem.Spec PyProof.Rows L2 L2.Mr
/-! ### bad sizes -/
def menuM : M Dv := mLst (mCons (mC .non) (mCons (mLst mNil) (mCons (mLst (mCons (mC (.int 0)) mNil)) (mCons (mLst (mCons (mC (.int 1)) (mCons (m1 negD (mC (.int 1))) mNil))) (mCons (mLst (mCons (mC (.bl true)) mNil)) (mCons (mLst (mCons (mC (.str "1")) mNil)) (mCons (mTup (mCons (mC (.int 1)) (mCons (mC (.int 2)) mNil))) (mCons (m2 repD (mLst (mCons (mC (.int 1)) mNil)) (mC (.int 7))) (mCons (mC .edc) (mCons (mC (.int 3)) (mCons (mLst (mCons (mC .non) mNil)) (mCons (mLst (mCons (mLst (mCons (mC (.int 1)) mNil)) mNil)) (mCons (mLst (mCons (mC (.int 1)) (mCons (mTup (mCons (mC (.int 2)) mNil)) mNil))) (mCons (mC (.str "12")) mNil))))))))))))))
theorem bad_eq : mb__law_bad_sizes = mSeq (mAsg menuM (sName 1)) (mRet (m2 ix0 (mVar 1) (mCall F__law_take (mCons (mVar 0) (mCons (mC (.int 14)) mNil))))) := rfl
theorem up_menu : UpE menuM := (u_lst (u_cons u_c (u_cons (u_lst u_nil) (u_cons (u_lst (u_cons u_c u_nil)) (u_cons (u_lst (u_cons u_c (u_cons (u_m1 up_neg u_c) u_nil))) (u_cons (u_lst (u_cons u_c u_nil)) (u_cons (u_lst (u_cons u_c u_nil)) (u_cons (u_tup (u_cons u_c (u_cons u_c u_nil))) (u_cons (u_m2 up_rep (u_lst (u_cons u_c u_nil)) u_c) (u_cons u_c (u_cons u_c (u_cons (u_lst (u_cons u_c u_nil)) (u_cons (u_lst (u_cons (u_lst (u_cons u_c u_nil)) u_nil)) (u_cons (u_lst (u_cons u_c (u_cons (u_tup (u_cons u_c u_nil)) u_nil))) (u_cons u_c u_nil)))))))))))))))
/-- the menu, and where it stands -/
def menuL : Hs := match menuM [none, none] [] with
  | .ok _ l => l
  | _ => []
def menuI : Nat := match menuM [none, none] [] with
  | .ok (.ref i) _ => i
  | _ => 0
def menuX : List Dv := (getL menuL menuI).getD []
theorem menu_run : menuM [none, none] [] = .ok (.ref menuI) menuL := rfl
theorem menu_ix : ∀ k : Nat, k < 14 → ∃ d, menuX[k]? = some d ∧ ix0 (.ref menuI) (.int (k : Int)) menuL = .ok d menuL := by
  intro k hk
  match k, hk with
  | 0, _ => exact ⟨_, rfl, rfl⟩
  | 1, _ => exact ⟨_, rfl, rfl⟩
  | 2, _ => exact ⟨_, rfl, rfl⟩
  | 3, _ => exact ⟨_, rfl, rfl⟩
  | 4, _ => exact ⟨_, rfl, rfl⟩
  | 5, _ => exact ⟨_, rfl, rfl⟩
  | 6, _ => exact ⟨_, rfl, rfl⟩
  | 7, _ => exact ⟨_, rfl, rfl⟩
  | 8, _ => exact ⟨_, rfl, rfl⟩
  | 9, _ => exact ⟨_, rfl, rfl⟩
  | 10, _ => exact ⟨_, rfl, rfl⟩
  | 11, _ => exact ⟨_, rfl, rfl⟩
  | 12, _ => exact ⟨_, rfl, rfl⟩
  | 13, _ => exact ⟨_, rfl, rfl⟩
  | k + 14, h => omega
def t2M : M Bool := mB (m2 neD (mRef [5] 4 14 mb__law_refused me_lam0) (mLst (mCons (mC (.int 13)) mNil)))
def t3M : M Bool := mB (m2 neD (mRef [5] 4 14 mb__law_refused me_lam1) (mLst (mCons (mC (.int 13)) mNil)))
theorem up_t2 : UpT t2M := u_B (u_m2 up_ne (u_ref up_mb__law_refused up_me_lam0) (u_lst (u_cons u_c u_nil)))
theorem up_t3 : UpT t3M := u_B (u_m2 up_ne (u_ref up_mb__law_refused up_me_lam1) (u_lst (u_cons u_c u_nil)))
def exB (k : Nat) : Bool := match t2M [none, none, none, none, none, menuX[k]?] menuL with
  | .ok false l => match t3M [none, none, none, none, none, menuX[k]?] l with
    | .ok false _ => true
    | _ => false
  | _ => false
theorem tl_closed : ((List.range 14).all fun k => exB k) = true := by decide +kernel
section
variable {H : Hs} {st : Nat}
theorem bad_ok (s : St st H) : ∃ (k : Nat) (d : Dv) (B : Hs), k < 14 ∧ menuX[k]? = some d ∧ F__law_bad_sizes [.ref st] H = .ok (sh B.length d) (B ++ shH B.length menuL) := by
  have lt := s.lt
  have v : UpV H.length [none, none] [some (.ref st), none] := ⟨rfl, fun i d q => by
    match i, q with
    | 0, q => cases q
    | 1, q => cases q
    | i + 2, q => cases q⟩
  have u := up_menu H [none, none] [some (.ref st), none] [] v
  rw [menu_run] at u
  have u' : menuM [some (.ref st), none] H = .ok (.ref (H.length + menuI)) (H ++ shH H.length menuL) := by
    have e : H ++ shH H.length [] = H := by simp [shH]
    rw [e] at u
    exact u
  obtain ⟨a, b, es⟩ := s.fr (Fr.app (S := []) (l := shH H.length menuL)) (by simp)
  obtain ⟨r, a', r0, r1, ht⟩ := take_set _ _ _ _ 14 (by decide) (by decide) es
  have hset : (H ++ shH H.length menuL).set st (.lst [.int a', .bl b]) = H.set st (.lst [.int a', .bl b]) ++ shH (H.set st (.lst [.int a', .bl b])).length menuL := by
    rw [List.length_set, List.set_append_left _ _ lt]
  rw [hset] at ht
  generalize hB : H.set st (.lst [.int a', .bl b]) = B at ht
  have hl : B.length = H.length := by rw [← hB, List.length_set]
  obtain ⟨k, rfl⟩ : ∃ k : Nat, r = k := ⟨r.toNat, by omega⟩
  have hk : k < 14 := by omega
  obtain ⟨d, hd, hx⟩ := menu_ix k hk
  have hx' := up_ix0 B (.ref menuI) (.int (k : Int)) menuL
  rw [hx] at hx'
  have hx2 : ix0 (.ref (H.length + menuI)) (.int (k : Int)) (B ++ shH B.length menuL) = .ok (sh B.length d) (B ++ shH B.length menuL) := by
    rw [← hl]; exact hx'
  refine ⟨k, d, B, hk, hd, ?_⟩
  show endOf (mb__law_bad_sizes [some (.ref st), none] H) = _
  have w1 : mAsg menuM (sName 1) [some (.ref st), none] H = .nx [some (.ref st), some (.ref (H.length + menuI))] (H ++ shH H.length menuL) := by
    simp [mAsg, u', sName]
  rw [bad_eq, seq_nx w1]
  simp [mRet, m2, mVar, mCall, mCons, mC, mNil, ht, hx2, endOf]
theorem tl_ok {a b c x3 x4 : Option Dv} {d : Dv} {k : Nat} {B : Hs} (hk : k < 14) (hd : menuX[k]? = some d) :
    ∃ H', mSeq (mIf t2M (mRet (mC (.bl false))) mNext) (mIf t3M (mRet (mC (.bl false))) mNext) [a, b, c, x3, x4, some (sh B.length d)] (B ++ shH B.length menuL) = .nx [a, b, c, x3, x4, some (sh B.length d)] H' := by
  have h := List.all_eq_true.mp tl_closed k (by simpa using hk)
  have v : UpV B.length [none, none, none, none, none, menuX[k]?] [a, b, c, x3, x4, some (sh B.length d)] := ⟨rfl, fun i d' q => by
    match i, q with
    | 0, q => cases q
    | 1, q => cases q
    | 2, q => cases q
    | 3, q => cases q
    | 4, q => cases q
    | 5, q =>
      have q' : menuX[k]? = some d' := by simpa using q
      rw [hd] at q'; cases q'; rfl
    | i + 6, q => cases q⟩
  have u2 := up_t2 B _ _ menuL v
  unfold exB at h
  cases q2 : t2M [none, none, none, none, none, menuX[k]?] menuL with
  | bad => rw [q2] at h; cases h
  | ex c l => rw [q2] at h; cases h
  | ok b2 l =>
    rw [q2] at h u2
    cases b2 with
    | true => cases h
    | false =>
      dsimp only at h
      have u3 := up_t3 B _ _ l v
      cases q3 : t3M [none, none, none, none, none, menuX[k]?] l with
      | bad => rw [q3] at h; cases h
      | ex c l => rw [q3] at h; cases h
      | ok b3 l3 =>
        rw [q3] at h u3
        cases b3 with
        | true => cases h
        | false =>
          refine ⟨B ++ shH B.length l3, ?_⟩
          rw [seq_nx (ρ1 := [a, b, c, x3, x4, some (sh B.length d)]) (h1 := B ++ shH B.length l) (by rw [if_F u2]; rfl), if_F u3]
          rfl
end
end L2.Mr.K71
namespace L2.Mr.K71
open PySem PySem.Spec PyProof.Rows L2 L2.Mr
theorem same_int {H : Hs} (x : Int) : F__law_same 6 [.int x, .int x] H = .ok (.bl true) H := by
  simp [F__law_same, mb__law_same, callM, startEv, mSeq, mIf, mTru, m1, isiD, mVar, tyD, isTLF, truD, mNext, mRet, mAndV, m2, eqD, fuelD, pur, deq, isBoolF, endOf]
/-- an order read back -/
def prOf : Dv → Option (Int × Int)
  | .tup [.int a, .int b] => some (a, b)
  | _ => none
theorem prOf_ok {d : Dv} {p : Int × Int} (h : prOf d = some p) : d = prD p := by
  unfold prOf at h
  split at h
  · cases h; rfl
  · cases h
theorem prsOf_ok : ∀ {ds : List Dv} {ps : List (Int × Int)}, optL prOf ds = some ps → ds = ps.map prD
  | [], ps, h => by cases h; rfl
  | d :: ds, ps, h => by
    unfold optL at h
    cases q : prOf d with
    | none => rw [q] at h; cases h
    | some p =>
      rw [q] at h
      dsimp only at h
      cases q2 : optL prOf ds with
      | none => rw [q2] at h; cases h
      | some qs => rw [q2] at h; cases h; rw [prOf_ok q, prsOf_ok q2]; rfl
def ordOf : Dv → Option (Nat × List (Int × Int))
  | .tup [.int n, .tup ds] => if 0 ≤ n then (optL prOf ds).map fun ps => (n.toNat, ps) else none
  | _ => none
theorem ordOf_ok {d : Dv} {n : Nat} {ps : List (Int × Int)} (h : ordOf d = some (n, ps)) : d = ordD n ps := by
  unfold ordOf at h
  split at h
  · rename_i m ds
    split at h
    · rename_i h0
      cases q : optL prOf ds with
      | none => rw [q] at h; cases h
      | some qs =>
        rw [q] at h
        cases h
        rw [prsOf_ok q]
        unfold ordD
        rw [Int.toNat_of_nonneg h0]
    · cases h
  · cases h
end L2.Mr.K71
namespace L2.Mr
open PySem PySem.Spec PyProof.Rows L2
/-! ### places held up -/
def bump (up : List Int) (b v : Int) : Option (List Int) := match ixN up.length b with
  | none => none
  | some k => match up[k]? with
    | none => none
    | some u => some (up.set k (if v > u then v else u))
def upP (fs : List Int) : List Int → List (Int × Int) → Option (List Int)
  | up, [] => some up
  | up, p :: ps => match atI fs p.1 with
    | none => none
    | some f => match bump up p.2 (f + 1) with
      | none => none
      | some up1 => upP fs up1 ps
def upQ (r : Int) (fs : List Int) : List Int → List (Int × Int) → Option (List Int)
  | up, [] => some up
  | up, p :: ps => match atI fs p.2 with
    | none => none
    | some f2 => match bump up p.1 (f2 - r) with
      | none => none
      | some up1 => match atI fs p.1 with
        | none => none
        | some f1 => match bump up1 p.2 (f1 - r) with
          | none => none
          | some up2 => upQ r fs up2 ps
theorem atI_map {α β : Type} (f : α → β) (xs : List α) (i : Int) : atI (xs.map f) i = (atI xs i).map f := by
  unfold atI
  rw [List.length_map]
  cases ixN xs.length i with
  | none => rfl
  | some k => simp
section
variable {H : Hs} {j : Nat} {up up1 : List Int} {b v : Int} {ρ : Ev} {x : Nat}
/-- up[b] = max(up[b], v) -/
theorem bump_ok {mv : M Dv} (hj : getL H j = some (up.map Dv.int)) (h4 : ρ[4]? = some (some (.ref j))) (hx : ρ[x]? = some (some (.int b))) (hv : mv ρ H = .ok (.int v) H) (h : bump up b v = some up1) :
    mSetIx (mVar 4) (mVar x) (mCall max2F (mCons (m2 ix0 (mVar 4) (mVar x)) (mCons mv mNil))) ρ H = .nx ρ (H.set j (.lst (up1.map Dv.int))) := by
  unfold bump at h
  split at h
  · cases h
  · rename_i k hk
    split at h
    · cases h
    · rename_i u hu
      cases h
      have ha : atI (up.map Dv.int) b = some (.int u) := by rw [atI_map]; unfold atI; rw [hk]; simp [hu]
      have hk' : ixN (up.map Dv.int).length b = some k := by rw [List.length_map]; exact hk
      simp only [mSetIx, mCall, mCons, m2, mVar, h4, hx, Rs.bind_ok, ix0, noScr, ixD, hj, atL, ha, hv, mNil, max2F, if_true]
      simp only [Rs.thenS, setD, hj, hk', List.map_set]
end
theorem set_self {H : Hs} {j : Nat} {xs : List Dv} (e : getL H j = some xs) : H.set j (.lst xs) = H := by
  apply List.ext_getElem?
  intro k
  by_cases hk : j = k
  · subst hk; rw [List.getElem?_set_self (getL_lt e), getL_some e]
  · rw [List.getElem?_set_ne hk]
def b1 : MS := mSetIx (mVar 4) (mVar 6) (mCall max2F (mCons (m2 ix0 (mVar 4) (mVar 6)) (mCons (m2 addE (m2 ix0 (mVar 2) (mVar 5)) (mC (.int 1))) mNil)))
def b2 : MS := mSeq (mSetIx (mVar 4) (mVar 5) (mCall max2F (mCons (m2 ix0 (mVar 4) (mVar 5)) (mCons (m2 subD (m2 ix0 (mVar 2) (mVar 6)) (mVar 1)) mNil)))) (mSetIx (mVar 4) (mVar 6) (mCall max2F (mCons (m2 ix0 (mVar 4) (mVar 6)) (mCons (m2 subD (m2 ix0 (mVar 2) (mVar 5)) (mVar 1)) mNil))))
def tg2 : Tgt := sTup 2 (sCons (sName 5) (sCons (sName 6) sNil))
section
variable {d : Dv} {r : Int} {i j : Nat} {fs : List Int}
theorem ix_int {H : Hs} {a f : Int} (e : getL H i = some (fs.map Dv.int)) (h : atI fs a = some f) : ix0 (.ref i) (.int a) H = .ok (.int f) H := by
  have : atI (fs.map Dv.int) a = some (.int f) := by rw [atI_map, h]; rfl
  simp only [ix0, noScr, ixD, e, atL, this, if_true]
theorem b1_ok {H : Hs} {x3 : Option Dv} {up up1 : List Int} {a b f : Int} (ei : getL H i = some (fs.map Dv.int)) (ej : getL H j = some (up.map Dv.int)) (hf : atI fs a = some f) (h : bump up b (f + 1) = some up1) :
    b1 [some d, some (.int r), some (.ref i), x3, some (.ref j), some (.int a), some (.int b)] H = .nx [some d, some (.int r), some (.ref i), x3, some (.ref j), some (.int a), some (.int b)] (H.set j (.lst (up1.map Dv.int))) :=
  bump_ok (x := 6) ej rfl rfl (by simp [m2, mVar, ix_int ei hf, mC, addE, addD]) h
theorem b2_ok {H : Hs} {x3 : Option Dv} {up up1 up2 : List Int} {a b f f2 : Int} (hij : j ≠ i) (ei : getL H i = some (fs.map Dv.int)) (ej : getL H j = some (up.map Dv.int)) (hf : atI fs a = some f) (hf2 : atI fs b = some f2) (h : bump up a (f2 - r) = some up1) (h2 : bump up1 b (f - r) = some up2) :
    b2 [some d, some (.int r), some (.ref i), x3, some (.ref j), some (.int a), some (.int b)] H = .nx [some d, some (.int r), some (.ref i), x3, some (.ref j), some (.int a), some (.int b)] (H.set j (.lst (up2.map Dv.int))) := by
  unfold b2
  rw [seq_nx (bump_ok (x := 5) ej rfl rfl (by simp [m2, mVar, ix_int ei hf2, subD, iOp]) h)]
  have ei' : getL (H.set j (.lst (up1.map Dv.int))) i = some (fs.map Dv.int) := by rw [getL_ne hij]; exact ei
  rw [bump_ok (x := 6) (getL_set ej) rfl rfl (by simp [m2, mVar, ix_int ei' hf, subD, iOp]) h2, List.set_set]
theorem loop1 {H H1 : Hs} {x3 x5 x6 : Option Dv} {up v : List Int} {ps : List (Int × Int)} {mi : M Src} (hij : j ≠ i) (ei : getL H i = some (fs.map Dv.int)) (ej : getL H j = some (up.map Dv.int)) (h : upP fs up ps = some v)
    (hi : mi [some d, some (.int r), some (.ref i), x3, some (.ref j), x5, x6] H = .ok (srcL (ps.map prD)) H) :
    ∃ y5 y6, mFor mi tg2 b1 [some d, some (.int r), some (.ref i), x3, some (.ref j), x5, x6] H = .nx [some d, some (.int r), some (.ref i), x3, some (.ref j), y5, y6] (H.set j (.lst (v.map Dv.int))) := by
  have hn : (srcL (ps.map prD)).n = ps.length := by simp [srcL]
  obtain ⟨ρ', H', h1, y5, y6, up', h2, h3, h4⟩ := for_run (b := b1) (sg := tg2) hi (fun k ρ H' => ∃ (y5 y6 : Option Dv) (up' : List Int), ρ = [some d, some (.int r), some (.ref i), x3, some (.ref j), y5, y6] ∧ H' = H.set j (.lst (up'.map Dv.int)) ∧ upP fs up' (ps.drop k) = some v)
    (fun k ρ H' hk ⟨y5, y6, up', e1, e2, e3⟩ => by
      subst e1; subst e2
      rw [hn] at hk
      rw [List.drop_eq_getElem_cons hk] at e3
      unfold upP at e3
      cases hf : atI fs ps[k].1 with
      | none => rw [hf] at e3; cases e3
      | some f =>
        rw [hf] at e3
        dsimp only at e3
        cases hb : bump up' ps[k].2 (f + 1) with
        | none => rw [hb] at e3; cases e3
        | some up1 =>
          rw [hb] at e3
          dsimp only at e3
          have ei' : getL (H.set j (.lst (up'.map Dv.int))) i = some (fs.map Dv.int) := by rw [getL_ne hij]; exact ei
          refine ⟨prD ps[k], [some d, some (.int r), some (.ref i), x3, some (.ref j), some (.int ps[k].1), some (.int ps[k].2)], _, _, by simp [srcL, hk], rfl, b1_ok ei' (getL_set ej) hf hb, _, _, up1, rfl, by rw [List.set_set], e3⟩) (fun _ _ _ => rfl) ⟨x5, x6, up, rfl, (set_self ej).symm, h⟩
  rw [hn, List.drop_length] at h4
  have : up' = v := by simpa [upP] using h4
  subst this
  exact ⟨y5, y6, by rw [h1, h2, h3]⟩
theorem loop2 {H : Hs} {x3 x5 x6 : Option Dv} {q : Nat} {up v : List Int} {qs : List (Int × Int)} {mi : M Src} {H0 : Hs} (hij : j ≠ i) (hqj : j ≠ q) (ei : getL H i = some (fs.map Dv.int)) (ej : getL H j = some (up.map Dv.int)) (eq : getL H q = some (qs.map prD)) (h : upQ r fs up qs = some v)
    (hi : mi [some d, some (.int r), some (.ref i), x3, some (.ref j), x5, x6] H0 = .ok (srcR q qs.length) H) :
    ∃ y5 y6, mFor mi tg2 b2 [some d, some (.int r), some (.ref i), x3, some (.ref j), x5, x6] H0 = .nx [some d, some (.int r), some (.ref i), x3, some (.ref j), y5, y6] (H.set j (.lst (v.map Dv.int))) := by
  have hn : (srcR q qs.length).n = qs.length := rfl
  obtain ⟨ρ', H', h1, y5, y6, up', h2, h3, h4⟩ := for_run (b := b2) (sg := tg2) hi (fun k ρ H' => ∃ (y5 y6 : Option Dv) (up' : List Int), ρ = [some d, some (.int r), some (.ref i), x3, some (.ref j), y5, y6] ∧ H' = H.set j (.lst (up'.map Dv.int)) ∧ upQ r fs up' (qs.drop k) = some v)
    (fun k ρ H' hk ⟨y5, y6, up', e1, e2, e3⟩ => by
      subst e1; subst e2
      rw [hn] at hk
      rw [List.drop_eq_getElem_cons hk] at e3
      unfold upQ at e3
      have ei' : getL (H.set j (.lst (up'.map Dv.int))) i = some (fs.map Dv.int) := by rw [getL_ne hij]; exact ei
      have eq' : getL (H.set j (.lst (up'.map Dv.int))) q = some (qs.map prD) := by rw [getL_ne hqj]; exact eq
      cases hf : atI fs qs[k].2 with
      | none => rw [hf] at e3; cases e3
      | some f =>
        rw [hf] at e3
        dsimp only at e3
        cases hb : bump up' qs[k].1 (f - r) with
        | none => rw [hb] at e3; cases e3
        | some up1 =>
          rw [hb] at e3
          dsimp only at e3
          cases hf2 : atI fs qs[k].1 with
          | none => rw [hf2] at e3; cases e3
          | some f2 =>
            rw [hf2] at e3
            dsimp only at e3
            cases hb2 : bump up1 qs[k].2 (f2 - r) with
            | none => rw [hb2] at e3; cases e3
            | some up2 =>
              rw [hb2] at e3
              dsimp only at e3
              have eg : (srcR q qs.length).get k (H.set j (.lst (up'.map Dv.int))) = some (prD qs[k]) := by simp [srcR, eq', hk]
              refine ⟨prD qs[k], [some d, some (.int r), some (.ref i), x3, some (.ref j), some (.int qs[k].1), some (.int qs[k].2)], _, _, eg, rfl, b2_ok hij ei' (getL_set ej) hf2 hf hb hb2, _, _, up2, rfl, by rw [List.set_set], e3⟩)
    (fun ρ H' ⟨_, _, up', _, e2, _⟩ => by
      subst e2
      have eq' : getL (H.set j (.lst (up'.map Dv.int))) q = some (qs.map prD) := by rw [getL_ne hqj]; exact eq
      simp [srcR, eq']) ⟨x5, x6, up, rfl, (set_self ej).symm, h⟩
  rw [hn, List.drop_length] at h4
  have : up' = v := by simpa [upQ] using h4
  subst this
  exact ⟨y5, y6, by rw [h1, h2, h3]⟩
end
theorem deqL_ints : ∀ xs ys : List Int, deqL (xs.map Dt.int) (ys.map Dt.int) = decide (xs = ys)
  | [], [] => by simp [deqL]
  | [], y :: ys => by simp [deqL]
  | x :: xs, [] => by simp [deqL]
  | x :: xs, y :: ys => by
    simp only [List.map_cons, deqL, deqL_ints xs ys, deq]
    rw [Bool.eq_iff_iff]; simp
theorem eq_ints {H : Hs} {i j : Nat} {xs ys : List Int} (ei : getL H i = some (xs.map Dv.int)) (ej : getL H j = some (ys.map Dv.int)) : eqD (.ref i) (.ref j) H = .ok (.bl (decide (xs = ys))) H := by
  have p : ∀ (i : Nat) (xs : List Int), getL H i = some (xs.map Dv.int) → pur fuelD H (.ref i) = some (.lst (xs.map Dt.int)) := fun i xs e => by
    show pur (28 + 1 + 1) H (.ref i) = _
    rw [pur]
    simp only [e, pur_ints]
  unfold eqD
  rw [p i xs ei, p j ys ej]
  simp only [deq, deqL_ints]
end L2.Mr
namespace L2.Mr
open PySem PySem.Spec PyProof.Rows L2
/-! ### places held up, again and again -/
def lwTurn (ps qs : List (Int × Int)) (r : Int) (fs : List Int) : Option (List Int) := match upP fs fs ps with
  | none => none
  | some up => upQ r fs up qs
def lwP (n : Int) (ps qs : List (Int × Int)) (r : Int) : Nat → List Int → Option (Option (List Int))
  | 0, fs => some none
  | f + 1, fs => match lwTurn ps qs r fs with
    | none => none
    | some up => if up = fs then some (some fs) else if up.length = 0 then none else if maxI up ≥ n then some none else lwP n ps qs r f up
def encR : Option (List Int) → Dv
  | none => .non
  | some fs => .tup (fs.map Dv.int)
def lwB (Fl : List Dv → Hs → Rs Dv) : MS := mSeq (mAsg (mCall (f1 list0) (mCons (mVar 2) mNil)) (sName 4)) (mSeq (mFor (m1s tupS (m2 ix0 (mVar 0) (mC (.int 1)))) tg2 b1) (mSeq (mFor (m1s lstD (mCall Fl (mCons (mVar 0) mNil))) tg2 b2) (mSeq (mIf (mB (m2 eqD (mVar 4) (mVar 2))) (mRet (mCall (f1 tupleD) (mCons (mVar 2) mNil))) mNext) (mSeq (mAsg (mVar 4) (sName 2)) (mIf (mB (m2 geD (mCall (f1 (l1D maxI)) (mCons (mVar 2) mNil)) (m2 ix0 (mVar 0) (mC (.int 0))))) (mRet (mC .non)) mNext)))))
def lwM (Fl : List Dv → Hs → Rs Dv) : MS := mSeq (mAsg (m2 repD (mLst (mCons (mC (.int 0)) mNil)) (m2 ix0 (mVar 0) (mC (.int 0)))) (sName 2)) (mSeq (mFor (mas rng1D (mCons (m2 addE (m2 mulD (m2 ix0 (mVar 0) (mC (.int 0))) (m2 ix0 (mVar 0) (mC (.int 0)))) (mC (.int 2))) mNil)) (sName 3) (lwB Fl)) (mRet (mC .non)))
theorem ints_optL : ∀ ns : List Int, optL intD (ns.map Dv.int) = some ns
  | [] => rfl
  | n :: ns => by simp [optL, intD, ints_optL ns]
section
variable {d : Dv} {n r : Int} {ps qs : List (Int × Int)} {Fl : List Dv → Hs → Rs Dv}
theorem lw_turn (hx0 : ∀ H, ix0 d (.int 0) H = .ok (.int n) H) (hx1 : ∀ H, ix0 d (.int 1) H = .ok (.tup (ps.map prD)) H) (hL : ∀ H, Fl [d] H = .ok (.ref H.length) (H ++ [Ob.lst (qs.map prD)]))
    {H : Hs} {i : Nat} {x3 x4 x5 x6 : Option Dv} {fs up : List Int} (ei : getL H i = some (fs.map Dv.int)) (ht : lwTurn ps qs r fs = some up) :
    ∃ (H' : Hs), Fr [] H H' ∧ (up = fs → lwB Fl [some d, some (.int r), some (.ref i), x3, x4, x5, x6] H = .rt (.tup (fs.map Dv.int)) H') ∧
      (up ≠ fs → up.length ≠ 0 → if maxI up ≥ n then lwB Fl [some d, some (.int r), some (.ref i), x3, x4, x5, x6] H = .rt .non H' else ∃ (j : Nat) (y4 y5 y6 : Option Dv), lwB Fl [some d, some (.int r), some (.ref i), x3, x4, x5, x6] H = .nx [some d, some (.int r), some (.ref j), x3, y4, y5, y6] H' ∧ getL H' j = some (up.map Dv.int)) := by
  unfold lwTurn at ht
  cases hp : upP fs fs ps with
  | none => rw [hp] at ht; cases ht
  | some u1 =>
    rw [hp] at ht
    dsimp only at ht
    have li := getL_lt ei
    have w0 : mAsg (mCall (f1 list0) (mCons (mVar 2) mNil)) (sName 4) [some d, some (.int r), some (.ref i), x3, x4, x5, x6] H = .nx [some d, some (.int r), some (.ref i), x3, some (.ref H.length), x5, x6] (H ++ [Ob.lst (fs.map Dv.int)]) := by
      simp [mAsg, mCall, mCons, mVar, mNil, f1, list0, noScr, listD, seqD, ei, sName]
    have f0 : Fr [] H (H ++ [Ob.lst (fs.map Dv.int)]) := Fr.app
    have ei0 := keep_app (l := [Ob.lst (fs.map Dv.int)]) ei
    have ej0 : getL (H ++ [Ob.lst (fs.map Dv.int)]) H.length = some (fs.map Dv.int) := by simp [getL]
    have hl0 : (H ++ [Ob.lst (fs.map Dv.int)]).length = H.length + 1 := by simp
    generalize hH0 : H ++ [Ob.lst (fs.map Dv.int)] = H0 at w0 f0 ei0 ej0 hl0
    obtain ⟨y5, y6, w1⟩ := loop1 (d := d) (r := r) (i := i) (j := H.length) (H := H0) (H1 := H0) (x3 := x3) (x5 := x5) (x6 := x6) (mi := m1s tupS (m2 ix0 (mVar 0) (mC (.int 1)))) (by omega) ei0 ej0 hp (by simp [m1s, m2, mVar, mC, hx1, tupS])
    have ei1 : getL (H0.set H.length (Ob.lst (u1.map Dv.int))) i = some (fs.map Dv.int) := by rw [getL_ne (by omega)]; exact ei0
    have ej1 : getL (H0.set H.length (Ob.lst (u1.map Dv.int))) H.length = some (u1.map Dv.int) := getL_set ej0
    have f1' : Fr [] H (H0.set H.length (Ob.lst (u1.map Dv.int))) := f0.trans (T := [H.length]) Fr.set (by simp)
    have hl1 : (H0.set H.length (Ob.lst (u1.map Dv.int))).length = H.length + 1 := by simp [hl0]
    generalize H0.set H.length (Ob.lst (u1.map Dv.int)) = H1 at w1 ei1 ej1 f1' hl1
    have eq2 : getL (H1 ++ [Ob.lst (qs.map prD)]) H1.length = some (qs.map prD) := by simp [getL]
    obtain ⟨z5, z6, w2⟩ := loop2 (d := d) (r := r) (i := i) (j := H.length) (H := H1 ++ [Ob.lst (qs.map prD)]) (H0 := H1) (x3 := x3) (x5 := y5) (x6 := y6) (q := H1.length) (mi := m1s lstD (mCall Fl (mCons (mVar 0) mNil))) (by omega) (by omega) (keep_app ei1) (keep_app ej1) eq2 ht (by simp [m1s, mCall, mCons, mVar, mNil, hL, lstD, eq2])
    have ei2 : getL ((H1 ++ [Ob.lst (qs.map prD)]).set H.length (Ob.lst (up.map Dv.int))) i = some (fs.map Dv.int) := by rw [getL_ne (by omega)]; exact keep_app ei1
    have ej2 : getL ((H1 ++ [Ob.lst (qs.map prD)]).set H.length (Ob.lst (up.map Dv.int))) H.length = some (up.map Dv.int) := getL_set (keep_app ej1)
    have f2' : Fr [] H ((H1 ++ [Ob.lst (qs.map prD)]).set H.length (Ob.lst (up.map Dv.int))) := (f1'.trans (T := []) Fr.app (by simp)).trans (T := [H.length]) Fr.set (by simp)
    generalize (H1 ++ [Ob.lst (qs.map prD)]).set H.length (Ob.lst (up.map Dv.int)) = H2 at w2 ei2 ej2 f2'
    have t : mB (m2 eqD (mVar 4) (mVar 2)) [some d, some (.int r), some (.ref i), x3, some (.ref H.length), z5, z6] H2 = .ok (decide (up = fs)) H2 := by
      simp [mB, m2, mVar, eq_ints ej2 ei2, asB]
    refine ⟨H2, f2', fun h => ?_, fun h hz => ?_⟩
    · unfold lwB
      rw [seq_nx w0, seq_nx w1, seq_nx w2]
      unfold mSeq
      rw [if_T (t.trans (by rw [decide_eq_true h]))]
      simp [mRet, mCall, mCons, mVar, mNil, f1, tupleD, ei2, Rs.thenS]
    · have hz' : 0 < up.length := by omega
      have w3 : mIf (mB (m2 eqD (mVar 4) (mVar 2))) (mRet (mCall (f1 tupleD) (mCons (mVar 2) mNil))) mNext [some d, some (.int r), some (.ref i), x3, some (.ref H.length), z5, z6] H2 = .nx [some d, some (.int r), some (.ref i), x3, some (.ref H.length), z5, z6] H2 := by
        rw [if_F (t.trans (by rw [decide_eq_false h]))]; rfl
      have w4 : mAsg (mVar 4) (sName 2) [some d, some (.int r), some (.ref i), x3, some (.ref H.length), z5, z6] H2 = .nx [some d, some (.int r), some (.ref H.length), x3, some (.ref H.length), z5, z6] H2 := rfl
      have t2 : mB (m2 geD (mCall (f1 (l1D maxI)) (mCons (mVar 2) mNil)) (m2 ix0 (mVar 0) (mC (.int 0)))) [some d, some (.int r), some (.ref H.length), x3, some (.ref H.length), z5, z6] H2 = .ok (decide (maxI up ≥ n)) H2 := by
        simp [mB, m2, mCall, mCons, mVar, mNil, f1, l1D, ej2, ints_optL, hz', mC, hx0, geD, iOp, asB]
      split
      · rename_i hm
        unfold lwB
        rw [seq_nx w0, seq_nx w1, seq_nx w2, seq_nx w3, seq_nx w4, if_T (t2.trans (by rw [decide_eq_true hm]))]
        rfl
      · rename_i hm
        refine ⟨H.length, some (.ref H.length), z5, z6, ?_, ej2⟩
        unfold lwB
        rw [seq_nx w0, seq_nx w1, seq_nx w2, seq_nx w3, seq_nx w4, if_F (t2.trans (by rw [decide_eq_false hm]))]
        rfl
theorem lw_loop {m : Int} (hx0 : ∀ H, ix0 d (.int 0) H = .ok (.int n) H) (hx1 : ∀ H, ix0 d (.int 1) H = .ok (.tup (ps.map prD)) H) (hL : ∀ H, Fl [d] H = .ok (.ref H.length) (H ++ [Ob.lst (qs.map prD)])) (res : Option (List Int)) :
    ∀ (f k : Nat) (fs : List Int) (H : Hs) (i : Nat) (x3 x4 x5 x6 : Option Dv), getL H i = some (fs.map Dv.int) → lwP n ps qs r f fs = some res →
      ∃ H', Fr [] H H' ∧ (forM (srcRng 0 m) (sName 3) (lwB Fl) f k [some d, some (.int r), some (.ref i), x3, x4, x5, x6] H = .rt (encR res) H' ∨ res = none ∧ ∃ ρ', forM (srcRng 0 m) (sName 3) (lwB Fl) f k [some d, some (.int r), some (.ref i), x3, x4, x5, x6] H = .nx ρ' H')
  | 0, k, fs, H, i, x3, x4, x5, x6, ei, h => by
    cases h
    exact ⟨H, Fr.refl, .inr ⟨rfl, _, rfl⟩⟩
  | f + 1, k, fs, H, i, x3, x4, x5, x6, ei, h => by
    unfold lwP at h
    cases ht : lwTurn ps qs r fs with
    | none => rw [ht] at h; cases h
    | some up =>
      rw [ht] at h
      dsimp only at h
      obtain ⟨H1, f1, c1, c2⟩ := lw_turn (x3 := some (.int (0 + (k : Int)))) (x4 := x4) (x5 := x5) (x6 := x6) hx0 hx1 hL ei ht
      have ex : ∀ (rr : Sr), (∀ ρ h, rr ≠ .nx ρ h) → (∀ ρ h, rr ≠ .ct ρ h) → (∀ ρ h, rr ≠ .bk ρ h) → lwB Fl [some d, some (.int r), some (.ref i), some (.int (0 + (k : Int))), x4, x5, x6] H = rr → forM (srcRng 0 m) (sName 3) (lwB Fl) (f + 1) k [some d, some (.int r), some (.ref i), x3, x4, x5, x6] H = rr := fun rr h1 h2 h3 e => by
        rw [forM]
        have e' : lwB Fl (List.set [some d, some (.int r), some (.ref i), x3, x4, x5, x6] 3 (some (.int (0 + (k : Int))))) H = rr := e
        simp only [srcRng, sName]
        rw [e']
        cases rr with
        | nx ρ h => exact absurd rfl (h1 ρ h)
        | ct ρ h => exact absurd rfl (h2 ρ h)
        | bk ρ h => exact absurd rfl (h3 ρ h)
        | _ => rfl
      split at h
      · rename_i he
        cases h
        exact ⟨H1, f1, .inl (ex _ (by simp) (by simp) (by simp) (c1 he))⟩
      · rename_i he
        split at h
        · cases h
        · rename_i hz
          have c := c2 he hz
          split at h
          · rename_i hm
            cases h
            rw [if_pos hm] at c
            exact ⟨H1, f1, .inl (ex _ (by simp) (by simp) (by simp) c)⟩
          · rename_i hm
            rw [if_neg hm] at c
            obtain ⟨j, y4, y5, y6, c3, ej⟩ := c
            obtain ⟨H2, f2, q⟩ := lw_loop hx0 hx1 hL res f (k + 1) up H1 j (some (.int (0 + (k : Int)))) y4 y5 y6 ej h
            refine ⟨H2, f1.trans f2 (by simp), ?_⟩
            rw [for_step (d := .int (0 + (k : Int))) (ρ1 := [some d, some (.int r), some (.ref i), some (.int (0 + (k : Int))), x4, x5, x6]) rfl rfl c3]
            exact q
theorem lw_ok (N : Nat) (hn : n = N) (h6 : N ≤ 6) (hx0 : ∀ H, ix0 d (.int 0) H = .ok (.int n) H) (hx1 : ∀ H, ix0 d (.int 1) H = .ok (.tup (ps.map prD)) H) (hL : ∀ H, Fl [d] H = .ok (.ref H.length) (H ++ [Ob.lst (qs.map prD)])) {res : Option (List Int)} {H : Hs}
    (h : lwP n ps qs r (N * N + 2) (List.replicate N 0) = some res) : ∃ H', callM 2 7 (lwM Fl) [d, .int r] H = .ok (encR res) H' ∧ Fr [] H H' := by
  have n0 : 0 ≤ n := by omega
  have n6 : n ≤ 6 := by omega
  have w0 : mAsg (m2 repD (mLst (mCons (mC (.int 0)) mNil)) (m2 ix0 (mVar 0) (mC (.int 0)))) (sName 2) [some d, some (.int r), none, none, none, none, none] H = .nx [some d, some (.int r), some (.ref (H.length + 1)), none, none, none, none] (H ++ [Ob.lst [.int 0]] ++ [Ob.lst ((List.replicate N (0 : Int)).map Dv.int)]) := by
    have e0 : getL (H ++ [Ob.lst [.int 0]]) H.length = some [.int 0] := by simp [getL]
    have c0 : inW n = true := by simp [inW]; omega
    have c1 : n < 9223372036854775808 := by omega
    have c2 : -9223372036854775808 ≤ n := by omega
    have c3 : n.toNat = N := by omega
    have c4 : N ≤ 1000000 := by omega
    have c5 : (List.replicate N [Dv.int 0]).flatten = List.replicate N (Dv.int 0) := by simp
    simp [mAsg, m2, mLst, mCons, mC, mNil, lim, mVar, hx0, repD, e0, c0, c1, c2, c3, c4, sName]
  have ei : getL (H ++ [Ob.lst [.int 0]] ++ [Ob.lst ((List.replicate N (0 : Int)).map Dv.int)]) (H.length + 1) = some ((List.replicate N (0 : Int)).map Dv.int) := by simp [getL]
  have f0 : Fr [] H (H ++ [Ob.lst [.int 0]] ++ [Ob.lst ((List.replicate N (0 : Int)).map Dv.int)]) := Fr.trans (T := []) Fr.app Fr.app (by simp)
  generalize H ++ [Ob.lst [.int 0]] ++ [Ob.lst ((List.replicate N (0 : Int)).map Dv.int)] = H0 at w0 ei f0
  have hi : mas rng1D (mCons (m2 addE (m2 mulD (m2 ix0 (mVar 0) (mC (.int 0))) (m2 ix0 (mVar 0) (mC (.int 0)))) (mC (.int 2))) mNil) [some d, some (.int r), some (.ref (H.length + 1)), none, none, none, none] H0 = .ok (srcRng 0 (n * n + 2)) H0 := by
    have c0 : inW n = true := by simp [inW]; omega
    have q : mCons (m2 addE (m2 mulD (m2 ix0 (mVar 0) (mC (.int 0))) (m2 ix0 (mVar 0) (mC (.int 0)))) (mC (.int 2))) mNil [some d, some (.int r), some (.ref (H.length + 1)), none, none, none, none] H0 = .ok [.int (n * n + 2)] H0 := by
      simp [mCons, m2, mVar, mC, hx0, mulD, iOpC, mulB, c0, addE, addD, mNil]
    have b1 : n * n ≤ 36 := by
      have := Int.mul_le_mul n6 n6 n0 (by omega)
      omega
    have b0 : 0 ≤ n * n := Int.mul_nonneg n0 n0
    have b2 : inR (n * n + 2) = true := by
      generalize n * n = m at b1 b0
      have h1 : (-4611686018427387904 : Int) ≤ m + 2 := by omega
      have h2 : m + 2 < 4611686018427387904 := by omega
      unfold inR
      rw [decide_eq_true h1, decide_eq_true h2]; rfl
    unfold mas
    rw [q, Rs.bind_ok]
    simp only [rng1D, b2, if_true]
  have hN : (srcRng 0 (n * n + 2)).n = N * N + 2 := by
    show (n * n + 2 - 0).toNat = _
    rw [hn]
    have : ((N : Int) * (N : Int)) = ((N * N : Nat) : Int) := by simp
    omega
  obtain ⟨H', f1, q⟩ := lw_loop (m := n * n + 2) hx0 hx1 hL res (N * N + 2) 0 (List.replicate N 0) H0 (H.length + 1) none none none none ei h
  refine ⟨H', ?_, f0.trans f1 (by simp)⟩
  show endOf (lwM Fl [some d, some (.int r), none, none, none, none, none] H) = _
  unfold lwM
  rw [seq_nx w0]
  rcases q with q | ⟨rfl, ρ', q⟩
  · have : mFor (mas rng1D (mCons (m2 addE (m2 mulD (m2 ix0 (mVar 0) (mC (.int 0))) (m2 ix0 (mVar 0) (mC (.int 0)))) (mC (.int 2))) mNil)) (sName 3) (lwB Fl) [some d, some (.int r), some (.ref (H.length + 1)), none, none, none, none] H0 = .rt (encR res) H' := by
      rw [for_ok hi, hN]; exact q
    unfold mSeq
    rw [this]; rfl
  · rw [seq_nx ((for_ok hi).trans (by rw [hN]; exact q))]
    rfl
/-! ### the least reach -/
def leastP (n : Int) (N : Nat) (ps qs : List (Int × Int)) : Nat → Int → Option Int
  | 0, _ => none
  | f + 1, r => match lwP n ps qs r (N * N + 2) (List.replicate N 0) with
    | none => none
    | some none => leastP n N ps qs f (r + 1)
    | some (some _) => some r
def lrM (Fw : List Dv → Hs → Rs Dv) : MS := mSeq (mAsg (mC (.int 0)) (sName 1)) (mSeq (whileM (mB (m2 (isC false) (mCall Fw (mCons (mVar 0) (mCons (mVar 1) mNil))) (mC .non))) (mAsg (m2 addE (mVar 1) (mC (.int 1))) (sName 1)) 20) (mRet (mVar 1)))
theorem lr_loop (N : Nat) (Fw : List Dv → Hs → Rs Dv) (hw : ∀ (r : Int) (res : Option (List Int)) (H : Hs), lwP n ps qs r (N * N + 2) (List.replicate N 0) = some res → ∃ H', Fw [d, .int r] H = .ok (encR res) H' ∧ Fr [] H H') (v : Int) :
    ∀ (f : Nat) (r : Int) (H : Hs), leastP n N ps qs f r = some v → ∃ H', whileM (mB (m2 (isC false) (mCall Fw (mCons (mVar 0) (mCons (mVar 1) mNil))) (mC .non))) (mAsg (m2 addE (mVar 1) (mC (.int 1))) (sName 1)) f [some d, some (.int r)] H = .nx [some d, some (.int v)] H' ∧ Fr [] H H'
  | 0, r, H, h => by cases h
  | f + 1, r, H, h => by
    unfold leastP at h
    cases q : lwP n ps qs r (N * N + 2) (List.replicate N 0) with
    | none => rw [q] at h; cases h
    | some res =>
      obtain ⟨H1, h1, f1⟩ := hw r res H q
      rw [q] at h
      cases res with
      | none =>
        dsimp only at h
        obtain ⟨H2, h2, f2⟩ := lr_loop N Fw hw v f (r + 1) H1 h
        refine ⟨H2, ?_, f1.trans f2 (by simp)⟩
        rw [← h2, whileM]
        simp [mB, m2, mCall, mCons, mVar, mNil, h1, encR, mC, isC, sameC, asB, Rs.thenS, mAsg, addE, addD, sName]
      | some fs =>
        cases h
        refine ⟨H1, ?_, f1⟩
        rw [whileM]
        simp [mB, m2, mCall, mCons, mVar, mNil, h1, encR, mC, isC, sameC, asB, Rs.thenS]
theorem lr_ok (N : Nat) (Fw : List Dv → Hs → Rs Dv) (hw : ∀ (r : Int) (res : Option (List Int)) (H : Hs), lwP n ps qs r (N * N + 2) (List.replicate N 0) = some res → ∃ H', Fw [d, .int r] H = .ok (encR res) H' ∧ Fr [] H H') {v : Int} {H : Hs} (h : leastP n N ps qs 20 0 = some v) :
    ∃ H', callM 1 2 (lrM Fw) [d] H = .ok (.int v) H' ∧ Fr [] H H' := by
  obtain ⟨H', h1, f1⟩ := lr_loop N Fw hw v 20 0 H h
  refine ⟨H', ?_, f1⟩
  show endOf (lrM Fw [some d, none] H) = _
  unfold lrM
  rw [seq_nx (m := mAsg (mC (.int 0)) (sName 1)) (ρ := [some d, none]) (h := H) (ρ1 := [some d, some (.int 0)]) (h1 := H) rfl, seq_nx h1]
  rfl
end
end L2.Mr
namespace L2.Mr.K71
open PySem PySem.Spec PyProof.Rows L2 L2.Mr
/-! ### the small sizes, each run -/
def mr_of : MS := (mSeq (mAsg (mLst mNil) (sName 3)) (mSeq (mFor (mas rng1D (mCons (mCall (f1 len0) (mCons (mVar 2) mNil)) mNil)) (sName 4) (mFor (mas rng1D (mCons (mCall (f1 len0) (mCons (mVar 2) mNil)) mNil)) (sName 5) (mIf (mOr (mAnd (mTru (mVar 1)) (mAnd (mB (m2 ltD (mVar 4) (mVar 5))) (mB (m2 eqD (m2 ix0 (mVar 2) (mVar 4)) (m2 ix0 (mVar 2) (mVar 5)))))) (mAnd (mNot (mTru (mVar 1))) (mB (m2 ltD (m2 ix0 (mVar 2) (mVar 4)) (m2 ix0 (mVar 2) (mVar 5)))))) (mExpr (mApp (mVar 3) (mTup (mCons (mVar 4) (mCons (mVar 5) mNil))))) mNext))) (mRet (mTup (mCons (mCall (f1 len0) (mCons (mVar 2) mNil)) (mCons (mCall (f1 tupleD) (mCons (mVar 3) mNil)) mNil))))))
theorem up_of' : UpS mr_of := (u_seq (u_asg (u_lst u_nil) (u_name 3)) (u_seq (u_for (u_mas up_rng1 (u_cons (u_call (up_f1 up_len0) (u_cons (u_var 2) u_nil)) u_nil)) (u_name 4) (u_for (u_mas up_rng1 (u_cons (u_call (up_f1 up_len0) (u_cons (u_var 2) u_nil)) u_nil)) (u_name 5) (u_if (u_or (u_and (u_tru (u_var 1)) (u_and (u_B (u_m2 up_lt (u_var 4) (u_var 5))) (u_B (u_m2 up_eq (u_m2 up_ix0 (u_var 2) (u_var 4)) (u_m2 up_ix0 (u_var 2) (u_var 5)))))) (u_and (u_not (u_tru (u_var 1))) (u_B (u_m2 up_lt (u_m2 up_ix0 (u_var 2) (u_var 4)) (u_m2 up_ix0 (u_var 2) (u_var 5)))))) (u_expr (u_app (u_var 3) (u_tup (u_cons (u_var 4) (u_cons (u_var 5) u_nil))))) u_next))) (u_ret (u_tup (u_cons (u_call (up_f1 up_len0) (u_cons (u_var 2) u_nil)) (u_cons (u_call (up_f1 up_tuple) (u_cons (u_var 3) u_nil)) u_nil))))))
def rtO : Sr → Option (Nat × List (Int × Int))
  | .rt d _ => ordOf d
  | _ => none
def runO (b : Bool) (ns : List Int) : Option (Nat × List (Int × Int)) := rtO (mr_of [none, some (.bl b), some (.ref 0), none, none, none] [.lst (nums 0 ns)])
def gen : Nat → Nat → List (List Int)
  | 0, _ => [[]]
  | f + 1, s => [] :: (List.range s).flatMap fun i => (gen f (s - (i + 1))).map fun t => ((i : Int) + 1) :: t
theorem gen_mem : ∀ (f s : Nat) (ns : List Int), ns.length ≤ f → (∀ n ∈ ns, 1 ≤ n) → ns.sum ≤ s → ns ∈ gen f s
  | 0, s, ns, hl, hp, hs => by
    have : ns = [] := List.length_eq_zero_iff.mp (by omega)
    subst this; simp [gen]
  | f + 1, s, [], hl, hp, hs => by simp [gen]
  | f + 1, s, n :: ns, hl, hp, hs => by
    have h1 := hp n (by simp)
    have hp' : ∀ m ∈ ns, 1 ≤ m := fun m hm => hp m (by simp [hm])
    have h2 := sum_nn ns hp'
    simp at hs hl
    have := gen_mem f (s - ((n - 1).toNat + 1)) ns hl hp' (by omega)
    simp only [gen, List.mem_cons, List.mem_flatMap, List.mem_range, List.mem_map]
    exact .inr ⟨(n - 1).toNat, by omega, ns, this, by simp; omega⟩
def chkG (o : Option (Nat × List (Int × Int))) (g : Nat → List (Int × Int) → Option Int) (v : Int) : Bool := match o with
  | some (n, ps) => decide (n ≤ 6) && decide (ps.length ≤ 36) && (g n ps == some v)
  | none => false
def chkL (ns : List Int) : Bool := chkG (runO false ns) spanP (maxI ns - 1)
def chkC (ns : List Int) : Bool := chkG (runO true ns) (fun n ps => leastP n n ps (loose n ps) 20 0) (reachI ns)
theorem closedC : ((gen 6 6).all fun ns => ns.isEmpty || chkC ns) = true := by decide +kernel
theorem closed6 : chkL [6] = true := by decide +kernel
theorem closedL : ((gen 6 6).all fun ns => ns.isEmpty || ns == [6] || chkL ns) = true := by decide +kernel
theorem smallC {ns : List Int} (o : OkN ns) (hs : ns.sum ≤ 6) : chkC ns = true := by
  have h := List.all_eq_true.mp closedC ns (gen_mem 6 6 ns o.l6 o.pos (by simpa using hs))
  have hl := o.l1
  cases ns with
  | nil => simp at hl
  | cons n t => simpa using h
theorem smallL {ns : List Int} (o : OkN ns) (hs : ns.sum ≤ 6) : chkL ns = true := by
  have h := List.all_eq_true.mp closedL ns (gen_mem 6 6 ns o.l6 o.pos (by simpa using hs))
  have hl := o.l1
  by_cases h6 : ns = [6]
  · rw [h6]; exact closed6
  · cases ns with
    | nil => simp at hl
    | cons n t =>
      rw [Bool.or_eq_true, Bool.or_eq_true] at h
      rcases h with (h | h) | h
      · simp at h
      · exact absurd (by simpa using h) h6
      · exact h
end L2.Mr.K71
namespace L2.Mr.K71
open PySem PySem.Spec PyProof.Rows L2 L2.Mr
mutual
def noR : Dv → Bool
  | .ref _ => false
  | .tup xs => noRL xs
  | .non => true
  | .bl _ => true
  | .int _ => true
  | .str _ => true
  | .edc => true
  | .exc _ => true
  | .scr => true
def noRL : List Dv → Bool
  | [] => true
  | x :: xs => noR x && noRL xs
end
mutual
theorem sh_noR (n : Nat) : ∀ d, noR d = true → sh n d = d
  | .ref i, h => by simp [noR] at h
  | .tup xs, h => by rw [sh, shL_noR n xs (by simpa [noR] using h)]
  | .non, h => rfl
  | .bl _, h => rfl
  | .int _, h => rfl
  | .str _, h => rfl
  | .edc, h => rfl
  | .exc _, h => rfl
  | .scr, h => rfl
theorem shL_noR (n : Nat) : ∀ xs, noRL xs = true → shL n xs = xs
  | [], h => rfl
  | x :: xs, h => by
    simp [noRL] at h
    rw [shL, sh_noR n x h.1, shL_noR n xs h.2]
end
theorem noR_ord (n : Nat) (ps : List (Int × Int)) : noR (ordD n ps) = true := by
  have : ∀ ps : List (Int × Int), noRL (ps.map prD) = true := fun ps => by
    induction ps with
    | nil => rfl
    | cons p ps ih => simp [noRL, prD, noR, ih]
  simp [ordD, noR, noRL, this]
/-- a run that ends with an order, moved up -/
theorem run_ord {m : MS} (u : UpS m) {ρ' ρ : Ev} {l B : Hs} {n : Nat} {ps : List (Int × Int)} (h : rtO (m ρ' l) = some (n, ps)) (v : UpV B.length ρ' ρ) : ∃ l1, m ρ (B ++ shH B.length l) = .rt (ordD n ps) (B ++ l1) := by
  have hu := u B ρ' ρ l v
  cases q : m ρ' l with
  | rt d l1 =>
    rw [q] at h hu
    have hd := ordOf_ok h
    subst hd
    have hu' : m ρ (B ++ shH B.length l) = .rt (sh B.length (ordD n ps)) (B ++ shH B.length l1) := hu
    rw [sh_noR _ _ (noR_ord n ps)] at hu'
    exact ⟨_, hu'⟩
  | _ => rw [q] at h; cases h
section
variable {ns : List Int} {H : Hs} {j i : Nat}
theorem of_ok {b : Bool} {n : Nat} {ps : List (Int × Int)} (o : OkN ns) (hs : ns.sum ≤ 6) (e : getL H j = some (ns.map Dv.int)) (h : runO b ns = some (n, ps)) :
    ∃ H', F__law_of_sizes [.ref j, .bl b] H = .ok (ordD n ps) H' ∧ Fr [] H H' := by
  obtain ⟨B, hb, fb⟩ := numb_ok o hs e
  have v : UpV B.length [none, some (.bl b), some (.ref 0), none, none, none] [some (.ref j), some (.bl b), some (.ref B.length), none, none, none] := ⟨rfl, fun i d q => by
    match i, q with
    | 0, q => cases q
    | 1, q => cases q; rfl
    | 2, q => cases q; rfl
    | 3, q => cases q
    | 4, q => cases q
    | 5, q => cases q
    | i + 6, q => cases q⟩
  unfold runO at h
  obtain ⟨l1, hu'⟩ := run_ord up_of' h v
  have hn : shH B.length [.lst (nums 0 ns)] = [.lst (nums 0 ns)] := by
    have : ∀ (xs : List Int) k, shL B.length (nums k xs) = nums k xs := fun xs => by
      induction xs with
      | nil => intro k; rfl
      | cons a xs ih =>
        intro k
        rw [nums, shL_app, ih, shL_map]
        simp [sh]
    simp [shH, shO, this]
  rw [hn] at hu'
  refine ⟨_, ?_, fb.trans (Fr.app (l := l1)) (T := []) (by simp)⟩
  have s1 : mAsg (mCall F__law_numbered (mCons (mVar 0) mNil)) (sName 2) [some (.ref j), some (.bl b), none, none, none, none] H = .nx [some (.ref j), some (.bl b), some (.ref B.length), none, none, none] (B ++ [.lst (nums 0 ns)]) := by
    simp [mAsg, mCall, mCons, mVar, mNil, hb, sName]
  show endOf (mSeq (mAsg (mCall F__law_numbered (mCons (mVar 0) mNil)) (sName 2)) mr_of [some (.ref j), some (.bl b), none, none, none, none] H) = _
  rw [seq_nx s1, hu']; rfl
theorem chk_of {o : Option (Nat × List (Int × Int))} {g : Nat → List (Int × Int) → Option Int} {v : Int} (h : chkG o g v = true) : ∃ n ps, o = some (n, ps) ∧ n ≤ 6 ∧ ps.length ≤ 36 ∧ g n ps = some v := by
  cases o with
  | none => cases h
  | some p =>
    obtain ⟨n, ps⟩ := p
    simp only [chkG, Bool.and_eq_true, decide_eq_true_eq, beq_iff_eq] at h
    exact ⟨n, ps, rfl, h.1.1, h.1.2, h.2⟩
theorem chkL_of (h : chkL ns = true) : ∃ n ps, runO false ns = some (n, ps) ∧ n ≤ 6 ∧ ps.length ≤ 36 ∧ spanP n ps = some (maxI ns - 1) := by
  unfold chkL at h
  exact chk_of h
theorem chkC_of (h : chkC ns = true) : ∃ n ps, runO true ns = some (n, ps) ∧ n ≤ 6 ∧ ps.length ≤ 36 ∧ leastP n n ps (loose n ps) 20 0 = some (reachI ns) := by
  unfold chkC at h
  exact chk_of h
theorem lr_eq : F__law_least_reach = callM 1 2 (lrM F__law_least_with) := rfl
theorem lw_eq : F__law_least_with = callM 2 7 (lwM F__law_loose) := rfl
theorem least_gen {n : Nat} {ps : List (Int × Int)} {v : Int} (hn : n ≤ 6) (h : leastP n n ps (loose n ps) 20 0 = some v) : ∃ H', F__law_least_reach [ordD n ps] H = .ok (.int v) H' ∧ Fr [] H H' := by
  rw [lr_eq]
  refine lr_ok n F__law_least_with (fun r res H h => ?_) h
  rw [lw_eq]
  exact lw_ok n rfl hn (fun H => ord0 H) (fun H => ord1 H) (fun H => loose_ok (by omega)) h
/-- the least span of levels, the least reach of chains -/
theorem spanL_ok (o : OkN ns) (hs : ns.sum ≤ 6) (e : getL H j = some (ns.map Dv.int)) : ∃ d H1 H2, F__law_of_sizes [.ref j, .bl false] H = .ok d H1 ∧ F__law_span [d] H1 = .ok (.int (maxI ns - 1)) H2 ∧ Fr [] H H2 := by
  obtain ⟨n, ps, q, c1, c2, c3⟩ := chkL_of (smallL o hs)
  obtain ⟨H1, h1, f1⟩ := of_ok o hs e q
  obtain ⟨H2, h2, f2⟩ := span_ok (n := n) (ps := ps) (H := H1) c1 (by omega) c3
  exact ⟨_, H1, H2, h1, h2, f1.trans f2 (by simp)⟩
theorem reachL_ok (o : OkN ns) (hs : ns.sum ≤ 6) (e : getL H j = some (ns.map Dv.int)) : ∃ d H1 H2, F__law_of_sizes [.ref j, .bl true] H = .ok d H1 ∧ F__law_least_reach [d] H1 = .ok (.int (reachI ns)) H2 ∧ Fr [] H H2 := by
  obtain ⟨n, ps, q, c1, c2, c3⟩ := chkC_of (smallC o hs)
  obtain ⟨H1, h1, f1⟩ := of_ok o hs e q
  obtain ⟨H2, h2, f2⟩ := least_gen (n := n) (ps := ps) (H := H1) c1 c3
  exact ⟨_, H1, H2, h1, h2, f1.trans f2 (by simp)⟩
end
end L2.Mr.K71
namespace L2.Mr.K71
open PySem PySem.Spec PyProof.Rows L2 L2.Mr
/-! ### a turn of the inner loop -/
def ib : MS := (mSeq (mAsg (mCall (f1 list0) (mCons (mVar 3) mNil)) (sName 4)) (mSeq (mIf (mNot (mTru (mCall (F__law_same 6) (mCons (mCall F_levels_span (mCons (mVar 4) mNil)) (mCons (m2 subD (mCall (f1 (l1D maxI)) (mCons (mVar 3) mNil)) (mC (.int 1))) mNil))))) (mRet (mC (.bl false))) mNext) (mSeq (mIf (mOr (mNot (mTru (mCall (F__law_same 6) (mCons (mCall F_chains_reach (mCons (mVar 4) mNil)) (mCons (mCall F__law_reach_by_rule (mCons (mVar 3) mNil)) mNil))))) (mB (m2 neD (mVar 4) (mVar 3)))) (mRet (mC (.bl false))) mNext) (mIf (mB (m2 ltD (mCall (f1 sumD) (mCons (mVar 3) mNil)) (mC (.int 7)))) (mSeq (mIf (mB (m2 neD (mCall F__law_span (mCons (mCall F__law_of_sizes (mCons (mVar 3) (mCons (mC (.bl false)) mNil))) mNil)) (mCall F_levels_span (mCons (mVar 4) mNil)))) (mRet (mC (.bl false))) mNext) (mIf (mB (m2 neD (mCall F__law_least_reach (mCons (mCall F__law_of_sizes (mCons (mVar 3) (mCons (mC (.bl true)) mNil))) mNil)) (mCall F_chains_reach (mCons (mVar 4) mNil)))) (mRet (mC (.bl false))) mNext)) mNext))))
section
variable {ns : List Int} {H : Hs} {j i : Nat}
theorem ne_same (ej : getL H j = some (ns.map Dv.int)) (ei : getL H i = some (ns.map Dv.int)) : neD (.ref j) (.ref i) H = .ok (.bl false) H := by
  have p : ∀ k, getL H k = some (ns.map Dv.int) → pur fuelD H (.ref k) = some (.lst (ns.map Dt.int)) := fun k e => by
    show pur (28 + 1 + 1) H (.ref k) = _
    rw [pur]
    simp only [e, pur_ints]
  unfold neD
  rw [p j ej, p i ei]
  simp [deq, deqL_ints]
theorem ne_int (x : Int) : neD (.int x) (.int x) H = .ok (.bl false) H := by
  simp [neD, fuelD, pur, deq]
theorem maxL_ok (o : OkN ns) (e : getL H j = some (ns.map Dv.int)) : f1 (l1D maxI) [.ref j] H = .ok (.int (maxI ns)) H := by
  have h0 : 0 < ns.length := o.l1
  simp [f1, l1D, e, optL_int, h0]
theorem ib_ok (o : OkN ns) (e : getL H i = some (ns.map Dv.int)) (a b c x4 x5 : Option Dv) : ∃ H' y4, ib [a, b, c, some (.ref i), x4, x5] H = .nx [a, b, c, some (.ref i), y4, x5] H' ∧ Fr [] H H' := by
  have s1 : mAsg (mCall (f1 list0) (mCons (mVar 3) mNil)) (sName 4) [a, b, c, some (.ref i), x4, x5] H = .nx [a, b, c, some (.ref i), some (.ref H.length), x5] (H ++ [.lst (ns.map Dv.int)]) := by
    simp [mAsg, mCall, f1, list0, noScr, listD, seqD, mCons, mVar, mNil, e, sName]
  have e1 : getL (H ++ [.lst (ns.map Dv.int)]) i = some (ns.map Dv.int) := keep_app e
  have e2 : getL (H ++ [.lst (ns.map Dv.int)]) H.length = some (ns.map Dv.int) := by simp [getL]
  have f1' : Fr [] H (H ++ [.lst (ns.map Dv.int)]) := Fr.app
  generalize H ++ [Ob.lst (ns.map Dv.int)] = H1 at s1 e1 e2 f1'
  have w2 : mIf (mNot (mTru (mCall (F__law_same 6) (mCons (mCall F_levels_span (mCons (mVar 4) mNil)) (mCons (m2 subD (mCall (f1 (l1D maxI)) (mCons (mVar 3) mNil)) (mC (.int 1))) mNil))))) (mRet (mC (.bl false))) mNext [a, b, c, some (.ref i), some (.ref H.length), x5] H1 = .nx [a, b, c, some (.ref i), some (.ref H.length), x5] H1 := by
    simp [mIf, mNot, mTru, mCall, mCons, mVar, mNil, levels_ok o e2, m2, maxL_ok o e1, mC, subD, iOp, same_int, truD, mNext]
  obtain ⟨H2, h2, f2⟩ := chains_ok o e2
  obtain ⟨H3, h3, f3⟩ := rule_ok o (f2.getL e1 (by simp))
  have f13 := f2.trans f3 (by simp)
  have e1' := f13.getL e1 (by simp)
  have e2' := f13.getL e2 (by simp)
  have w3 : mIf (mOr (mNot (mTru (mCall (F__law_same 6) (mCons (mCall F_chains_reach (mCons (mVar 4) mNil)) (mCons (mCall F__law_reach_by_rule (mCons (mVar 3) mNil)) mNil))))) (mB (m2 neD (mVar 4) (mVar 3)))) (mRet (mC (.bl false))) mNext [a, b, c, some (.ref i), some (.ref H.length), x5] H1 = .nx [a, b, c, some (.ref i), some (.ref H.length), x5] H3 := by
    simp [mIf, mOr, mNot, mTru, mCall, mCons, mVar, mNil, h2, h3, same_int, truD, mB, m2, ne_same e2' e1', asB, mNext]
  have t : mB (m2 ltD (mCall (f1 sumD) (mCons (mVar 3) mNil)) (mC (.int 7))) [a, b, c, some (.ref i), some (.ref H.length), x5] H3 = .ok (decide (ns.sum < 7)) H3 := by
    simp [mB, m2, mCall, f1, mCons, mVar, mNil, sum_ok e1', ltD, iOp, mC, asB]
  have f03 := f1'.trans f13 (by simp)
  by_cases hs : ns.sum < 7
  · have hs' : ns.sum ≤ 6 := by omega
    obtain ⟨d, H4, H5, h4, h5, f5⟩ := spanL_ok o hs' e1'
    have e1'' := f5.getL e1' (by simp)
    have e2'' := f5.getL e2' (by simp)
    have w5 : mIf (mB (m2 neD (mCall F__law_span (mCons (mCall F__law_of_sizes (mCons (mVar 3) (mCons (mC (.bl false)) mNil))) mNil)) (mCall F_levels_span (mCons (mVar 4) mNil)))) (mRet (mC (.bl false))) mNext [a, b, c, some (.ref i), some (.ref H.length), x5] H3 = .nx [a, b, c, some (.ref i), some (.ref H.length), x5] H5 := by
      simp [mIf, mB, m2, mCall, mCons, mVar, mNil, mC, h4, h5, levels_ok o e2'', ne_int, asB, mNext]
    obtain ⟨d6, H6, H7, h6, h7, f7⟩ := reachL_ok o hs' e1''
    obtain ⟨H8, h8, f8⟩ := chains_ok o (f7.getL e2'' (by simp))
    have w6 : mIf (mB (m2 neD (mCall F__law_least_reach (mCons (mCall F__law_of_sizes (mCons (mVar 3) (mCons (mC (.bl true)) mNil))) mNil)) (mCall F_chains_reach (mCons (mVar 4) mNil)))) (mRet (mC (.bl false))) mNext [a, b, c, some (.ref i), some (.ref H.length), x5] H5 = .nx [a, b, c, some (.ref i), some (.ref H.length), x5] H8 := by
      simp [mIf, mB, m2, mCall, mCons, mVar, mNil, mC, h6, h7, h8, ne_int, asB, mNext]
    refine ⟨H8, some (.ref H.length), ?_, ((f03.trans f5 (by simp)).trans f7 (by simp)).trans f8 (by simp)⟩
    unfold ib
    rw [seq_nx s1, seq_nx w2, seq_nx w3, if_T (t.trans (by rw [decide_eq_true hs])), seq_nx w5, w6]
  · refine ⟨H3, some (.ref H.length), ?_, f03⟩
    unfold ib
    rw [seq_nx s1, seq_nx w2, seq_nx w3, if_F (t.trans (by rw [decide_eq_false hs]))]
    rfl
end
/-! ### a turn -/
def dispM : M Dv := mLst (mCons (mCall F__law_sizes (mCons (mVar 2) mNil)) (mCons (mCall F__law_great (mCons (mVar 2) mNil)) (mCons (mLst (mCons (mC (.int 1)) mNil)) (mCons (mLst (mCons (m2 powD (mC (.int 10)) (mC (.int 29))) mNil)) mNil))))
theorem turn_eq (scr : List Int) : ml0_b scr = mSeq (mAsg (mCall (F__law_state scr) (mCons (mVar 0) (mCons (mVar 1) mNil))) (sName 2)) (mSeq (mFor (m1s lstD dispM) (sName 3) ib) (mSeq (mAsg (mCall F__law_bad_sizes (mCons (mVar 2) mNil)) (sName 5)) (mSeq (mIf t2M (mRet (mC (.bl false))) mNext) (mIf t3M (mRet (mC (.bl false))) mNext)))) := rfl
theorem disp_ok {ρ : Ev} {st : Nat} {H : Hs} (s : St st H) (hρ : ρ[2]? = some (some (.ref st))) : ∃ (j a b c d : Nat) (n1 n2 n3 n4 : List Int) (H' : Hs), dispM ρ H = .ok (.ref j) H' ∧ getL H' j = some [.ref a, .ref b, .ref c, .ref d] ∧
    getL H' a = some (n1.map Dv.int) ∧ OkN n1 ∧ getL H' b = some (n2.map Dv.int) ∧ OkN n2 ∧ getL H' c = some (n3.map Dv.int) ∧ OkN n3 ∧ getL H' d = some (n4.map Dv.int) ∧ OkN n4 ∧ St st H' := by
  have l0 := s.lt
  obtain ⟨a, n1, H1, h1, e1, o1, f1, s1, g1⟩ := sizes_ok s
  obtain ⟨b, n2, H2, h2, e2, o2, f2, s2, g2⟩ := great_ok s1
  have ea : getL H2 a = some (n1.map Dv.int) := f2.getL e1 (by simp; omega)
  let X : Hs := [.lst [.int 1], .lst [.int 100000000000000000000000000000], .lst [.ref a, .ref b, .ref H2.length, .ref (H2.length + 1)]]
  refine ⟨H2.length + 2, a, b, H2.length, H2.length + 1, n1, n2, [1], [100000000000000000000000000000], H2 ++ X, ?_, by simp [X, getL], keep_app ea, o1, keep_app e2, o2, by simp [X, getL], ⟨by simp, by simp, by simp⟩, by simp [X, getL], ⟨by simp, by simp, by simp⟩, s2.fr (Fr.app (S := [])) (by simp)⟩
  have h1' : mCall F__law_sizes (mCons (mVar 2) mNil) ρ H = .ok (.ref a) H1 := by simp [mCall, mCons, mVar, hρ, mNil, h1]
  have h2' : mCall F__law_great (mCons (mVar 2) mNil) ρ H1 = .ok (.ref b) H2 := by simp [mCall, mCons, mVar, hρ, mNil, h2]
  simp [dispM, mLst, mCons, h1', h2', m2, mC, mNil, lim, powD, iOpC, powB, X]
theorem loop4 {j a b c d : Nat} {n1 n2 n3 n4 : List Int} {H : Hs} (x0 x1 x2 x3 x4 x5 : Option Dv) (ej : getL H j = some [.ref a, .ref b, .ref c, .ref d]) (e1 : getL H a = some (n1.map Dv.int)) (o1 : OkN n1) (e2 : getL H b = some (n2.map Dv.int)) (o2 : OkN n2)
    (e3 : getL H c = some (n3.map Dv.int)) (o3 : OkN n3) (e4 : getL H d = some (n4.map Dv.int)) (o4 : OkN n4) :
    ∃ H' y3 y4, forM (srcR j 4) (sName 3) ib 4 0 [x0, x1, x2, x3, x4, x5] H = .nx [x0, x1, x2, y3, y4, x5] H' ∧ Fr [] H H' := by
  obtain ⟨H1, y1, b1, f1⟩ := ib_ok o1 e1 x0 x1 x2 x4 x5
  obtain ⟨H2, y2, b2, f2⟩ := ib_ok o2 (f1.getL e2 (by simp)) x0 x1 x2 y1 x5
  have f12 := f1.trans f2 (by simp)
  obtain ⟨H3, y3, b3, f3⟩ := ib_ok o3 (f12.getL e3 (by simp)) x0 x1 x2 y2 x5
  have f13 := f12.trans f3 (by simp)
  obtain ⟨H4, y4, b4, f4⟩ := ib_ok o4 (f13.getL e4 (by simp)) x0 x1 x2 y3 x5
  have f14 := f13.trans f4 (by simp)
  have g : ∀ (H' : Hs) (k : Nat), Fr [] H H' → (srcR j 4).get k H' = [Dv.ref a, .ref b, .ref c, .ref d][k]? := fun H' k f => by
    have := f.getL ej (by simp)
    simp [srcR, this]
  refine ⟨H4, some (.ref d), y4, ?_, f14⟩
  rw [for_step (g H 0 Fr.refl) rfl b1, for_step (g H1 1 f1) rfl b2, for_step (g H2 2 f12) rfl b3, for_step (g H3 3 f13) rfl b4]
  have := f14.getL ej (by simp)
  simp [forM, srcR, this]
theorem turn_ok (scr : List Int) (k : Nat) (H : Hs) (x2 x3 x4 x5 : Option Dv) : ∃ H' y2 y3 y4 y5, ml0_b scr [some .scr, some (.int k), x2, x3, x4, x5] H = .nx [some .scr, some (.int k), y2, y3, y4, y5] H' := by
  obtain ⟨H1, h1, f1, s1⟩ := state_ok scr k H
  have w1 : mAsg (mCall (F__law_state scr) (mCons (mVar 0) (mCons (mVar 1) mNil))) (sName 2) [some .scr, some (.int k), x2, x3, x4, x5] H = .nx [some .scr, some (.int k), some (.ref H.length), x3, x4, x5] H1 := by
    simp [mAsg, mCall, mCons, mVar, mNil, h1, sName]
  obtain ⟨j, a, b, c, d, n1, n2, n3, n4, H2, w2, ej, e1, o1, e2, o2, e3, o3, e4, o4, s2⟩ := disp_ok (ρ := [some .scr, some (.int k), some (.ref H.length), x3, x4, x5]) s1 rfl
  obtain ⟨H3, y3, y4, w3, f3⟩ := loop4 (some .scr) (some (.int k)) (some (.ref H.length)) x3 x4 x5 ej e1 o1 e2 o2 e3 o3 e4 o4
  have w4 : m1s lstD dispM [some .scr, some (.int k), some (.ref H.length), x3, x4, x5] H1 = .ok (srcR j 4) H2 := by
    simp [m1s, w2, lstD, ej]
  obtain ⟨q, dd, B, hq, hd, w5⟩ := bad_ok (s2.fr f3 (by simp))
  have w6 : mAsg (mCall F__law_bad_sizes (mCons (mVar 2) mNil)) (sName 5) [some .scr, some (.int k), some (.ref H.length), y3, y4, x5] H3 = .nx [some .scr, some (.int k), some (.ref H.length), y3, y4, some (sh B.length dd)] (B ++ shH B.length menuL) := by
    simp [mAsg, mCall, mCons, mVar, mNil, w5, sName]
  obtain ⟨H4, w7⟩ := tl_ok (a := some .scr) (b := some (.int k)) (c := some (.ref H.length)) (x3 := y3) (x4 := y4) (B := B) hq hd
  exact ⟨H4, _, _, _, _, by rw [turn_eq, seq_nx w1, seq_nx ((for_ok w4).trans w3), seq_nx w6, w7]⟩
theorem loop (scr : List Int) (m : Int) : ∀ (f k : Nat) (H : Hs) (x1 x2 x3 x4 x5 : Option Dv), ∃ ρ' H', forM (srcRng 0 m) (sName 1) (ml0_b scr) f k [some .scr, x1, x2, x3, x4, x5] H = .nx ρ' H'
  | 0, k, H, x1, x2, x3, x4, x5 => ⟨_, H, rfl⟩
  | f + 1, k, H, x1, x2, x3, x4, x5 => by
    obtain ⟨H1, y2, y3, y4, y5, h⟩ := turn_ok scr k H x2 x3 x4 x5
    obtain ⟨ρ', H2, h2⟩ := loop scr m f (k + 1) H1 (some (.int k)) y2 y3 y4 y5
    refine ⟨ρ', H2, ?_⟩
    rw [← h2]
    exact for_step (d := .int k) (ρ1 := [some .scr, some (.int k), x2, x3, x4, x5]) (by simp [srcRng]) rfl h
theorem law_true (scr : List Int) : ∃ hh, F_law scr [.scr] [] = .ok (.bl true) hh := by
  have hi : ∃ m : Int, mas rng1D (mCons (mCall max2F (mCons (mC (.int 1)) (mCons (mCall min2F (mCons (mCall (f1 (lenD scr)) (mCons (mVar 0) mNil)) (mCons (mC (.int 8)) mNil))) mNil))) mNil) [some .scr, none, none, none, none, none] [] = .ok (srcRng 0 m) [] := by
    generalize hz : (if (8 : Int) < scr.length then (8 : Int) else scr.length) = z
    have z0 : 0 ≤ z := by split at hz <;> omega
    have z1 : z ≤ 8 := by split at hz <;> omega
    generalize hm : (if z > (1 : Int) then z else 1) = m
    have m0 : 1 ≤ m := by split at hm <;> omega
    have m1' : m ≤ 8 := by split at hm <;> omega
    have hr : inR m = true := by simp [inR]; omega
    refine ⟨m, ?_⟩
    have e1 : min2F [.int scr.length, .int 8] [] = .ok (.int z) [] := by rw [← hz]; rfl
    have e2 : max2F [.int 1, .int z] [] = .ok (.int m) [] := by rw [← hm]; rfl
    simp [mas, mCons, mCall, mC, mVar, mNil, f1, lenD, seqD, e1, e2, rng1D, hr]
  obtain ⟨m, hi⟩ := hi
  obtain ⟨ρ', H', h⟩ := loop scr m (srcRng 0 m).n 0 [] none none none none none
  refine ⟨H', ?_⟩
  show endOf (mb_law scr [some .scr, none, none, none, none, none] []) = _
  unfold mb_law ml0
  rw [seq_nx ((for_ok hi).trans h)]
  rfl
end L2.Mr.K71
namespace L2.Mr.K71
open PySem PySem.Spec PyProof.Rows L2 L2.Mr
theorem memN : ∀ {l : List (Nat × Bool)} {c : Nat} {b : Bool}, l.lookup c = some b → (c, b) ∈ l
  | [], _, _, h => by simp at h
  | (x, y) :: l, c, b, h => by
    rw [List.lookup_cons] at h
    cases e : c == x with
    | true =>
      rw [e] at h
      have h1 := eq_of_beq e
      have h2 : y = b := Option.some.inj h
      subst h1; subst h2
      exact List.mem_cons_self ..
    | false => rw [e] at h; exact List.mem_cons_of_mem _ (memN h)
theorem bd_is_whole : ∀ (kV doc pm : Value) (an : Option Addr) (cdv ct : Value) (us : List Value), us.length = (["thing"] : List Str).length → bindArgs (PySem.W.fnOf "is_whole" "is_whole" (defArgs s_is_whole) (defBody s_is_whole) (defScope s_is_whole) .none kV doc pm an cdv ct) ⟨us, []⟩ = pure ((["thing"] : List Str).zip us) := fun _ _ _ _ _ _ us hl => match us, hl with
  | [_], _ => rfl
theorem bd_rounded_up : ∀ (kV doc pm : Value) (an : Option Addr) (cdv ct : Value) (us : List Value), us.length = (["number", "by"] : List Str).length → bindArgs (PySem.W.fnOf "rounded_up" "rounded_up" (defArgs s_rounded_up) (defBody s_rounded_up) (defScope s_rounded_up) .none kV doc pm an cdv ct) ⟨us, []⟩ = pure ((["number", "by"] : List Str).zip us) := fun _ _ _ _ _ _ us hl => match us, hl with
  | [_, _], _ => rfl
theorem bd_need_sizes : ∀ (kV doc pm : Value) (an : Option Addr) (cdv ct : Value) (us : List Value), us.length = (["sizes"] : List Str).length → bindArgs (PySem.W.fnOf "need_sizes" "need_sizes" (defArgs s_need_sizes) (defBody s_need_sizes) (defScope s_need_sizes) .none kV doc pm an cdv ct) ⟨us, []⟩ = pure ((["sizes"] : List Str).zip us) := fun _ _ _ _ _ _ us hl => match us, hl with
  | [_], _ => rfl
theorem bd_levels_span : ∀ (kV doc pm : Value) (an : Option Addr) (cdv ct : Value) (us : List Value), us.length = (["sizes"] : List Str).length → bindArgs (PySem.W.fnOf "levels_span" "levels_span" (defArgs s_levels_span) (defBody s_levels_span) (defScope s_levels_span) .none kV doc pm an cdv ct) ⟨us, []⟩ = pure ((["sizes"] : List Str).zip us) := fun _ _ _ _ _ _ us hl => match us, hl with
  | [_], _ => rfl
theorem bd_chains_reach : ∀ (kV doc pm : Value) (an : Option Addr) (cdv ct : Value) (us : List Value), us.length = (["sizes"] : List Str).length → bindArgs (PySem.W.fnOf "chains_reach" "chains_reach" (defArgs s_chains_reach) (defBody s_chains_reach) (defScope s_chains_reach) .none kV doc pm an cdv ct) ⟨us, []⟩ = pure ((["sizes"] : List Str).zip us) := fun _ _ _ _ _ _ us hl => match us, hl with
  | [_], _ => rfl
theorem bd__law_take : ∀ (kV doc pm : Value) (an : Option Addr) (cdv ct : Value) (us : List Value), us.length = (["_law_state_here", "_law_many"] : List Str).length → bindArgs (PySem.W.fnOf "_law_take" "_law_take" (defArgs s__law_take) (defBody s__law_take) (defScope s__law_take) .none kV doc pm an cdv ct) ⟨us, []⟩ = pure ((["_law_state_here", "_law_many"] : List Str).zip us) := fun _ _ _ _ _ _ us hl => match us, hl with
  | [_, _], _ => rfl
theorem bd__law_loose : ∀ (kV doc pm : Value) (an : Option Addr) (cdv ct : Value) (us : List Value), us.length = (["_law_order"] : List Str).length → bindArgs (PySem.W.fnOf "_law_loose" "_law_loose" (defArgs s__law_loose) (defBody s__law_loose) (defScope s__law_loose) .none kV doc pm an cdv ct) ⟨us, []⟩ = pure ((["_law_order"] : List Str).zip us) := fun _ _ _ _ _ _ us hl => match us, hl with
  | [_], _ => rfl
theorem bd__law_cell_at : ∀ (kV doc pm : Value) (an : Option Addr) (cdv ct : Value) (us : List Value), us.length = (["_law_script", "_law_k"] : List Str).length → bindArgs (PySem.W.fnOf "_law_cell_at" "_law_cell_at" (defArgs s__law_cell_at) (defBody s__law_cell_at) (defScope s__law_cell_at) .none kV doc pm an cdv ct) ⟨us, []⟩ = pure ((["_law_script", "_law_k"] : List Str).zip us) := fun _ _ _ _ _ _ us hl => match us, hl with
  | [_, _], _ => rfl
theorem bd__law_state : ∀ (kV doc pm : Value) (an : Option Addr) (cdv ct : Value) (us : List Value), us.length = (["_law_script", "_law_k"] : List Str).length → bindArgs (PySem.W.fnOf "_law_state" "_law_state" (defArgs s__law_state) (defBody s__law_state) (defScope s__law_state) .none kV doc pm an cdv ct) ⟨us, []⟩ = pure ((["_law_script", "_law_k"] : List Str).zip us) := fun _ _ _ _ _ _ us hl => match us, hl with
  | [_, _], _ => rfl
theorem bd__law_sizes : ∀ (kV doc pm : Value) (an : Option Addr) (cdv ct : Value) (us : List Value), us.length = (["_law_state_here"] : List Str).length → bindArgs (PySem.W.fnOf "_law_sizes" "_law_sizes" (defArgs s__law_sizes) (defBody s__law_sizes) (defScope s__law_sizes) .none kV doc pm an cdv ct) ⟨us, []⟩ = pure ((["_law_state_here"] : List Str).zip us) := fun _ _ _ _ _ _ us hl => match us, hl with
  | [_], _ => rfl
theorem bd__law_same : ∀ (kV doc pm : Value) (an : Option Addr) (cdv ct : Value) (us : List Value), us.length = (["_law_found", "_law_due"] : List Str).length → bindArgs (PySem.W.fnOf "_law_same" "_law_same" (defArgs s__law_same) (defBody s__law_same) (defScope s__law_same) .none kV doc pm an cdv ct) ⟨us, []⟩ = pure ((["_law_found", "_law_due"] : List Str).zip us) := fun _ _ _ _ _ _ us hl => match us, hl with
  | [_, _], _ => rfl
theorem bd__law_numbered : ∀ (kV doc pm : Value) (an : Option Addr) (cdv ct : Value) (us : List Value), us.length = (["_law_sizes_here"] : List Str).length → bindArgs (PySem.W.fnOf "_law_numbered" "_law_numbered" (defArgs s__law_numbered) (defBody s__law_numbered) (defScope s__law_numbered) .none kV doc pm an cdv ct) ⟨us, []⟩ = pure ((["_law_sizes_here"] : List Str).zip us) := fun _ _ _ _ _ _ us hl => match us, hl with
  | [_], _ => rfl
theorem bd__law_of_sizes : ∀ (kV doc pm : Value) (an : Option Addr) (cdv ct : Value) (us : List Value), us.length = (["_law_sizes_here", "_law_chains"] : List Str).length → bindArgs (PySem.W.fnOf "_law_of_sizes" "_law_of_sizes" (defArgs s__law_of_sizes) (defBody s__law_of_sizes) (defScope s__law_of_sizes) .none kV doc pm an cdv ct) ⟨us, []⟩ = pure ((["_law_sizes_here", "_law_chains"] : List Str).zip us) := fun _ _ _ _ _ _ us hl => match us, hl with
  | [_, _], _ => rfl
theorem bd__law_least_with : ∀ (kV doc pm : Value) (an : Option Addr) (cdv ct : Value) (us : List Value), us.length = (["_law_order", "_law_reach"] : List Str).length → bindArgs (PySem.W.fnOf "_law_least_with" "_law_least_with" (defArgs s__law_least_with) (defBody s__law_least_with) (defScope s__law_least_with) .none kV doc pm an cdv ct) ⟨us, []⟩ = pure ((["_law_order", "_law_reach"] : List Str).zip us) := fun _ _ _ _ _ _ us hl => match us, hl with
  | [_, _], _ => rfl
theorem bd__law_least_reach : ∀ (kV doc pm : Value) (an : Option Addr) (cdv ct : Value) (us : List Value), us.length = (["_law_order"] : List Str).length → bindArgs (PySem.W.fnOf "_law_least_reach" "_law_least_reach" (defArgs s__law_least_reach) (defBody s__law_least_reach) (defScope s__law_least_reach) .none kV doc pm an cdv ct) ⟨us, []⟩ = pure ((["_law_order"] : List Str).zip us) := fun _ _ _ _ _ _ us hl => match us, hl with
  | [_], _ => rfl
theorem bd__law_bad_sizes : ∀ (kV doc pm : Value) (an : Option Addr) (cdv ct : Value) (us : List Value), us.length = (["_law_state_here"] : List Str).length → bindArgs (PySem.W.fnOf "_law_bad_sizes" "_law_bad_sizes" (defArgs s__law_bad_sizes) (defBody s__law_bad_sizes) (defScope s__law_bad_sizes) .none kV doc pm an cdv ct) ⟨us, []⟩ = pure ((["_law_state_here"] : List Str).zip us) := fun _ _ _ _ _ _ us hl => match us, hl with
  | [_], _ => rfl
theorem bd__law_refused : ∀ (kV doc pm : Value) (an : Option Addr) (cdv ct : Value) (us : List Value), us.length = (["_law_call"] : List Str).length → bindArgs (PySem.W.fnOf "_law_refused" "_law_refused" (defArgs s__law_refused) (defBody s__law_refused) (defScope s__law_refused) .none kV doc pm an cdv ct) ⟨us, []⟩ = pure ((["_law_call"] : List Str).zip us) := fun _ _ _ _ _ _ us hl => match us, hl with
  | [_], _ => rfl
theorem bd__law_great : ∀ (kV doc pm : Value) (an : Option Addr) (cdv ct : Value) (us : List Value), us.length = (["_law_state_here"] : List Str).length → bindArgs (PySem.W.fnOf "_law_great" "_law_great" (defArgs s__law_great) (defBody s__law_great) (defScope s__law_great) .none kV doc pm an cdv ct) ⟨us, []⟩ = pure ((["_law_state_here"] : List Str).zip us) := fun _ _ _ _ _ _ us hl => match us, hl with
  | [_], _ => rfl
theorem bd__law_rows : ∀ (kV doc pm : Value) (an : Option Addr) (cdv ct : Value) (us : List Value), us.length = (["_law_order"] : List Str).length → bindArgs (PySem.W.fnOf "_law_rows" "_law_rows" (defArgs s__law_rows) (defBody s__law_rows) (defScope s__law_rows) .none kV doc pm an cdv ct) ⟨us, []⟩ = pure ((["_law_order"] : List Str).zip us) := fun _ _ _ _ _ _ us hl => match us, hl with
  | [_], _ => rfl
theorem bd__law_span : ∀ (kV doc pm : Value) (an : Option Addr) (cdv ct : Value) (us : List Value), us.length = (["_law_order"] : List Str).length → bindArgs (PySem.W.fnOf "_law_span" "_law_span" (defArgs s__law_span) (defBody s__law_span) (defScope s__law_span) .none kV doc pm an cdv ct) ⟨us, []⟩ = pure ((["_law_order"] : List Str).zip us) := fun _ _ _ _ _ _ us hl => match us, hl with
  | [_], _ => rfl
theorem bd__law_reach_by_rule : ∀ (kV doc pm : Value) (an : Option Addr) (cdv ct : Value) (us : List Value), us.length = (["_law_sizes_here"] : List Str).length → bindArgs (PySem.W.fnOf "_law_reach_by_rule" "_law_reach_by_rule" (defArgs s__law_reach_by_rule) (defBody s__law_reach_by_rule) (defScope s__law_reach_by_rule) .none kV doc pm an cdv ct) ⟨us, []⟩ = pure ((["_law_sizes_here"] : List Str).zip us) := fun _ _ _ _ _ _ us hl => match us, hl with
  | [_], _ => rfl
theorem bd_law : ∀ (kV doc pm : Value) (an : Option Addr) (cdv ct : Value) (us : List Value), us.length = (["_law_script"] : List Str).length → bindArgs (PySem.W.fnOf "law" "law" (defArgs s_law) (defBody s_law) (defScope s_law) .none kV doc pm an cdv ct) ⟨us, []⟩ = pure ((["_law_script"] : List Str).zip us) := fun _ _ _ _ _ _ us hl => match us, hl with
  | [_], _ => rfl
theorem all_mk {l : PySem.W.OpenLaw} {w : World} {K : PySem.W.Frag} {h : Heap} {mg : Str → Option Value} {fa : Addr} {cc PP NE : Addr} {tu1 : Value} {tu3 : Option Addr} {tvs : Array Value} {tu4 : Array (Option Value)} {f_is_whole : Addr} {od_is_whole an_is_whole : Option Addr} {sl_is_whole : Array (Option Value)} {oc_is_whole kV_is_whole dc_is_whole pm_is_whole cd_is_whole ct_is_whole : Value} {f_rounded_up : Addr} {od_rounded_up an_rounded_up : Option Addr} {sl_rounded_up : Array (Option Value)} {oc_rounded_up kV_rounded_up dc_rounded_up pm_rounded_up cd_rounded_up ct_rounded_up : Value} {f_need_sizes : Addr} {od_need_sizes an_need_sizes : Option Addr} {sl_need_sizes : Array (Option Value)} {oc_need_sizes kV_need_sizes dc_need_sizes pm_need_sizes cd_need_sizes ct_need_sizes : Value} {f_levels_span : Addr} {od_levels_span an_levels_span : Option Addr} {sl_levels_span : Array (Option Value)} {oc_levels_span kV_levels_span dc_levels_span pm_levels_span cd_levels_span ct_levels_span : Value} {f_chains_reach : Addr} {od_chains_reach an_chains_reach : Option Addr} {sl_chains_reach : Array (Option Value)} {oc_chains_reach kV_chains_reach dc_chains_reach pm_chains_reach cd_chains_reach ct_chains_reach : Value} {f__law_take : Addr} {od__law_take an__law_take : Option Addr} {sl__law_take : Array (Option Value)} {oc__law_take kV__law_take dc__law_take pm__law_take cd__law_take ct__law_take : Value} {f__law_loose : Addr} {od__law_loose an__law_loose : Option Addr} {sl__law_loose : Array (Option Value)} {oc__law_loose kV__law_loose dc__law_loose pm__law_loose cd__law_loose ct__law_loose : Value} {f__law_cell_at : Addr} {od__law_cell_at an__law_cell_at : Option Addr} {sl__law_cell_at : Array (Option Value)} {oc__law_cell_at kV__law_cell_at dc__law_cell_at pm__law_cell_at cd__law_cell_at ct__law_cell_at : Value} {f__law_state : Addr} {od__law_state an__law_state : Option Addr} {sl__law_state : Array (Option Value)} {oc__law_state kV__law_state dc__law_state pm__law_state cd__law_state ct__law_state : Value} {f__law_sizes : Addr} {od__law_sizes an__law_sizes : Option Addr} {sl__law_sizes : Array (Option Value)} {oc__law_sizes kV__law_sizes dc__law_sizes pm__law_sizes cd__law_sizes ct__law_sizes : Value} {f__law_same : Addr} {od__law_same an__law_same : Option Addr} {sl__law_same : Array (Option Value)} {oc__law_same kV__law_same dc__law_same pm__law_same cd__law_same ct__law_same : Value} {f__law_numbered : Addr} {od__law_numbered an__law_numbered : Option Addr} {sl__law_numbered : Array (Option Value)} {oc__law_numbered kV__law_numbered dc__law_numbered pm__law_numbered cd__law_numbered ct__law_numbered : Value} {f__law_of_sizes : Addr} {od__law_of_sizes an__law_of_sizes : Option Addr} {sl__law_of_sizes : Array (Option Value)} {oc__law_of_sizes kV__law_of_sizes dc__law_of_sizes pm__law_of_sizes cd__law_of_sizes ct__law_of_sizes : Value} {f__law_least_with : Addr} {od__law_least_with an__law_least_with : Option Addr} {sl__law_least_with : Array (Option Value)} {oc__law_least_with kV__law_least_with dc__law_least_with pm__law_least_with cd__law_least_with ct__law_least_with : Value} {f__law_least_reach : Addr} {od__law_least_reach an__law_least_reach : Option Addr} {sl__law_least_reach : Array (Option Value)} {oc__law_least_reach kV__law_least_reach dc__law_least_reach pm__law_least_reach cd__law_least_reach ct__law_least_reach : Value} {f__law_bad_sizes : Addr} {od__law_bad_sizes an__law_bad_sizes : Option Addr} {sl__law_bad_sizes : Array (Option Value)} {oc__law_bad_sizes kV__law_bad_sizes dc__law_bad_sizes pm__law_bad_sizes cd__law_bad_sizes ct__law_bad_sizes : Value} {f__law_refused : Addr} {od__law_refused an__law_refused : Option Addr} {sl__law_refused : Array (Option Value)} {oc__law_refused kV__law_refused dc__law_refused pm__law_refused cd__law_refused ct__law_refused : Value} {f__law_great : Addr} {od__law_great an__law_great : Option Addr} {sl__law_great : Array (Option Value)} {oc__law_great kV__law_great dc__law_great pm__law_great cd__law_great ct__law_great : Value} {f__law_rows : Addr} {od__law_rows an__law_rows : Option Addr} {sl__law_rows : Array (Option Value)} {oc__law_rows kV__law_rows dc__law_rows pm__law_rows cd__law_rows ct__law_rows : Value} {f__law_span : Addr} {od__law_span an__law_span : Option Addr} {sl__law_span : Array (Option Value)} {oc__law_span kV__law_span dc__law_span pm__law_span cd__law_span ct__law_span : Value} {f__law_reach_by_rule : Addr} {od__law_reach_by_rule an__law_reach_by_rule : Option Addr} {sl__law_reach_by_rule : Array (Option Value)} {oc__law_reach_by_rule kV__law_reach_by_rule dc__law_reach_by_rule pm__law_reach_by_rule cd__law_reach_by_rule ct__law_reach_by_rule : Value} {f_law : Addr} {od_law an_law : Option Addr} {sl_law : Array (Option Value)} {oc_law kV_law dc_law pm_law  ct_law : Value} {t_MOST_SIZES : Tok} {q_NoOrder : Addr} {q_NoNumber : Addr} {q_NoPairs : Addr} {q_Round : Addr} {q_NoThing : Addr} {q_NoRow : Addr} {q_TooMany : Addr} {q_TooFew : Addr} {q_NoText : Addr} {q_NoLine : Addr} {q_NoDeed : Addr} {q_NoSeating : Addr} {q_NoRing : Addr} {q_NoSizes : Addr} {lo_NoSizes : Value} {ld_NoSizes : Option Addr} {lc_NoSizes : ClassData} {ls_NoSizes : Array (Option Value)} (X : K.In h) (G : h.Ns mainGlobals mg) (hfa : mg "law" = some (.ref fa))
    (n_a : PySem.W.nsIn K mainGlobals "NearError" = some (some (.ref NE)))
    (a_is_whole : PySem.W.nsIn K mainGlobals "is_whole" = some (some (.ref f_is_whole)))
    (l_is_whole : K.lookup f_is_whole = some ⟨oc_is_whole, od_is_whole, .func (PySem.W.fnOf "is_whole" "is_whole" (defArgs s_is_whole) (defBody s_is_whole) (defScope s_is_whole) .none kV_is_whole dc_is_whole pm_is_whole an_is_whole cd_is_whole ct_is_whole), sl_is_whole⟩)
    (c_is_whole : PySem.W.codeIn K cd_is_whole "is_whole" = true)
    (k_is_whole : PySem.W.keepIn K (.ref f_is_whole) = true)
    (a_rounded_up : PySem.W.nsIn K mainGlobals "rounded_up" = some (some (.ref f_rounded_up)))
    (l_rounded_up : K.lookup f_rounded_up = some ⟨oc_rounded_up, od_rounded_up, .func (PySem.W.fnOf "rounded_up" "rounded_up" (defArgs s_rounded_up) (defBody s_rounded_up) (defScope s_rounded_up) .none kV_rounded_up dc_rounded_up pm_rounded_up an_rounded_up cd_rounded_up ct_rounded_up), sl_rounded_up⟩)
    (c_rounded_up : PySem.W.codeIn K cd_rounded_up "rounded_up" = true)
    (k_rounded_up : PySem.W.keepIn K (.ref f_rounded_up) = true)
    (a_need_sizes : PySem.W.nsIn K mainGlobals "need_sizes" = some (some (.ref f_need_sizes)))
    (l_need_sizes : K.lookup f_need_sizes = some ⟨oc_need_sizes, od_need_sizes, .func (PySem.W.fnOf "need_sizes" "need_sizes" (defArgs s_need_sizes) (defBody s_need_sizes) (defScope s_need_sizes) .none kV_need_sizes dc_need_sizes pm_need_sizes an_need_sizes cd_need_sizes ct_need_sizes), sl_need_sizes⟩)
    (c_need_sizes : PySem.W.codeIn K cd_need_sizes "need_sizes" = true)
    (k_need_sizes : PySem.W.keepIn K (.ref f_need_sizes) = true)
    (a_levels_span : PySem.W.nsIn K mainGlobals "levels_span" = some (some (.ref f_levels_span)))
    (l_levels_span : K.lookup f_levels_span = some ⟨oc_levels_span, od_levels_span, .func (PySem.W.fnOf "levels_span" "levels_span" (defArgs s_levels_span) (defBody s_levels_span) (defScope s_levels_span) .none kV_levels_span dc_levels_span pm_levels_span an_levels_span cd_levels_span ct_levels_span), sl_levels_span⟩)
    (c_levels_span : PySem.W.codeIn K cd_levels_span "levels_span" = true)
    (k_levels_span : PySem.W.keepIn K (.ref f_levels_span) = true)
    (a_chains_reach : PySem.W.nsIn K mainGlobals "chains_reach" = some (some (.ref f_chains_reach)))
    (l_chains_reach : K.lookup f_chains_reach = some ⟨oc_chains_reach, od_chains_reach, .func (PySem.W.fnOf "chains_reach" "chains_reach" (defArgs s_chains_reach) (defBody s_chains_reach) (defScope s_chains_reach) .none kV_chains_reach dc_chains_reach pm_chains_reach an_chains_reach cd_chains_reach ct_chains_reach), sl_chains_reach⟩)
    (c_chains_reach : PySem.W.codeIn K cd_chains_reach "chains_reach" = true)
    (k_chains_reach : PySem.W.keepIn K (.ref f_chains_reach) = true)
    (a__law_take : PySem.W.nsIn K mainGlobals "_law_take" = some (some (.ref f__law_take)))
    (l__law_take : K.lookup f__law_take = some ⟨oc__law_take, od__law_take, .func (PySem.W.fnOf "_law_take" "_law_take" (defArgs s__law_take) (defBody s__law_take) (defScope s__law_take) .none kV__law_take dc__law_take pm__law_take an__law_take cd__law_take ct__law_take), sl__law_take⟩)
    (c__law_take : PySem.W.codeIn K cd__law_take "_law_take" = true)
    (k__law_take : PySem.W.keepIn K (.ref f__law_take) = true)
    (a__law_loose : PySem.W.nsIn K mainGlobals "_law_loose" = some (some (.ref f__law_loose)))
    (l__law_loose : K.lookup f__law_loose = some ⟨oc__law_loose, od__law_loose, .func (PySem.W.fnOf "_law_loose" "_law_loose" (defArgs s__law_loose) (defBody s__law_loose) (defScope s__law_loose) .none kV__law_loose dc__law_loose pm__law_loose an__law_loose cd__law_loose ct__law_loose), sl__law_loose⟩)
    (c__law_loose : PySem.W.codeIn K cd__law_loose "_law_loose" = true)
    (k__law_loose : PySem.W.keepIn K (.ref f__law_loose) = true)
    (a__law_cell_at : PySem.W.nsIn K mainGlobals "_law_cell_at" = some (some (.ref f__law_cell_at)))
    (l__law_cell_at : K.lookup f__law_cell_at = some ⟨oc__law_cell_at, od__law_cell_at, .func (PySem.W.fnOf "_law_cell_at" "_law_cell_at" (defArgs s__law_cell_at) (defBody s__law_cell_at) (defScope s__law_cell_at) .none kV__law_cell_at dc__law_cell_at pm__law_cell_at an__law_cell_at cd__law_cell_at ct__law_cell_at), sl__law_cell_at⟩)
    (c__law_cell_at : PySem.W.codeIn K cd__law_cell_at "_law_cell_at" = true)
    (k__law_cell_at : PySem.W.keepIn K (.ref f__law_cell_at) = true)
    (a__law_state : PySem.W.nsIn K mainGlobals "_law_state" = some (some (.ref f__law_state)))
    (l__law_state : K.lookup f__law_state = some ⟨oc__law_state, od__law_state, .func (PySem.W.fnOf "_law_state" "_law_state" (defArgs s__law_state) (defBody s__law_state) (defScope s__law_state) .none kV__law_state dc__law_state pm__law_state an__law_state cd__law_state ct__law_state), sl__law_state⟩)
    (c__law_state : PySem.W.codeIn K cd__law_state "_law_state" = true)
    (k__law_state : PySem.W.keepIn K (.ref f__law_state) = true)
    (a__law_sizes : PySem.W.nsIn K mainGlobals "_law_sizes" = some (some (.ref f__law_sizes)))
    (l__law_sizes : K.lookup f__law_sizes = some ⟨oc__law_sizes, od__law_sizes, .func (PySem.W.fnOf "_law_sizes" "_law_sizes" (defArgs s__law_sizes) (defBody s__law_sizes) (defScope s__law_sizes) .none kV__law_sizes dc__law_sizes pm__law_sizes an__law_sizes cd__law_sizes ct__law_sizes), sl__law_sizes⟩)
    (c__law_sizes : PySem.W.codeIn K cd__law_sizes "_law_sizes" = true)
    (k__law_sizes : PySem.W.keepIn K (.ref f__law_sizes) = true)
    (a__law_same : PySem.W.nsIn K mainGlobals "_law_same" = some (some (.ref f__law_same)))
    (l__law_same : K.lookup f__law_same = some ⟨oc__law_same, od__law_same, .func (PySem.W.fnOf "_law_same" "_law_same" (defArgs s__law_same) (defBody s__law_same) (defScope s__law_same) .none kV__law_same dc__law_same pm__law_same an__law_same cd__law_same ct__law_same), sl__law_same⟩)
    (c__law_same : PySem.W.codeIn K cd__law_same "_law_same" = true)
    (k__law_same : PySem.W.keepIn K (.ref f__law_same) = true)
    (a__law_numbered : PySem.W.nsIn K mainGlobals "_law_numbered" = some (some (.ref f__law_numbered)))
    (l__law_numbered : K.lookup f__law_numbered = some ⟨oc__law_numbered, od__law_numbered, .func (PySem.W.fnOf "_law_numbered" "_law_numbered" (defArgs s__law_numbered) (defBody s__law_numbered) (defScope s__law_numbered) .none kV__law_numbered dc__law_numbered pm__law_numbered an__law_numbered cd__law_numbered ct__law_numbered), sl__law_numbered⟩)
    (c__law_numbered : PySem.W.codeIn K cd__law_numbered "_law_numbered" = true)
    (k__law_numbered : PySem.W.keepIn K (.ref f__law_numbered) = true)
    (a__law_of_sizes : PySem.W.nsIn K mainGlobals "_law_of_sizes" = some (some (.ref f__law_of_sizes)))
    (l__law_of_sizes : K.lookup f__law_of_sizes = some ⟨oc__law_of_sizes, od__law_of_sizes, .func (PySem.W.fnOf "_law_of_sizes" "_law_of_sizes" (defArgs s__law_of_sizes) (defBody s__law_of_sizes) (defScope s__law_of_sizes) .none kV__law_of_sizes dc__law_of_sizes pm__law_of_sizes an__law_of_sizes cd__law_of_sizes ct__law_of_sizes), sl__law_of_sizes⟩)
    (c__law_of_sizes : PySem.W.codeIn K cd__law_of_sizes "_law_of_sizes" = true)
    (k__law_of_sizes : PySem.W.keepIn K (.ref f__law_of_sizes) = true)
    (a__law_least_with : PySem.W.nsIn K mainGlobals "_law_least_with" = some (some (.ref f__law_least_with)))
    (l__law_least_with : K.lookup f__law_least_with = some ⟨oc__law_least_with, od__law_least_with, .func (PySem.W.fnOf "_law_least_with" "_law_least_with" (defArgs s__law_least_with) (defBody s__law_least_with) (defScope s__law_least_with) .none kV__law_least_with dc__law_least_with pm__law_least_with an__law_least_with cd__law_least_with ct__law_least_with), sl__law_least_with⟩)
    (c__law_least_with : PySem.W.codeIn K cd__law_least_with "_law_least_with" = true)
    (k__law_least_with : PySem.W.keepIn K (.ref f__law_least_with) = true)
    (a__law_least_reach : PySem.W.nsIn K mainGlobals "_law_least_reach" = some (some (.ref f__law_least_reach)))
    (l__law_least_reach : K.lookup f__law_least_reach = some ⟨oc__law_least_reach, od__law_least_reach, .func (PySem.W.fnOf "_law_least_reach" "_law_least_reach" (defArgs s__law_least_reach) (defBody s__law_least_reach) (defScope s__law_least_reach) .none kV__law_least_reach dc__law_least_reach pm__law_least_reach an__law_least_reach cd__law_least_reach ct__law_least_reach), sl__law_least_reach⟩)
    (c__law_least_reach : PySem.W.codeIn K cd__law_least_reach "_law_least_reach" = true)
    (k__law_least_reach : PySem.W.keepIn K (.ref f__law_least_reach) = true)
    (a__law_bad_sizes : PySem.W.nsIn K mainGlobals "_law_bad_sizes" = some (some (.ref f__law_bad_sizes)))
    (l__law_bad_sizes : K.lookup f__law_bad_sizes = some ⟨oc__law_bad_sizes, od__law_bad_sizes, .func (PySem.W.fnOf "_law_bad_sizes" "_law_bad_sizes" (defArgs s__law_bad_sizes) (defBody s__law_bad_sizes) (defScope s__law_bad_sizes) .none kV__law_bad_sizes dc__law_bad_sizes pm__law_bad_sizes an__law_bad_sizes cd__law_bad_sizes ct__law_bad_sizes), sl__law_bad_sizes⟩)
    (c__law_bad_sizes : PySem.W.codeIn K cd__law_bad_sizes "_law_bad_sizes" = true)
    (k__law_bad_sizes : PySem.W.keepIn K (.ref f__law_bad_sizes) = true)
    (a__law_refused : PySem.W.nsIn K mainGlobals "_law_refused" = some (some (.ref f__law_refused)))
    (l__law_refused : K.lookup f__law_refused = some ⟨oc__law_refused, od__law_refused, .func (PySem.W.fnOf "_law_refused" "_law_refused" (defArgs s__law_refused) (defBody s__law_refused) (defScope s__law_refused) .none kV__law_refused dc__law_refused pm__law_refused an__law_refused cd__law_refused ct__law_refused), sl__law_refused⟩)
    (c__law_refused : PySem.W.codeIn K cd__law_refused "_law_refused" = true)
    (k__law_refused : PySem.W.keepIn K (.ref f__law_refused) = true)
    (a__law_great : PySem.W.nsIn K mainGlobals "_law_great" = some (some (.ref f__law_great)))
    (l__law_great : K.lookup f__law_great = some ⟨oc__law_great, od__law_great, .func (PySem.W.fnOf "_law_great" "_law_great" (defArgs s__law_great) (defBody s__law_great) (defScope s__law_great) .none kV__law_great dc__law_great pm__law_great an__law_great cd__law_great ct__law_great), sl__law_great⟩)
    (c__law_great : PySem.W.codeIn K cd__law_great "_law_great" = true)
    (k__law_great : PySem.W.keepIn K (.ref f__law_great) = true)
    (a__law_rows : PySem.W.nsIn K mainGlobals "_law_rows" = some (some (.ref f__law_rows)))
    (l__law_rows : K.lookup f__law_rows = some ⟨oc__law_rows, od__law_rows, .func (PySem.W.fnOf "_law_rows" "_law_rows" (defArgs s__law_rows) (defBody s__law_rows) (defScope s__law_rows) .none kV__law_rows dc__law_rows pm__law_rows an__law_rows cd__law_rows ct__law_rows), sl__law_rows⟩)
    (c__law_rows : PySem.W.codeIn K cd__law_rows "_law_rows" = true)
    (k__law_rows : PySem.W.keepIn K (.ref f__law_rows) = true)
    (a__law_span : PySem.W.nsIn K mainGlobals "_law_span" = some (some (.ref f__law_span)))
    (l__law_span : K.lookup f__law_span = some ⟨oc__law_span, od__law_span, .func (PySem.W.fnOf "_law_span" "_law_span" (defArgs s__law_span) (defBody s__law_span) (defScope s__law_span) .none kV__law_span dc__law_span pm__law_span an__law_span cd__law_span ct__law_span), sl__law_span⟩)
    (c__law_span : PySem.W.codeIn K cd__law_span "_law_span" = true)
    (k__law_span : PySem.W.keepIn K (.ref f__law_span) = true)
    (a__law_reach_by_rule : PySem.W.nsIn K mainGlobals "_law_reach_by_rule" = some (some (.ref f__law_reach_by_rule)))
    (l__law_reach_by_rule : K.lookup f__law_reach_by_rule = some ⟨oc__law_reach_by_rule, od__law_reach_by_rule, .func (PySem.W.fnOf "_law_reach_by_rule" "_law_reach_by_rule" (defArgs s__law_reach_by_rule) (defBody s__law_reach_by_rule) (defScope s__law_reach_by_rule) .none kV__law_reach_by_rule dc__law_reach_by_rule pm__law_reach_by_rule an__law_reach_by_rule cd__law_reach_by_rule ct__law_reach_by_rule), sl__law_reach_by_rule⟩)
    (c__law_reach_by_rule : PySem.W.codeIn K cd__law_reach_by_rule "_law_reach_by_rule" = true)
    (k__law_reach_by_rule : PySem.W.keepIn K (.ref f__law_reach_by_rule) = true)
    (a_law : PySem.W.nsIn K mainGlobals "law" = some (some (.ref f_law)))
    (l_law : K.lookup f_law = some ⟨oc_law, od_law, .func (PySem.W.fnOf "law" "law" (defArgs s_law) (defBody s_law) (defScope s_law) .none kV_law dc_law pm_law an_law (.ref cc) ct_law), sl_law⟩)
    (c_law : PySem.W.codeIn K (.ref cc) "law" = true)
    (k_law : PySem.W.keepIn K (.ref f_law) = true)
    (z_ValueError : PySem.W.nsIn K mainGlobals "ValueError" = some none)
    (z_abs : PySem.W.nsIn K mainGlobals "abs" = some none)
    (z_all : PySem.W.nsIn K mainGlobals "all" = some none)
    (z_bool : PySem.W.nsIn K mainGlobals "bool" = some none)
    (z_int : PySem.W.nsIn K mainGlobals "int" = some none)
    (z_isinstance : PySem.W.nsIn K mainGlobals "isinstance" = some none)
    (z_len : PySem.W.nsIn K mainGlobals "len" = some none)
    (z_list : PySem.W.nsIn K mainGlobals "list" = some none)
    (z_max : PySem.W.nsIn K mainGlobals "max" = some none)
    (z_min : PySem.W.nsIn K mainGlobals "min" = some none)
    (z_range : PySem.W.nsIn K mainGlobals "range" = some none)
    (z_sorted : PySem.W.nsIn K mainGlobals "sorted" = some none)
    (z_sum : PySem.W.nsIn K mainGlobals "sum" = some none)
    (z_tuple : PySem.W.nsIn K mainGlobals "tuple" = some none)
    (z_zip : PySem.W.nsIn K mainGlobals "zip" = some none)
    (g_MOST_SIZES : PySem.W.nsIn K mainGlobals "MOST_SIZES" = some (some (.int 6 t_MOST_SIZES)))
    (q_a_NoOrder : PySem.W.nsIn K mainGlobals "NoOrder" = some (some (.ref q_NoOrder)))
    (q_s_NoOrder : PySem.W.subIn K (.ref q_NoOrder) (.ref NE) = some true)
    (q_a_NoNumber : PySem.W.nsIn K mainGlobals "NoNumber" = some (some (.ref q_NoNumber)))
    (q_s_NoNumber : PySem.W.subIn K (.ref q_NoNumber) (.ref NE) = some true)
    (q_a_NoPairs : PySem.W.nsIn K mainGlobals "NoPairs" = some (some (.ref q_NoPairs)))
    (q_s_NoPairs : PySem.W.subIn K (.ref q_NoPairs) (.ref NE) = some true)
    (q_a_Round : PySem.W.nsIn K mainGlobals "Round" = some (some (.ref q_Round)))
    (q_s_Round : PySem.W.subIn K (.ref q_Round) (.ref NE) = some true)
    (q_a_NoThing : PySem.W.nsIn K mainGlobals "NoThing" = some (some (.ref q_NoThing)))
    (q_s_NoThing : PySem.W.subIn K (.ref q_NoThing) (.ref NE) = some true)
    (q_a_NoRow : PySem.W.nsIn K mainGlobals "NoRow" = some (some (.ref q_NoRow)))
    (q_s_NoRow : PySem.W.subIn K (.ref q_NoRow) (.ref NE) = some true)
    (q_a_TooMany : PySem.W.nsIn K mainGlobals "TooMany" = some (some (.ref q_TooMany)))
    (q_s_TooMany : PySem.W.subIn K (.ref q_TooMany) (.ref NE) = some true)
    (q_a_TooFew : PySem.W.nsIn K mainGlobals "TooFew" = some (some (.ref q_TooFew)))
    (q_s_TooFew : PySem.W.subIn K (.ref q_TooFew) (.ref NE) = some true)
    (q_a_NoText : PySem.W.nsIn K mainGlobals "NoText" = some (some (.ref q_NoText)))
    (q_s_NoText : PySem.W.subIn K (.ref q_NoText) (.ref NE) = some true)
    (q_a_NoLine : PySem.W.nsIn K mainGlobals "NoLine" = some (some (.ref q_NoLine)))
    (q_s_NoLine : PySem.W.subIn K (.ref q_NoLine) (.ref NE) = some true)
    (q_a_NoDeed : PySem.W.nsIn K mainGlobals "NoDeed" = some (some (.ref q_NoDeed)))
    (q_s_NoDeed : PySem.W.subIn K (.ref q_NoDeed) (.ref NE) = some true)
    (q_a_NoSeating : PySem.W.nsIn K mainGlobals "NoSeating" = some (some (.ref q_NoSeating)))
    (q_s_NoSeating : PySem.W.subIn K (.ref q_NoSeating) (.ref NE) = some true)
    (q_a_NoRing : PySem.W.nsIn K mainGlobals "NoRing" = some (some (.ref q_NoRing)))
    (q_s_NoRing : PySem.W.subIn K (.ref q_NoRing) (.ref NE) = some true)
    (q_a_NoSizes : PySem.W.nsIn K mainGlobals "NoSizes" = some (some (.ref q_NoSizes)))
    (q_s_NoSizes : PySem.W.subIn K (.ref q_NoSizes) (.ref NE) = some true)
    (q_x_NoSizes : PySem.W.excIn K q_NoSizes bmV "ValueError.__new__" = true)
    (q_1_NoSizes : PySem.W.findIn K (.ref q_NoSizes) "__getattribute__" = some (some (.builtin "BaseException.__getattribute__")))
    (q_2_NoSizes : PySem.W.findIn K (.ref q_NoSizes) "__getattr__" = some none)
    (q_3_NoSizes : PySem.W.findIn K (.ref q_NoSizes) "__class__" = some (some (.builtin "object.__class__")))
    (q_4_NoSizes : PySem.W.mroIn K q_NoSizes (.type "object") = some true)
    (q_5_NoSizes : PySem.W.subIn K (.ref q_NoSizes) (.type "BaseException") = some true)
    (q_6_NoSizes : PySem.W.kitCls K (.ref q_NoSizes) (.ref q_NoSizes) = some true)
    (q_7_NoSizes : K.lookup q_NoSizes = some ⟨lo_NoSizes, ld_NoSizes, .cls lc_NoSizes, ls_NoSizes⟩)
    (q_v_NoSizes : PySem.W.kitOne K (.ref q_NoSizes) (.type "ValueError") = some true)
    (q_k_NoSizes_NoOrder : PySem.W.kitOne K (.ref q_NoSizes) (.ref q_NoOrder) = some false)
    (q_k_NoSizes_NoNumber : PySem.W.kitOne K (.ref q_NoSizes) (.ref q_NoNumber) = some false)
    (q_k_NoSizes_NoPairs : PySem.W.kitOne K (.ref q_NoSizes) (.ref q_NoPairs) = some false)
    (q_k_NoSizes_Round : PySem.W.kitOne K (.ref q_NoSizes) (.ref q_Round) = some false)
    (q_k_NoSizes_NoThing : PySem.W.kitOne K (.ref q_NoSizes) (.ref q_NoThing) = some false)
    (q_k_NoSizes_NoRow : PySem.W.kitOne K (.ref q_NoSizes) (.ref q_NoRow) = some false)
    (q_k_NoSizes_TooMany : PySem.W.kitOne K (.ref q_NoSizes) (.ref q_TooMany) = some false)
    (q_k_NoSizes_TooFew : PySem.W.kitOne K (.ref q_NoSizes) (.ref q_TooFew) = some false)
    (q_k_NoSizes_NoText : PySem.W.kitOne K (.ref q_NoSizes) (.ref q_NoText) = some false)
    (q_k_NoSizes_NoLine : PySem.W.kitOne K (.ref q_NoSizes) (.ref q_NoLine) = some false)
    (q_k_NoSizes_NoDeed : PySem.W.kitOne K (.ref q_NoSizes) (.ref q_NoDeed) = some false)
    (q_k_NoSizes_NoSeating : PySem.W.kitOne K (.ref q_NoSizes) (.ref q_NoSeating) = some false)
    (q_k_NoSizes_NoRing : PySem.W.kitOne K (.ref q_NoSizes) (.ref q_NoRing) = some false)
    (q_k_NoSizes_NoSizes : PySem.W.kitOne K (.ref q_NoSizes) (.ref q_NoSizes) = some true)
    (n_1 : PySem.W.subIn K (.ref NE) (.type "BaseException") = some true)
    (n_2 : PySem.W.subIn K (.type "type") (.type "tuple") = some false)
    (n_3 : PySem.W.kitCls K (.ref NE) (.ref NE) = some true)
    (tb1 : K.lookup cc = some ⟨tu1, tu3, .fields tvs, tu4⟩)
    (tb2 : tvs[11]? = some (.ref PP))
    (nt : PySem.W.noTabs K = true) :
    ∃ (fd : FuncData) (c P : Addr), (∀ (s : Shared) (u : Value), BindsTo s fd ⟨[u], []⟩ [("_law_script", u)]) ∧ PySem.W.tabIn K "law" = some (c, P) ∧ PySem.W.noTabs K = true ∧
      ∀ (base : Heap) (a : Addr) (ns : List Int), ns.length ≤ 63 → K.In base → base.Ns mainGlobals mg → PySem.W.CodeHd base c P → BMain mg base → Lawful l.prog w K mg base 10 fa fd "_law_script" P a ns := by
  have e := hfa.symm.trans (PySem.W.mg_of X G a_law)
  cases e
  have U_is_whole := fun_mk (st := s_is_whole) l_is_whole c_is_whole k_is_whole
  have U_rounded_up := fun_mk (st := s_rounded_up) l_rounded_up c_rounded_up k_rounded_up
  have U_need_sizes := fun_mk (st := s_need_sizes) l_need_sizes c_need_sizes k_need_sizes
  have U_levels_span := fun_mk (st := s_levels_span) l_levels_span c_levels_span k_levels_span
  have U_chains_reach := fun_mk (st := s_chains_reach) l_chains_reach c_chains_reach k_chains_reach
  have U__law_take := fun_mk (st := s__law_take) l__law_take c__law_take k__law_take
  have U__law_loose := fun_mk (st := s__law_loose) l__law_loose c__law_loose k__law_loose
  have U__law_cell_at := fun_mk (st := s__law_cell_at) l__law_cell_at c__law_cell_at k__law_cell_at
  have U__law_state := fun_mk (st := s__law_state) l__law_state c__law_state k__law_state
  have U__law_sizes := fun_mk (st := s__law_sizes) l__law_sizes c__law_sizes k__law_sizes
  have U__law_same := fun_mk (st := s__law_same) l__law_same c__law_same k__law_same
  have U__law_numbered := fun_mk (st := s__law_numbered) l__law_numbered c__law_numbered k__law_numbered
  have U__law_of_sizes := fun_mk (st := s__law_of_sizes) l__law_of_sizes c__law_of_sizes k__law_of_sizes
  have U__law_least_with := fun_mk (st := s__law_least_with) l__law_least_with c__law_least_with k__law_least_with
  have U__law_least_reach := fun_mk (st := s__law_least_reach) l__law_least_reach c__law_least_reach k__law_least_reach
  have U__law_bad_sizes := fun_mk (st := s__law_bad_sizes) l__law_bad_sizes c__law_bad_sizes k__law_bad_sizes
  have U__law_refused := fun_mk (st := s__law_refused) l__law_refused c__law_refused k__law_refused
  have U__law_great := fun_mk (st := s__law_great) l__law_great c__law_great k__law_great
  have U__law_rows := fun_mk (st := s__law_rows) l__law_rows c__law_rows k__law_rows
  have U__law_span := fun_mk (st := s__law_span) l__law_span c__law_span k__law_span
  have U__law_reach_by_rule := fun_mk (st := s__law_reach_by_rule) l__law_reach_by_rule c__law_reach_by_rule k__law_reach_by_rule
  have U_law := fun_mk (st := s_law) l_law c_law k_law
  have tb : PySem.W.tabIn K "law" = some (cc, PP) := by
    unfold PySem.W.tabIn
    rw [a_law]
    dsimp only
    rw [l_law]
    dsimp only
    rw [tb1]
    dsimp only
    rw [tb2]
  refine ⟨(PySem.W.fnOf "law" "law" (defArgs s_law) (defBody s_law) (defScope s_law) .none kV_law dc_law pm_law an_law (.ref cc) ct_law), cc, PP, fun s v => .of_eq rfl, tb, nt, fun base a ns hlen _ _ hC hB => ⟨?_⟩⟩
  obtain ⟨hh, hl⟩ := law_true ns
  refine ⟨{ K := K, cl := fun c => match c with | 0 => q_NoOrder | 1 => q_NoNumber | 2 => q_NoPairs | 3 => q_Round | 4 => q_NoThing | 5 => q_NoRow | 6 => q_TooMany | 7 => q_TooFew | 8 => q_NoText | 9 => q_NoLine | 10 => q_NoDeed | 11 => q_NoSeating | 12 => q_NoRing | 13 => q_NoSizes | _ => NE, scr := ns, sa := a, tab := some PP, lq := (("law" : Str) ++ ".<locals>.") ++ "<lambda>" }, F_law ns, hh, rfl, rfl, rfl, rfl, hl, ?_⟩
  refine ok_law (A := { f_is_whole := f_is_whole, fd_is_whole := (PySem.W.fnOf "is_whole" "is_whole" (defArgs s_is_whole) (defBody s_is_whole) (defScope s_is_whole) .none kV_is_whole dc_is_whole pm_is_whole an_is_whole cd_is_whole ct_is_whole), f_rounded_up := f_rounded_up, fd_rounded_up := (PySem.W.fnOf "rounded_up" "rounded_up" (defArgs s_rounded_up) (defBody s_rounded_up) (defScope s_rounded_up) .none kV_rounded_up dc_rounded_up pm_rounded_up an_rounded_up cd_rounded_up ct_rounded_up), f_need_sizes := f_need_sizes, fd_need_sizes := (PySem.W.fnOf "need_sizes" "need_sizes" (defArgs s_need_sizes) (defBody s_need_sizes) (defScope s_need_sizes) .none kV_need_sizes dc_need_sizes pm_need_sizes an_need_sizes cd_need_sizes ct_need_sizes), f_levels_span := f_levels_span, fd_levels_span := (PySem.W.fnOf "levels_span" "levels_span" (defArgs s_levels_span) (defBody s_levels_span) (defScope s_levels_span) .none kV_levels_span dc_levels_span pm_levels_span an_levels_span cd_levels_span ct_levels_span), f_chains_reach := f_chains_reach, fd_chains_reach := (PySem.W.fnOf "chains_reach" "chains_reach" (defArgs s_chains_reach) (defBody s_chains_reach) (defScope s_chains_reach) .none kV_chains_reach dc_chains_reach pm_chains_reach an_chains_reach cd_chains_reach ct_chains_reach), f__law_take := f__law_take, fd__law_take := (PySem.W.fnOf "_law_take" "_law_take" (defArgs s__law_take) (defBody s__law_take) (defScope s__law_take) .none kV__law_take dc__law_take pm__law_take an__law_take cd__law_take ct__law_take), f__law_loose := f__law_loose, fd__law_loose := (PySem.W.fnOf "_law_loose" "_law_loose" (defArgs s__law_loose) (defBody s__law_loose) (defScope s__law_loose) .none kV__law_loose dc__law_loose pm__law_loose an__law_loose cd__law_loose ct__law_loose), f__law_cell_at := f__law_cell_at, fd__law_cell_at := (PySem.W.fnOf "_law_cell_at" "_law_cell_at" (defArgs s__law_cell_at) (defBody s__law_cell_at) (defScope s__law_cell_at) .none kV__law_cell_at dc__law_cell_at pm__law_cell_at an__law_cell_at cd__law_cell_at ct__law_cell_at), f__law_state := f__law_state, fd__law_state := (PySem.W.fnOf "_law_state" "_law_state" (defArgs s__law_state) (defBody s__law_state) (defScope s__law_state) .none kV__law_state dc__law_state pm__law_state an__law_state cd__law_state ct__law_state), f__law_sizes := f__law_sizes, fd__law_sizes := (PySem.W.fnOf "_law_sizes" "_law_sizes" (defArgs s__law_sizes) (defBody s__law_sizes) (defScope s__law_sizes) .none kV__law_sizes dc__law_sizes pm__law_sizes an__law_sizes cd__law_sizes ct__law_sizes), f__law_same := f__law_same, fd__law_same := (PySem.W.fnOf "_law_same" "_law_same" (defArgs s__law_same) (defBody s__law_same) (defScope s__law_same) .none kV__law_same dc__law_same pm__law_same an__law_same cd__law_same ct__law_same), f__law_numbered := f__law_numbered, fd__law_numbered := (PySem.W.fnOf "_law_numbered" "_law_numbered" (defArgs s__law_numbered) (defBody s__law_numbered) (defScope s__law_numbered) .none kV__law_numbered dc__law_numbered pm__law_numbered an__law_numbered cd__law_numbered ct__law_numbered), f__law_of_sizes := f__law_of_sizes, fd__law_of_sizes := (PySem.W.fnOf "_law_of_sizes" "_law_of_sizes" (defArgs s__law_of_sizes) (defBody s__law_of_sizes) (defScope s__law_of_sizes) .none kV__law_of_sizes dc__law_of_sizes pm__law_of_sizes an__law_of_sizes cd__law_of_sizes ct__law_of_sizes), f__law_least_with := f__law_least_with, fd__law_least_with := (PySem.W.fnOf "_law_least_with" "_law_least_with" (defArgs s__law_least_with) (defBody s__law_least_with) (defScope s__law_least_with) .none kV__law_least_with dc__law_least_with pm__law_least_with an__law_least_with cd__law_least_with ct__law_least_with), f__law_least_reach := f__law_least_reach, fd__law_least_reach := (PySem.W.fnOf "_law_least_reach" "_law_least_reach" (defArgs s__law_least_reach) (defBody s__law_least_reach) (defScope s__law_least_reach) .none kV__law_least_reach dc__law_least_reach pm__law_least_reach an__law_least_reach cd__law_least_reach ct__law_least_reach), f__law_bad_sizes := f__law_bad_sizes, fd__law_bad_sizes := (PySem.W.fnOf "_law_bad_sizes" "_law_bad_sizes" (defArgs s__law_bad_sizes) (defBody s__law_bad_sizes) (defScope s__law_bad_sizes) .none kV__law_bad_sizes dc__law_bad_sizes pm__law_bad_sizes an__law_bad_sizes cd__law_bad_sizes ct__law_bad_sizes), f__law_refused := f__law_refused, fd__law_refused := (PySem.W.fnOf "_law_refused" "_law_refused" (defArgs s__law_refused) (defBody s__law_refused) (defScope s__law_refused) .none kV__law_refused dc__law_refused pm__law_refused an__law_refused cd__law_refused ct__law_refused), f__law_great := f__law_great, fd__law_great := (PySem.W.fnOf "_law_great" "_law_great" (defArgs s__law_great) (defBody s__law_great) (defScope s__law_great) .none kV__law_great dc__law_great pm__law_great an__law_great cd__law_great ct__law_great), f__law_rows := f__law_rows, fd__law_rows := (PySem.W.fnOf "_law_rows" "_law_rows" (defArgs s__law_rows) (defBody s__law_rows) (defScope s__law_rows) .none kV__law_rows dc__law_rows pm__law_rows an__law_rows cd__law_rows ct__law_rows), f__law_span := f__law_span, fd__law_span := (PySem.W.fnOf "_law_span" "_law_span" (defArgs s__law_span) (defBody s__law_span) (defScope s__law_span) .none kV__law_span dc__law_span pm__law_span an__law_span cd__law_span ct__law_span), f__law_reach_by_rule := f__law_reach_by_rule, fd__law_reach_by_rule := (PySem.W.fnOf "_law_reach_by_rule" "_law_reach_by_rule" (defArgs s__law_reach_by_rule) (defBody s__law_reach_by_rule) (defScope s__law_reach_by_rule) .none kV__law_reach_by_rule dc__law_reach_by_rule pm__law_reach_by_rule an__law_reach_by_rule cd__law_reach_by_rule ct__law_reach_by_rule), f_law := fa, fd_law := (PySem.W.fnOf "law" "law" (defArgs s_law) (defBody s_law) (defScope s_law) .none kV_law dc_law pm_law an_law (.ref cc) ct_law), c_NoOrder := q_NoOrder, c_NoNumber := q_NoNumber, c_NoPairs := q_NoPairs, c_Round := q_Round, c_NoThing := q_NoThing, c_NoRow := q_NoRow, c_TooMany := q_TooMany, c_TooFew := q_TooFew, c_NoText := q_NoText, c_NoLine := q_NoLine, c_NoDeed := q_NoDeed, c_NoSeating := q_NoSeating, c_NoRing := q_NoRing, c_NoSizes := q_NoSizes, t_MOST_SIZES := t_MOST_SIZES, NE := NE, cc := cc, P := PP }) ?_ hC hB
  have ex_NoSizes : ExK K q_NoSizes := ⟨q_1_NoSizes, q_2_NoSizes, q_3_NoSizes, q_4_NoSizes, q_5_NoSizes, q_6_NoSizes, ⟨_, _, _, _, q_7_NoSizes⟩⟩
  exact {
    hK := rfl
    F_is_whole := U_is_whole
    B_is_whole := U_is_whole.binds (ps := ["thing"]) bd_is_whole
    m_is_whole := PySem.W.mg_of X G a_is_whole
    F_rounded_up := U_rounded_up
    B_rounded_up := U_rounded_up.binds (ps := ["number", "by"]) bd_rounded_up
    m_rounded_up := PySem.W.mg_of X G a_rounded_up
    F_need_sizes := U_need_sizes
    B_need_sizes := U_need_sizes.binds (ps := ["sizes"]) bd_need_sizes
    m_need_sizes := PySem.W.mg_of X G a_need_sizes
    F_levels_span := U_levels_span
    B_levels_span := U_levels_span.binds (ps := ["sizes"]) bd_levels_span
    m_levels_span := PySem.W.mg_of X G a_levels_span
    F_chains_reach := U_chains_reach
    B_chains_reach := U_chains_reach.binds (ps := ["sizes"]) bd_chains_reach
    m_chains_reach := PySem.W.mg_of X G a_chains_reach
    F__law_take := U__law_take
    B__law_take := U__law_take.binds (ps := ["_law_state_here", "_law_many"]) bd__law_take
    m__law_take := PySem.W.mg_of X G a__law_take
    F__law_loose := U__law_loose
    B__law_loose := U__law_loose.binds (ps := ["_law_order"]) bd__law_loose
    m__law_loose := PySem.W.mg_of X G a__law_loose
    F__law_cell_at := U__law_cell_at
    B__law_cell_at := U__law_cell_at.binds (ps := ["_law_script", "_law_k"]) bd__law_cell_at
    m__law_cell_at := PySem.W.mg_of X G a__law_cell_at
    F__law_state := U__law_state
    B__law_state := U__law_state.binds (ps := ["_law_script", "_law_k"]) bd__law_state
    m__law_state := PySem.W.mg_of X G a__law_state
    F__law_sizes := U__law_sizes
    B__law_sizes := U__law_sizes.binds (ps := ["_law_state_here"]) bd__law_sizes
    m__law_sizes := PySem.W.mg_of X G a__law_sizes
    F__law_same := U__law_same
    B__law_same := U__law_same.binds (ps := ["_law_found", "_law_due"]) bd__law_same
    m__law_same := PySem.W.mg_of X G a__law_same
    F__law_numbered := U__law_numbered
    B__law_numbered := U__law_numbered.binds (ps := ["_law_sizes_here"]) bd__law_numbered
    m__law_numbered := PySem.W.mg_of X G a__law_numbered
    F__law_of_sizes := U__law_of_sizes
    B__law_of_sizes := U__law_of_sizes.binds (ps := ["_law_sizes_here", "_law_chains"]) bd__law_of_sizes
    m__law_of_sizes := PySem.W.mg_of X G a__law_of_sizes
    F__law_least_with := U__law_least_with
    B__law_least_with := U__law_least_with.binds (ps := ["_law_order", "_law_reach"]) bd__law_least_with
    m__law_least_with := PySem.W.mg_of X G a__law_least_with
    F__law_least_reach := U__law_least_reach
    B__law_least_reach := U__law_least_reach.binds (ps := ["_law_order"]) bd__law_least_reach
    m__law_least_reach := PySem.W.mg_of X G a__law_least_reach
    F__law_bad_sizes := U__law_bad_sizes
    B__law_bad_sizes := U__law_bad_sizes.binds (ps := ["_law_state_here"]) bd__law_bad_sizes
    m__law_bad_sizes := PySem.W.mg_of X G a__law_bad_sizes
    F__law_refused := U__law_refused
    B__law_refused := U__law_refused.binds (ps := ["_law_call"]) bd__law_refused
    m__law_refused := PySem.W.mg_of X G a__law_refused
    F__law_great := U__law_great
    B__law_great := U__law_great.binds (ps := ["_law_state_here"]) bd__law_great
    m__law_great := PySem.W.mg_of X G a__law_great
    F__law_rows := U__law_rows
    B__law_rows := U__law_rows.binds (ps := ["_law_order"]) bd__law_rows
    m__law_rows := PySem.W.mg_of X G a__law_rows
    F__law_span := U__law_span
    B__law_span := U__law_span.binds (ps := ["_law_order"]) bd__law_span
    m__law_span := PySem.W.mg_of X G a__law_span
    F__law_reach_by_rule := U__law_reach_by_rule
    B__law_reach_by_rule := U__law_reach_by_rule.binds (ps := ["_law_sizes_here"]) bd__law_reach_by_rule
    m__law_reach_by_rule := PySem.W.mg_of X G a__law_reach_by_rule
    F_law := U_law
    B_law := U_law.binds (ps := ["_law_script"]) bd_law
    m_law := PySem.W.mg_of X G a_law
    z_ValueError := PySem.W.mg_none_of X G z_ValueError
    z_abs := PySem.W.mg_none_of X G z_abs
    z_all := PySem.W.mg_none_of X G z_all
    z_bool := PySem.W.mg_none_of X G z_bool
    z_int := PySem.W.mg_none_of X G z_int
    z_isinstance := PySem.W.mg_none_of X G z_isinstance
    z_len := PySem.W.mg_none_of X G z_len
    z_list := PySem.W.mg_none_of X G z_list
    z_max := PySem.W.mg_none_of X G z_max
    z_min := PySem.W.mg_none_of X G z_min
    z_range := PySem.W.mg_none_of X G z_range
    z_sorted := PySem.W.mg_none_of X G z_sorted
    z_sum := PySem.W.mg_none_of X G z_sum
    z_tuple := PySem.W.mg_none_of X G z_tuple
    z_zip := PySem.W.mg_none_of X G z_zip
    c_MOST_SIZES := PySem.W.mg_of X G g_MOST_SIZES
    n_NoOrder := PySem.W.mg_of X G q_a_NoOrder
    n_NoNumber := PySem.W.mg_of X G q_a_NoNumber
    n_NoPairs := PySem.W.mg_of X G q_a_NoPairs
    n_Round := PySem.W.mg_of X G q_a_Round
    n_NoThing := PySem.W.mg_of X G q_a_NoThing
    n_NoRow := PySem.W.mg_of X G q_a_NoRow
    n_TooMany := PySem.W.mg_of X G q_a_TooMany
    n_TooFew := PySem.W.mg_of X G q_a_TooFew
    n_NoText := PySem.W.mg_of X G q_a_NoText
    n_NoLine := PySem.W.mg_of X G q_a_NoLine
    n_NoDeed := PySem.W.mg_of X G q_a_NoDeed
    n_NoSeating := PySem.W.mg_of X G q_a_NoSeating
    n_NoRing := PySem.W.mg_of X G q_a_NoRing
    n_NoSizes := PySem.W.mg_of X G q_a_NoSizes
    ns_NoSizes := q_a_NoSizes
    x_NoSizes := q_x_NoSizes
    ce_NoSizes := rfl
    ktV := fun c b h => by
      have m := memN h
      simp only [tblV, List.mem_cons, Prod.mk.injEq, List.not_mem_nil, or_false] at m
      rcases m with ⟨rfl, rfl⟩
      · exact ⟨q_v_NoSizes, ex_NoSizes⟩
    kt0 := fun c b h => by
      have m := memN h
      simp only [tbl0, List.mem_cons, Prod.mk.injEq, List.not_mem_nil, or_false] at m
      rcases m with ⟨rfl, rfl⟩
      · exact ⟨q_k_NoSizes_NoOrder, ex_NoSizes⟩
    kt1 := fun c b h => by
      have m := memN h
      simp only [tbl1, List.mem_cons, Prod.mk.injEq, List.not_mem_nil, or_false] at m
      rcases m with ⟨rfl, rfl⟩
      · exact ⟨q_k_NoSizes_NoNumber, ex_NoSizes⟩
    kt2 := fun c b h => by
      have m := memN h
      simp only [tbl2, List.mem_cons, Prod.mk.injEq, List.not_mem_nil, or_false] at m
      rcases m with ⟨rfl, rfl⟩
      · exact ⟨q_k_NoSizes_NoPairs, ex_NoSizes⟩
    kt3 := fun c b h => by
      have m := memN h
      simp only [tbl3, List.mem_cons, Prod.mk.injEq, List.not_mem_nil, or_false] at m
      rcases m with ⟨rfl, rfl⟩
      · exact ⟨q_k_NoSizes_Round, ex_NoSizes⟩
    kt4 := fun c b h => by
      have m := memN h
      simp only [tbl4, List.mem_cons, Prod.mk.injEq, List.not_mem_nil, or_false] at m
      rcases m with ⟨rfl, rfl⟩
      · exact ⟨q_k_NoSizes_NoThing, ex_NoSizes⟩
    kt5 := fun c b h => by
      have m := memN h
      simp only [tbl5, List.mem_cons, Prod.mk.injEq, List.not_mem_nil, or_false] at m
      rcases m with ⟨rfl, rfl⟩
      · exact ⟨q_k_NoSizes_NoRow, ex_NoSizes⟩
    kt6 := fun c b h => by
      have m := memN h
      simp only [tbl6, List.mem_cons, Prod.mk.injEq, List.not_mem_nil, or_false] at m
      rcases m with ⟨rfl, rfl⟩
      · exact ⟨q_k_NoSizes_TooMany, ex_NoSizes⟩
    kt7 := fun c b h => by
      have m := memN h
      simp only [tbl7, List.mem_cons, Prod.mk.injEq, List.not_mem_nil, or_false] at m
      rcases m with ⟨rfl, rfl⟩
      · exact ⟨q_k_NoSizes_TooFew, ex_NoSizes⟩
    kt8 := fun c b h => by
      have m := memN h
      simp only [tbl8, List.mem_cons, Prod.mk.injEq, List.not_mem_nil, or_false] at m
      rcases m with ⟨rfl, rfl⟩
      · exact ⟨q_k_NoSizes_NoText, ex_NoSizes⟩
    kt9 := fun c b h => by
      have m := memN h
      simp only [tbl9, List.mem_cons, Prod.mk.injEq, List.not_mem_nil, or_false] at m
      rcases m with ⟨rfl, rfl⟩
      · exact ⟨q_k_NoSizes_NoLine, ex_NoSizes⟩
    kt10 := fun c b h => by
      have m := memN h
      simp only [tbl10, List.mem_cons, Prod.mk.injEq, List.not_mem_nil, or_false] at m
      rcases m with ⟨rfl, rfl⟩
      · exact ⟨q_k_NoSizes_NoDeed, ex_NoSizes⟩
    kt11 := fun c b h => by
      have m := memN h
      simp only [tbl11, List.mem_cons, Prod.mk.injEq, List.not_mem_nil, or_false] at m
      rcases m with ⟨rfl, rfl⟩
      · exact ⟨q_k_NoSizes_NoSeating, ex_NoSizes⟩
    kt12 := fun c b h => by
      have m := memN h
      simp only [tbl12, List.mem_cons, Prod.mk.injEq, List.not_mem_nil, or_false] at m
      rcases m with ⟨rfl, rfl⟩
      · exact ⟨q_k_NoSizes_NoRing, ex_NoSizes⟩
    kt13 := fun c b h => by
      have m := memN h
      simp only [tbl13, List.mem_cons, Prod.mk.injEq, List.not_mem_nil, or_false] at m
      rcases m with ⟨rfl, rfl⟩
      · exact ⟨q_k_NoSizes_NoSizes, ex_NoSizes⟩
    n_NearError := PySem.W.mg_of X G n_a
    e1 := n_1
    e2 := n_2
    e3 := n_3
    e4 := fun c hc => by
      match c, hc with
      | 0, _ => exact q_s_NoOrder
      | 1, _ => exact q_s_NoNumber
      | 2, _ => exact q_s_NoPairs
      | 3, _ => exact q_s_Round
      | 4, _ => exact q_s_NoThing
      | 5, _ => exact q_s_NoRow
      | 6, _ => exact q_s_TooMany
      | 7, _ => exact q_s_TooFew
      | 8, _ => exact q_s_NoText
      | 9, _ => exact q_s_NoLine
      | 10, _ => exact q_s_NoDeed
      | 11, _ => exact q_s_NoSeating
      | 12, _ => exact q_s_NoRing
      | 13, _ => exact q_s_NoSizes
      | n + 14, hc => omega
    lq := rfl
    tab := rfl
    code := rfl }
theorem walk {l : PySem.W.OpenLaw} {q : Program} {loose : List Str} {XP : (Str → Option Value) → Heap → Prop} {YP : World → Heap → Prop} {d : DefRec} {K : Params → PySem.W.Frag} (hn : l.most = some 63) (hdf : d.params.defaults = [])
    (hY : ∀ (w : World) (h : Heap), YP w h → (K w.params).In h) (hfind : (recsOf q).find? (fun e => e.name == d.name) = some d) (hdn : d.name = "law")
    (F : ∀ (w : World) (mg : Str → Option Value) (fa : Addr) (h : Heap), (K w.params).In h → h.Ns mainGlobals mg → mg "law" = some (.ref fa) →
      ∃ (fd : FuncData) (c P : Addr), (∀ (s : Shared) (u : Value), BindsTo s fd ⟨[u], []⟩ [("_law_script", u)]) ∧ PySem.W.tabIn (K w.params) "law" = some (c, P) ∧ PySem.W.noTabs (K w.params) = true ∧
        ∀ (base : Heap) (a : Addr) (ns : List Int), ns.length ≤ 63 → (K w.params).In base → base.Ns mainGlobals mg → PySem.W.CodeHd base c P → BMain mg base → Lawful l.prog w (K w.params) mg base 10 fa fd "_law_script" P a ns) :
    PySem.W.WalkO q loose XP YP l.row.toRowW d [] (fun f vs => PySem.call f vs) :=
  walk_ofT (n := 63) (k := 10) (x := "_law_script") hn (by decide) hdf ⟨rfl, by decide, by decide⟩ hY hfind (by rw [hdn]; exact F)
end L2.Mr.K71
open PySem PySem.W PyProof.Rows
set_option maxRecDepth 100000 in
set_option maxHeartbeats 0 in
theorem PySem.Challenge.cw_nearorders_k71_numbers_by_rule_holds : PySem.Challenge.rw_nearorders_k71_numbers_by_rule.Holds := by
  w_on; o_law; k_head; (case hw => w_witness2)
  k_fill
  refine L2.Mr.K71.walk (l := PySem.Challenge.rw_nearorders_k71_numbers_by_rule) rfl rfl (fun w h Y => PySem.W.km_in_of Y) ?find rfl ?F
  case find => rfl
  case F =>
    intro w mg fa h KX G hmg
    refine' L2.Mr.K71.all_mk KX G hmg ?n_a ?a_is_whole ?l_is_whole ?c_is_whole ?k_is_whole ?a_rounded_up ?l_rounded_up ?c_rounded_up ?k_rounded_up ?a_need_sizes ?l_need_sizes ?c_need_sizes ?k_need_sizes ?a_levels_span ?l_levels_span ?c_levels_span ?k_levels_span ?a_chains_reach ?l_chains_reach ?c_chains_reach ?k_chains_reach ?a__law_take ?l__law_take ?c__law_take ?k__law_take ?a__law_loose ?l__law_loose ?c__law_loose ?k__law_loose ?a__law_cell_at ?l__law_cell_at ?c__law_cell_at ?k__law_cell_at ?a__law_state ?l__law_state ?c__law_state ?k__law_state ?a__law_sizes ?l__law_sizes ?c__law_sizes ?k__law_sizes ?a__law_same ?l__law_same ?c__law_same ?k__law_same ?a__law_numbered ?l__law_numbered ?c__law_numbered ?k__law_numbered ?a__law_of_sizes ?l__law_of_sizes ?c__law_of_sizes ?k__law_of_sizes ?a__law_least_with ?l__law_least_with ?c__law_least_with ?k__law_least_with ?a__law_least_reach ?l__law_least_reach ?c__law_least_reach ?k__law_least_reach ?a__law_bad_sizes ?l__law_bad_sizes ?c__law_bad_sizes ?k__law_bad_sizes ?a__law_refused ?l__law_refused ?c__law_refused ?k__law_refused ?a__law_great ?l__law_great ?c__law_great ?k__law_great ?a__law_rows ?l__law_rows ?c__law_rows ?k__law_rows ?a__law_span ?l__law_span ?c__law_span ?k__law_span ?a__law_reach_by_rule ?l__law_reach_by_rule ?c__law_reach_by_rule ?k__law_reach_by_rule ?a_law ?l_law ?c_law ?k_law ?z_ValueError ?z_abs ?z_all ?z_bool ?z_int ?z_isinstance ?z_len ?z_list ?z_max ?z_min ?z_range ?z_sorted ?z_sum ?z_tuple ?z_zip ?g_MOST_SIZES ?q_a_NoOrder ?q_s_NoOrder ?q_a_NoNumber ?q_s_NoNumber ?q_a_NoPairs ?q_s_NoPairs ?q_a_Round ?q_s_Round ?q_a_NoThing ?q_s_NoThing ?q_a_NoRow ?q_s_NoRow ?q_a_TooMany ?q_s_TooMany ?q_a_TooFew ?q_s_TooFew ?q_a_NoText ?q_s_NoText ?q_a_NoLine ?q_s_NoLine ?q_a_NoDeed ?q_s_NoDeed ?q_a_NoSeating ?q_s_NoSeating ?q_a_NoRing ?q_s_NoRing ?q_a_NoSizes ?q_s_NoSizes ?q_x_NoSizes ?q_1_NoSizes ?q_2_NoSizes ?q_3_NoSizes ?q_4_NoSizes ?q_5_NoSizes ?q_6_NoSizes ?q_7_NoSizes ?q_v_NoSizes ?q_k_NoSizes_NoOrder ?q_k_NoSizes_NoNumber ?q_k_NoSizes_NoPairs ?q_k_NoSizes_Round ?q_k_NoSizes_NoThing ?q_k_NoSizes_NoRow ?q_k_NoSizes_TooMany ?q_k_NoSizes_TooFew ?q_k_NoSizes_NoText ?q_k_NoSizes_NoLine ?q_k_NoSizes_NoDeed ?q_k_NoSizes_NoSeating ?q_k_NoSizes_NoRing ?q_k_NoSizes_NoSizes ?n_1 ?n_2 ?n_3 ?tb1 ?tb2 ?nt
    (case n_a => k_is)
    (case a_is_whole => k_is)
    (case l_is_whole => k_is)
    (case c_is_whole => k_is)
    (case k_is_whole => k_is)
    (case a_rounded_up => k_is)
    (case l_rounded_up => k_is)
    (case c_rounded_up => k_is)
    (case k_rounded_up => k_is)
    (case a_need_sizes => k_is)
    (case l_need_sizes => k_is)
    (case c_need_sizes => k_is)
    (case k_need_sizes => k_is)
    (case a_levels_span => k_is)
    (case l_levels_span => k_is)
    (case c_levels_span => k_is)
    (case k_levels_span => k_is)
    (case a_chains_reach => k_is)
    (case l_chains_reach => k_is)
    (case c_chains_reach => k_is)
    (case k_chains_reach => k_is)
    (case a__law_take => k_is)
    (case l__law_take => k_is)
    (case c__law_take => k_is)
    (case k__law_take => k_is)
    (case a__law_loose => k_is)
    (case l__law_loose => k_is)
    (case c__law_loose => k_is)
    (case k__law_loose => k_is)
    (case a__law_cell_at => k_is)
    (case l__law_cell_at => k_is)
    (case c__law_cell_at => k_is)
    (case k__law_cell_at => k_is)
    (case a__law_state => k_is)
    (case l__law_state => k_is)
    (case c__law_state => k_is)
    (case k__law_state => k_is)
    (case a__law_sizes => k_is)
    (case l__law_sizes => k_is)
    (case c__law_sizes => k_is)
    (case k__law_sizes => k_is)
    (case a__law_same => k_is)
    (case l__law_same => k_is)
    (case c__law_same => k_is)
    (case k__law_same => k_is)
    (case a__law_numbered => k_is)
    (case l__law_numbered => k_is)
    (case c__law_numbered => k_is)
    (case k__law_numbered => k_is)
    (case a__law_of_sizes => k_is)
    (case l__law_of_sizes => k_is)
    (case c__law_of_sizes => k_is)
    (case k__law_of_sizes => k_is)
    (case a__law_least_with => k_is)
    (case l__law_least_with => k_is)
    (case c__law_least_with => k_is)
    (case k__law_least_with => k_is)
    (case a__law_least_reach => k_is)
    (case l__law_least_reach => k_is)
    (case c__law_least_reach => k_is)
    (case k__law_least_reach => k_is)
    (case a__law_bad_sizes => k_is)
    (case l__law_bad_sizes => k_is)
    (case c__law_bad_sizes => k_is)
    (case k__law_bad_sizes => k_is)
    (case a__law_refused => k_is)
    (case l__law_refused => k_is)
    (case c__law_refused => k_is)
    (case k__law_refused => k_is)
    (case a__law_great => k_is)
    (case l__law_great => k_is)
    (case c__law_great => k_is)
    (case k__law_great => k_is)
    (case a__law_rows => k_is)
    (case l__law_rows => k_is)
    (case c__law_rows => k_is)
    (case k__law_rows => k_is)
    (case a__law_span => k_is)
    (case l__law_span => k_is)
    (case c__law_span => k_is)
    (case k__law_span => k_is)
    (case a__law_reach_by_rule => k_is)
    (case l__law_reach_by_rule => k_is)
    (case c__law_reach_by_rule => k_is)
    (case k__law_reach_by_rule => k_is)
    (case a_law => k_is)
    (case l_law => k_is)
    (case c_law => k_is)
    (case k_law => k_is)
    (case z_ValueError => k_is)
    (case z_abs => k_is)
    (case z_all => k_is)
    (case z_bool => k_is)
    (case z_int => k_is)
    (case z_isinstance => k_is)
    (case z_len => k_is)
    (case z_list => k_is)
    (case z_max => k_is)
    (case z_min => k_is)
    (case z_range => k_is)
    (case z_sorted => k_is)
    (case z_sum => k_is)
    (case z_tuple => k_is)
    (case z_zip => k_is)
    (case g_MOST_SIZES => k_is)
    (case q_a_NoOrder => k_is)
    (case q_s_NoOrder => k_is)
    (case q_a_NoNumber => k_is)
    (case q_s_NoNumber => k_is)
    (case q_a_NoPairs => k_is)
    (case q_s_NoPairs => k_is)
    (case q_a_Round => k_is)
    (case q_s_Round => k_is)
    (case q_a_NoThing => k_is)
    (case q_s_NoThing => k_is)
    (case q_a_NoRow => k_is)
    (case q_s_NoRow => k_is)
    (case q_a_TooMany => k_is)
    (case q_s_TooMany => k_is)
    (case q_a_TooFew => k_is)
    (case q_s_TooFew => k_is)
    (case q_a_NoText => k_is)
    (case q_s_NoText => k_is)
    (case q_a_NoLine => k_is)
    (case q_s_NoLine => k_is)
    (case q_a_NoDeed => k_is)
    (case q_s_NoDeed => k_is)
    (case q_a_NoSeating => k_is)
    (case q_s_NoSeating => k_is)
    (case q_a_NoRing => k_is)
    (case q_s_NoRing => k_is)
    (case q_a_NoSizes => k_is)
    (case q_s_NoSizes => k_is)
    (case q_x_NoSizes => kernel_rfl)
    (case q_1_NoSizes => k_is)
    (case q_2_NoSizes => k_is)
    (case q_3_NoSizes => k_is)
    (case q_4_NoSizes => k_is)
    (case q_5_NoSizes => k_is)
    (case q_6_NoSizes => kernel_rfl)
    (case q_7_NoSizes => k_is)
    (case q_v_NoSizes => kernel_rfl)
    (case q_k_NoSizes_NoOrder => kernel_rfl)
    (case q_k_NoSizes_NoNumber => kernel_rfl)
    (case q_k_NoSizes_NoPairs => kernel_rfl)
    (case q_k_NoSizes_Round => kernel_rfl)
    (case q_k_NoSizes_NoThing => kernel_rfl)
    (case q_k_NoSizes_NoRow => kernel_rfl)
    (case q_k_NoSizes_TooMany => kernel_rfl)
    (case q_k_NoSizes_TooFew => kernel_rfl)
    (case q_k_NoSizes_NoText => kernel_rfl)
    (case q_k_NoSizes_NoLine => kernel_rfl)
    (case q_k_NoSizes_NoDeed => kernel_rfl)
    (case q_k_NoSizes_NoSeating => kernel_rfl)
    (case q_k_NoSizes_NoRing => kernel_rfl)
    (case q_k_NoSizes_NoSizes => kernel_rfl)
    (case n_1 => k_is)
    (case n_2 => k_is)
    (case n_3 => kernel_rfl)
    (case tb1 => k_is)
    (case tb2 => rfl)
    (case nt => kernel_rfl)
