import PyProof.Rows.All
import Wide.All
import OpenK.AllK
import Wide.FinOn
import Lean
import PyProof.EqAt
import PyProof.EqKinds
import PyProof.TupleCall
import PyProof.P3In
import PyProof.NeData
import KE.KMinKey
import PyProof.Rows.CallKwBuiltin
import PyProof.LayNew
import PyProof.EnumFor
import PyProof.EnumMake
import PyProof.EnumStmt
import KE.KRevIter
import PyProof.AutoListH
import PySem.Challenge.RW_waithands_k13_rising_loads
set_option Elab.async false
set_option linter.all false
set_option maxRecDepth 100000
/-! THE HAND LAYER, for ints, bools, texts, own classes, LISTS and tuples (index, slices, in, append, pop ..), calls, loops. Paste it whole ahead of your own text; what your proof does not reach may be deleted. -/
namespace L2
open PySem PySem.Spec PyProof.Rows

/-- a key: an int or a str -/
abbrev Key := Sum Int Str
def keyIs : Key → Value → Bool
  | .inl k, v => Value.isInt k v
  | .inr x, v => Value.isStrOf x v
def keyH (w : World) : Key → Int
  | .inl k => hashInt k
  | .inr x => hashStr w x
theorem keyIs_shape : ∀ {k : Key} {v : Value}, keyIs k v = true → (∃ i t, k = Sum.inl i ∧ v = Value.int i t) ∨ (∃ x t, k = Sum.inr x ∧ v = Value.str x t)
  | .inl i, v, h => by
    obtain ⟨t, e⟩ := Value.isInt_shape (k := i) (v := v) h
    exact .inl ⟨i, t, rfl, e⟩
  | .inr x, v, h => by
    obtain ⟨t, e⟩ := Value.isStrOf_shape (x := x) (v := v) h
    exact .inr ⟨x, t, rfl, e⟩
theorem keyIs_int (i : Int) (t : Tok) : keyIs (.inl i) (.int i t) = true := by simp [keyIs, Value.isInt]
theorem keyIs_str (x : Str) (t : Tok) : keyIs (.inr x) (.str x t) = true := by simp [keyIs, Value.isStrOf]
theorem key_ll (a b : Int) : decide ((Sum.inl a : Key) = Sum.inl b) = (a == b) := by
  by_cases e : a = b
  · subst e; simp
  · have h : ¬ (Sum.inl a : Key) = Sum.inl b := fun q => e (Sum.inl.inj q)
    rw [decide_eq_false h]
    exact (beq_eq_false_iff_ne.mpr e).symm
theorem key_rr (a b : Str) : decide ((Sum.inr a : Key) = Sum.inr b) = decide (a = b) := by
  by_cases e : a = b
  · subst e; simp
  · have h : ¬ (Sum.inr a : Key) = Sum.inr b := fun q => e (Sum.inr.inj q)
    rw [decide_eq_false h, decide_eq_false e]
theorem key_lr (a : Int) (b : Str) : decide ((Sum.inl a : Key) = Sum.inr b) = false := decide_eq_false (fun q => nomatch q)
theorem key_rl (a : Str) (b : Int) : decide ((Sum.inr a : Key) = Sum.inl b) = false := decide_eq_false (fun q => nomatch q)

def mixKind (prog : Program) (w : World) : PySem.KeyKind prog w Key where
  is := keyIs
  hash := keyH w
  inj := fun v a b ha hb => by
    rcases keyIs_shape ha with ⟨i, t, rfl, rfl⟩ | ⟨x, t, rfl, rfl⟩
    · rcases keyIs_shape hb with ⟨j, u, rfl, e⟩ | ⟨y, u, rfl, e⟩
      · injection e with e1 _; rw [e1]
      · exact nomatch e
    · rcases keyIs_shape hb with ⟨j, u, rfl, e⟩ | ⟨y, u, rfl, e⟩
      · exact nomatch e
      · injection e with e1 _; rw [e1]
  byValue := fun k v h => by
    rcases keyIs_shape h with ⟨i, t, rfl, rfl⟩ | ⟨x, t, rfl, rfl⟩ <;> rfl
  pyHash := fun hv h => by
    rcases keyIs_shape hv with ⟨i, t, rfl, rfl⟩ | ⟨x, t, rfl, rfl⟩
    · exact wpAny_pyHash_int h
    · exact wpAny_pyHash_str h
  eqBool := fun hu hv h => by
    rcases keyIs_shape hu with ⟨i, t, rfl, rfl⟩ | ⟨x, t, rfl, rfl⟩
    · rcases keyIs_shape hv with ⟨j, u, rfl, rfl⟩ | ⟨y, u, rfl, rfl⟩
      · rw [key_ll] at h; exact wpAny_eqBool_int h
      · rw [key_lr] at h; exact SeqAt.EqAt.int_str i t y u _ _ _ _ h
    · rcases keyIs_shape hv with ⟨j, u, rfl, rfl⟩ | ⟨y, u, rfl, rfl⟩
      · rw [key_rl] at h; exact SeqAt.EqAt.str_int x t j u _ _ _ _ h
      · rw [key_rr] at h; exact wpAny_eqBool_str h
  «strs» := fun k x t v h => by
    rcases keyIs_shape h with ⟨i, u, rfl, e⟩ | ⟨y, u, rfl, e⟩
    · exact nomatch e
    · injection e with e1 _
      subst e1
      cases v <;> rfl

theorem mixKind_is (prog : Program) (w : World) (k : Key) (v : Value) : (mixKind prog w).is k v = keyIs k v := rfl
theorem mixKind_int (prog : Program) (w : World) (i : Int) (t : Tok) : (mixKind prog w).is (.inl i) (.int i t) = true := keyIs_int i t
theorem mixKind_str (prog : Program) (w : World) (x : Str) (t : Tok) : (mixKind prog w).is (.inr x) (.str x t) = true := keyIs_str x t
end L2

namespace L2
open PySem PySem.Spec PyProof.Rows

/-- a value, without the heap -/
inductive V where
  | non | bl (b : Bool) | int (i : Int) | str (x : Str) | byt (b : Array UInt8) | flt (b : UInt64) | ref (a : Addr) | ty (n : String)
  deriving DecidableEq

def RelV : V → Value → Prop
  | .non, u => u = Value.none
  | .bl b, u => u = Value.bool b
  | .int i, u => ∃ t, u = Value.int i t
  | .str x, u => ∃ t, u = Value.str x t
  | .byt b, u => ∃ t, u = Value.bytes b t
  | .flt b, u => ∃ t, u = Value.float b t
  | .ref a, u => u = Value.ref a
  | .ty n, u => u = Value.type n

abbrev Vals : List V → List Value → Prop := Paired RelV
theorem Vals.length {xs : List V} {us : List Value} (r : Vals xs us) : xs.length = us.length := Paired.length r
theorem Vals.get : ∀ {xs : List V} {us : List Value} {i : Nat} {x : V}, Vals xs us → xs[i]? = some x → ∃ u, us[i]? = some u ∧ RelV x u
  | _, _, _, _, .nil, e => by simp at e
  | _, _, 0, _, .cons r _, e => by simp at e; subst e; exact ⟨_, rfl, r⟩
  | _, _, i + 1, x, .cons _ t, e => by
    obtain ⟨u, h1, h2⟩ := Vals.get (i := i) (x := x) t (by simpa using e)
    exact ⟨u, by simpa using h1, h2⟩
theorem Vals.set {x : V} {u : Value} (r : RelV x u) : ∀ {xs : List V} {us : List Value} (i : Nat), Vals xs us → Vals (xs.set i x) (us.set i u)
  | _, _, _, .nil => .nil
  | _, _, 0, .cons _ t => .cons r t
  | _, _, i + 1, .cons q t => .cons q (Vals.set r i t)
theorem Vals.append : ∀ {xs ys : List V} {us ws : List Value}, Vals xs us → Vals ys ws → Vals (xs ++ ys) (us ++ ws)
  | _, _, _, _, .nil, s => s
  | _, _, _, _, .cons r t, s => .cons r (Vals.append t s)
theorem Vals.take : ∀ {xs : List V} {us : List Value} (n : Nat), Vals xs us → Vals (xs.take n) (us.take n)
  | _, _, 0, _ => .nil
  | _, _, _ + 1, .nil => .nil
  | _, _, n + 1, .cons r t => .cons r (Vals.take n t)
theorem Vals.drop : ∀ {xs : List V} {us : List Value} (n : Nat), Vals xs us → Vals (xs.drop n) (us.drop n)
  | _, _, 0, r => r
  | _, _, _ + 1, .nil => .nil
  | _, _, n + 1, .cons _ t => Vals.drop n t
theorem Vals.none_of : ∀ {xs : List V} {us : List Value} {i : Nat}, Vals xs us → xs[i]? = none → us[i]? = none := fun {xs us i} r e => by
  have h1 := r.length
  have h2 : xs.length ≤ i := List.getElem?_eq_none_iff.mp e
  exact List.getElem?_eq_none_iff.mpr (by omega)

def RelO : Option V → Option Value → Prop
  | some v, some u => RelV v u
  | none, none => True
  | _, _ => False
def KV {κ : Type} : List (κ × V) → List (κ × Value) → Prop := Paired fun (p : κ × V) (q : κ × Value) => p.1 = q.1 ∧ RelV p.2 q.2

/-- a key of a dict (00_mix): an int or a text -/
def kV : Key → V
  | .inl i => .int i
  | .inr x => .str x

/-- what stands at a tracked address -/
inductive HO where
  /-- a list -/
  | lst (xs : List V)
  /-- a tuple (never changes) -/
  | tup (xs : List V)
  /-- a dict whose keys are ints and texts; one whose keys are tuples of ints and texts (the empty one is both) -/
  | dK (kvs : List (Key × V)) | dT (kvs : List (List Key × V))
  /-- a set of ints: its members, its size -/
  | set (S : Int → Bool) (n : Nat)
  /-- an instance of the class at C, its dict at dx, its attributes -/
  | ins (C dx : Addr) (fs : List (Str × V))
  /-- the dict of the instance at x -/
  | own (x : Addr)
  /-- the dict of an exception -/
  | xd (fs : List (Str × V))
  /-- a bound method, f of x -/
  | met (f x : Addr)
  /-- a range object lo, lo + 1, .. below hi -/
  | rng (lo hi : Int)
  /-- a thing that is known to the object (the script; a dict while a loop walks it): read, never written while it is so -/
  | frz (o : Obj) (u : HO)
  /-- a code object's table -/
  | tbl (ps : Array Value)
  /-- any other thing, by what is true of its one object (a def of one's own: SetO a S n := HO.ext fun h => ..) -/
  | ext (φ : Heap → Prop)

abbrev Hp := Addr → Option HO
def upd (H : Hp) (a : Addr) (o : HO) : Hp := fun b => if b = a then some o else H b
theorem upd_same {H : Hp} {a : Addr} {o : HO} : upd H a o a = some o := by unfold upd; rw [if_pos rfl]
theorem upd_ne {H : Hp} {a b : Addr} {o : HO} (h : b ≠ a) : upd H a o b = H b := by unfold upd; rw [if_neg h]
theorem upd_upd {H : Hp} {a : Addr} {o u : HO} : upd (upd H a o) a u = upd H a u := by
  funext b; unfold upd; split <;> rfl
/-- two objects of different content stand apart -/
theorem ne_of {H : Hp} {a b : Addr} {o u : HO} (h : H a = some o) (h' : H b = some u) (d : o ≠ u) : a ≠ b := by
  intro e; subst e; rw [h] at h'; exact d (Option.some.inj h')
theorem ne_of_none {H : Hp} {a b : Addr} {o : HO} (h : H a = some o) (h' : H b = none) : a ≠ b := by
  intro e; subst e; rw [h] at h'; cases h'

section
variable (P : Program) (w : World)
def ObjOk (H : Hp) (h : Heap) (a : Addr) : HO → Prop
  | .lst xs => xs.length ≤ sizeLine ∧ ∃ (its : List Value) (n : Nat), Vals xs its ∧ h.get? a = some { cls := .type "list", data := .seq its.toArray n }
  | .tup xs => xs.length ≤ sizeLine ∧ ∃ its : List Value, Vals xs its ∧ IsTup h a its.toArray
  | .dK kvs => kvs.length ≤ sizeLine ∧ (a == sysModules) = false ∧ ∃ vs, KV kvs vs ∧ h.DictOf (mixKind P w) a vs
  | .dT kvs => kvs.length ≤ sizeLine ∧ (a == sysModules) = false ∧ ∃ xs : List (List Key × Addr × Value),
      Paired (fun (p : List Key × V) (q : List Key × Addr × Value) => p.1 = q.1 ∧ H q.2.1 = some (.tup (p.1.map kV)) ∧ RelV p.2 q.2.2) kvs xs ∧
      ∃ o es ep, h.get? a = some o ∧ o.ExactDict ∧ o.data = .dict es ep ∧ es.toList = xs.map (entryOfKey (tupleKind (mixKind P w))) ∧ (xs.map (·.1)).Nodup
  | .set S n => h.SetOf (intKind P w) a S n
  | .ins C dx fs => H dx = some (.own a) ∧ fs.length ≤ 1000 ∧ dx ≠ a ∧ h.get? a = some (PySem.W.instObj C dx) ∧
      ∃ mA, h.Ns1 dx mA ∧ (∀ f, RelO (fs.lookup f) (mA f)) ∧ PySem.Within mA (fs.map (·.1))
  | .own _ => ∃ o, h.get? a = some o
  | .xd fs => ∃ mA, h.Ns1 a mA ∧ ∀ f, RelO (fs.lookup f) (mA f)
  | .rng lo hi => ∃ t u v, h.get? a = some { cls := .type "range", data := .fields #[.int lo t, .int hi u, .int 1 v] }
  | .frz o u => h.get? a = some o ∧ ObjOk H h a u
  | .tbl ps => h.get? a = some { cls := .none, data := .fields ps }
  | .met f x => h.get? a = some (PySem.W.methodObj (.ref f) (.ref x))
  | .ext φ => φ h ∧ (∃ o, h.get? a = some o) ∧ ∀ h1 h2 : Heap, φ h1 → (∀ o, h1.get? a = some o → h2.get? a = some o) → φ h2
/-- the abstract heap is held -/
def HOk (H : Hp) (h : Heap) : Prop := ∀ a o, H a = some o → ObjOk P w H h a o
end

section
variable {P : Program} {w : World} {H H' : Hp} {h h' : Heap} {a : Addr} {o : HO}
theorem ObjOk.lt (x : ObjOk P w H h a o) : a < h.objs.size := by
  cases o with
  | lst xs => obtain ⟨_, _, _, _, e⟩ := x; exact Heap.lt_size e
  | tup xs => obtain ⟨_, _, _, p⟩ := x; exact p.lt
  | dK kvs => obtain ⟨_, _, _, _, o, _, _, e, _⟩ := x; exact Heap.lt_size e
  | dT kvs => obtain ⟨_, _, _, _, o, _, _, e, _⟩ := x; exact Heap.lt_size e
  | set S n => obtain ⟨o, _, _, _, e, _⟩ := x; exact Heap.lt_size e
  | ins C dx fs => obtain ⟨_, _, _, e, _⟩ := x; exact Heap.lt_size e
  | own y => obtain ⟨_, e⟩ := x; exact Heap.lt_size e
  | xd fs => obtain ⟨_, ⟨_, _, _, e, _⟩, _⟩ := x; exact Heap.lt_size e
  | rng lo hi => obtain ⟨_, _, _, e⟩ := x; exact Heap.lt_size e
  | frz ob u => obtain ⟨e, _⟩ := x; exact Heap.lt_size e
  | tbl ps => exact Heap.lt_size (show h.get? a = some _ from x)
  | met f y => exact Heap.lt_size (show h.get? a = some _ from x)
  | ext φ => obtain ⟨_, ⟨_, e⟩, _⟩ := x; exact Heap.lt_size e
theorem Paired.mapP {α β : Type} {F G : α → β → Prop} : ∀ {l₁ : List α} {l₂ : List β}, Paired F l₁ l₂ → (∀ a b, F a b → G a b) → Paired G l₁ l₂
  | _, _, .nil, _ => .nil
  | _, _, .cons r t, f => .cons (f _ _ r) (Paired.mapP t f)
theorem Paired.imp' {α β : Type} {F G : α → β → Prop} (f : ∀ a b, F a b → G a b) {l₁ : List α} {l₂ : List β} (r : Paired F l₁ l₂) : Paired G l₁ l₂ := Paired.mapP r f
/-- what an object's description leans on: its own object, its own dict, the tuples -/
theorem ObjOk.stay (x : ObjOk P w H h a o) (k : ∀ b u, (b = a ∨ H b = some (.own a)) → h.get? b = some u → h'.get? b = some u)
    (ho : ∀ b, H b = some (.own a) → H' b = some (.own a)) (ht : ∀ b xs, H b = some (.tup xs) → H' b = some (.tup xs)) : ObjOk P w H' h' a o := by
  induction o with
  | lst xs => obtain ⟨z, its, n, r, e⟩ := x; exact ⟨z, its, n, r, k _ _ (.inl rfl) e⟩
  | tup xs => obtain ⟨z, its, r, ob, e, c⟩ := x; exact ⟨z, its, r, ob, k _ _ (.inl rfl) e, c⟩
  | dK kvs => obtain ⟨z, y, vs, r, ob, es, ep, e, c⟩ := x; exact ⟨z, y, vs, r, ob, es, ep, k _ _ (.inl rfl) e, c⟩
  | dT kvs =>
    obtain ⟨z, y, xs, r, ob, es, ep, e, c⟩ := x
    exact ⟨z, y, xs, Paired.mapP r fun p q z => ⟨z.1, ht _ _ z.2.1, z.2.2⟩, ob, es, ep, k _ _ (.inl rfl) e, c⟩
  | set S n => obtain ⟨ob, es, ep, t, e, c⟩ := x; exact ⟨ob, es, ep, t, k _ _ (.inl rfl) e, c⟩
  | ins C dx fs =>
    obtain ⟨d, z, ne, e, mA, ⟨od, es, ep, e2, c⟩, r⟩ := x
    exact ⟨ho _ d, z, ne, k _ _ (.inl rfl) e, mA, ⟨od, es, ep, k _ _ (.inr d) e2, c⟩, r⟩
  | own y => obtain ⟨ob, e⟩ := x; exact ⟨ob, k _ _ (.inl rfl) e⟩
  | xd fs => obtain ⟨mA, ⟨od, es, ep, e, c⟩, r⟩ := x; exact ⟨mA, ⟨od, es, ep, k _ _ (.inl rfl) e, c⟩, r⟩
  | rng lo hi => obtain ⟨t, u, v, e⟩ := x; exact ⟨t, u, v, k _ _ (.inl rfl) e⟩
  | frz ob u ih => obtain ⟨e, q⟩ := x; exact ⟨k _ _ (.inl rfl) e, ih q⟩
  | tbl ps =>
    have e : h.get? a = some { cls := .none, data := .fields ps } := x
    show h'.get? a = some { cls := .none, data := .fields ps }
    exact k a _ (.inl rfl) e
  | met f y =>
    have e : h.get? a = some (PySem.W.methodObj (.ref f) (.ref y)) := x
    show h'.get? a = some (PySem.W.methodObj (.ref f) (.ref y))
    exact k a _ (.inl rfl) e
  | ext φ => obtain ⟨p, ⟨o, e⟩, st⟩ := x; exact ⟨st _ _ p fun o q => k _ _ (.inl rfl) q, ⟨o, k _ _ (.inl rfl) e⟩, st⟩
theorem HOk.lt (x : HOk P w H h) (e : H a = some o) : a < h.objs.size := (x a o e).lt
theorem HOk.fresh (x : HOk P w H h) (e : h.objs.size ≤ a) : H a = none := by
  cases q : H a with
  | none => rfl
  | some u => exact absurd (Nat.lt_of_lt_of_le (x.lt q) e) (Nat.lt_irrefl _)
/-- every object of the heap is kept -/
theorem HOk.kept (x : HOk P w H h) (k : ∀ b u, h.get? b = some u → h'.get? b = some u) : HOk P w H h' := fun a o e =>
  (x a o e).stay (fun b u _ q => k b u q) (fun _ q => q) fun _ _ q => q
/-- a new object is laid and tracked -/
theorem HOk.laid (x : HOk P w H h) (k : ∀ b u, h.get? b = some u → h'.get? b = some u) (hp : h.objs.size ≤ a) (new : ObjOk P w (upd H a o) h' a o) : HOk P w (upd H a o) h' := fun b u e => by
  have hn := x.fresh hp
  by_cases hb : b = a
  · subst hb; rw [upd_same] at e; cases e; exact new
  · rw [upd_ne hb] at e
    exact (x b u e).stay (fun c v _ q => k c v q) (fun c q => by rw [upd_ne (ne_of_none q hn)]; exact q) fun c xs q => by rw [upd_ne (ne_of_none q hn)]; exact q
end

/-- what may be read as u: it is u, or a known u -/
def Rd (H : Hp) (a : Addr) (u : HO) : Prop := H a = some u ∨ ∃ o, H a = some (.frz o u)
theorem Rd.of {H : Hp} {a : Addr} {u : HO} (h : H a = some u) : Rd H a u := .inl h
theorem Rd.ok {P : Program} {w : World} {H : Hp} {h : Heap} {a : Addr} {u : HO} (r : Rd H a u) (x : HOk P w H h) : ObjOk P w H h a u := by
  rcases r with r | ⟨o, r⟩
  · exact x a u r
  · obtain ⟨_, q⟩ := x a _ r
    exact q
/-- what may be written -/
def Mut : Option HO → Prop
  | some (.lst _) => True
  | some (.dK _) => True
  | some (.dT _) => True
  | some (.set _ _) => True
  | some (.ins _ _ _) => True
  | some (.ext _) => True
  | _ => False
section
variable {P : Program} {w : World} {H : Hp} {h h' : Heap} {x e : Addr} {o' : HO}
/-- the object at e is changed: x itself, or the dict of the instance x -/
theorem HOk.write (ok : HOk P w H h) (mu : Mut (H x)) (he : e = x ∨ H e = some (.own x)) (k : ∀ b u, b ≠ e → h.get? b = some u → h'.get? b = some u) (heo : ∃ u, h'.get? e = some u)
    (new : ObjOk P w (upd H x o') h' x o') : HOk P w (upd H x o') h' := fun b u q => by
  have nown : ∀ c y, H c = some (.own y) → c ≠ x := fun c y r z => by subst z; rw [r] at mu; exact mu
  have ntup : ∀ c xs, H c = some (.tup xs) → c ≠ x := fun c xs r z => by subst z; rw [r] at mu; exact mu
  by_cases hb : b = x
  · subst hb; rw [upd_same] at q; cases q; exact new
  · rw [upd_ne hb] at q
    by_cases hbe : b = e
    · have q' : H b = some (.own x) := by
        rcases he with z | z
        · exact absurd (hbe.trans z) hb
        · rw [hbe]; exact z
      rw [q] at q'; cases q'
      obtain ⟨v, hv⟩ := heo
      exact ⟨v, by rw [hbe]; exact hv⟩
    · refine (ok b u q).stay (fun c v hc r => k c v ?_ r) (fun c r => by rw [upd_ne (nown c b r)]; exact r) fun c xs r => by rw [upd_ne (ntup c xs r)]; exact r
      rcases hc with rfl | hc
      · exact hbe
      · rintro rfl
        rcases he with z | z
        · exact nown c b hc z
        · rw [hc] at z; cases z; exact hb rfl
end

/-! ### kept unless tracked; of the frames at fs (the callers') the slots may change (an exception that passes writes there); of the records at ex (iterators) nothing is said -/
structure Un (fs ex : List Addr) (H H' : Hp) (h h' : Heap) : Prop where
  keep : ∀ b o, h.get? b = some o → H b = none → b ∉ fs → b ∉ ex → h'.get? b = some o
  slot : ∀ b o, h.get? b = some o → H b = none → b ∈ fs → b ∉ ex → ∃ sl, h'.get? b = some { o with slots := sl }
  free : ∀ b o, h.get? b = some o → H b = none → b ∉ ex → H' b = none
  there : ∀ b o, h.get? b = some o → b ∉ ex → ∃ o', h'.get? b = some o'
  tups : ∀ b xs, H b = some (.tup xs) → H' b = some (.tup xs)
  frzs : ∀ b o u, H b = some (.frz o u) → H' b = some (.frz o u)
  tbls : ∀ b ps, H b = some (.tbl ps) → ∃ more, H' b = some (.tbl (ps ++ more))
section
variable {fs fs' ex ex' : List Addr} {H H1 H2 : Hp} {h h1 h2 h' : Heap} {a x e : Addr} {o : HO}
theorem Un.any (u : Un fs ex H H1 h h1) {b : Addr} {ob : Obj} (q : h.get? b = some ob) (n : H b = none) (hx : b ∉ ex) : ∃ sl, h1.get? b = some { ob with slots := sl } := by
  by_cases hb : b ∈ fs
  · exact u.slot b ob q n hb hx
  · exact ⟨ob.slots, u.keep b ob q n hb hx⟩
theorem Un.trans (a : Un fs ex H H1 h h1) (b : Un fs ex H1 H2 h1 h2) : Un fs ex H H2 h h2 where
  keep := fun c ob q n hc hx => b.keep c ob (a.keep c ob q n hc hx) (a.free c ob q n hx) hc hx
  slot := fun c ob q n hc hx => by
    obtain ⟨sl, e1⟩ := a.slot c ob q n hc hx
    obtain ⟨sl', e2⟩ := b.slot c _ e1 (a.free c ob q n hx) hc hx
    exact ⟨sl', e2⟩
  free := fun c ob q n hx => by
    obtain ⟨o', e1⟩ := a.there c ob q hx
    exact b.free c o' e1 (a.free c ob q n hx) hx
  there := fun c ob q hx => by
    obtain ⟨o', e1⟩ := a.there c ob q hx
    exact b.there c o' e1 hx
  tups := fun c xs q => b.tups c xs (a.tups c xs q)
  frzs := fun c ob xs q => b.frzs c ob xs (a.frzs c ob xs q)
  tbls := fun c ps q => by
    obtain ⟨m1, e1⟩ := a.tbls c ps q
    obtain ⟨m2, e2⟩ := b.tbls c _ e1
    exact ⟨m1 ++ m2, by rw [e2, Array.append_assoc]⟩
theorem Un.kept (k : ∀ b u, h.get? b = some u → h'.get? b = some u) : Un fs ex H H h h' :=
  ⟨fun b ob q _ _ _ => k b ob q, fun b ob q _ _ _ => ⟨ob.slots, k b ob q⟩, fun _ _ _ n _ => n, fun b ob q _ => ⟨ob, k b ob q⟩, fun _ _ q => q, fun _ _ _ q => q, fun _ ps q => ⟨#[], by rw [q]; simp⟩⟩
theorem Un.refl : Un fs ex H H h h := Un.kept fun _ _ q => q
theorem Un.laid (k : ∀ b u, h.get? b = some u → h'.get? b = some u) (hp : h.objs.size ≤ a) (hn : H a = none) : Un fs ex H (upd H a o) h h' where
  keep := fun b u q _ _ _ => k b u q
  slot := fun b u q _ _ _ => ⟨u.slots, k b u q⟩
  free := fun b u q n _ => by rw [upd_ne (Nat.ne_of_lt (Nat.lt_of_lt_of_le (Heap.lt_size q) hp))]; exact n
  there := fun b u q _ => ⟨u, k b u q⟩
  tups := fun b xs q => by rw [upd_ne (ne_of_none q hn)]; exact q
  frzs := fun b u xs q => by rw [upd_ne (ne_of_none q hn)]; exact q
  tbls := fun b ps q => ⟨#[], by rw [upd_ne (ne_of_none q hn), q]; simp⟩
theorem Un.write (mu : Mut (H x)) (he : e = x ∨ H e = some (.own x)) (k : ∀ b u, b ≠ e → h.get? b = some u → h'.get? b = some u) (heo : ∃ u, h'.get? e = some u) : Un fs ex H (upd H x o) h h' := by
  have hx : ∀ b, H b = none → b ≠ x := fun b n z => by subst z; rw [n] at mu; exact mu
  have hb : ∀ b, H b = none → b ≠ e := fun b n z => by
    subst z
    rcases he with r | r
    · exact hx b n r
    · rw [n] at r; cases r
  have hm : ∀ b u, H b = some u → ¬ Mut (some u) → b ≠ x := fun b u q nm z => by subst z; rw [q] at mu; exact nm mu
  refine ⟨fun b u q n _ _ => k b u (hb b n) q, fun b u q n _ _ => ⟨u.slots, k b u (hb b n) q⟩, fun b u q n _ => by rw [upd_ne (hx b n)]; exact n, fun b u q _ => ?_,
    fun b xs q => by rw [upd_ne (hm b _ q fun z => z)]; exact q, fun b u xs q => by rw [upd_ne (hm b _ q fun z => z)]; exact q, fun b ps q => ⟨#[], by rw [upd_ne (hm b _ q fun z => z), q]; simp⟩⟩
  by_cases hbe : b = e
  · subst hbe; exact heo
  · exact ⟨u, k b u hbe q⟩
theorem Un.mono (u : Un fs ex H H1 h h1) (hs : ∀ b ∈ fs, b ∈ fs') (hx : ∀ b ∈ ex, b ∈ ex') : Un fs' ex' H H1 h h1 :=
  ⟨fun b ob q n hb he => u.keep b ob q n (fun z => hb (hs b z)) fun z => he (hx b z), fun _ _ q n _ he => u.any q n fun z => he (hx _ z), fun b ob q n he => u.free b ob q n fun z => he (hx b z), fun b ob q he => u.there b ob q fun z => he (hx b z), u.tups, u.frzs, u.tbls⟩
end

/-! ### the heap without what is tracked -/
def trk (h : Heap) (H : Hp) : List Addr := (List.range h.objs.size).filter fun a => (H a).isSome
def hidT (h : Heap) (H : Hp) : Heap := PySem.W.hideAll h (trk h H)
theorem hidT_size (h : Heap) (H : Hp) : (hidT h H).objs.size = h.objs.size := PySem.W.hideAll_size _ _
theorem hidT_get {h : Heap} {H : Hp} {b : Addr} {o : Obj} (e : h.get? b = some o) (n : H b = none) : (hidT h H).get? b = some o :=
  PySem.W.hideAll_get _ e fun hm => by
    have q : (H b).isSome = true := (List.mem_filter.mp hm).2
    rw [n] at q; simp at q
theorem of_hidT {h : Heap} {H : Hp} {b : Addr} {o : Obj} (e : (hidT h H).get? b = some o) : h.get? b = some o ∧ H b = none := by
  have e' : h.get? b = some o := PySem.W.of_hideAll (trk h H) e
  refine ⟨e', ?_⟩
  cases q : H b with
  | none => rfl
  | some x =>
    have hm : b ∈ trk h H := List.mem_filter.mpr ⟨List.mem_range.mpr (Heap.lt_size e'), by simp [q]⟩
    have z : (hidT h H).get? b = none := PySem.W.hideAll_none (trk h H) hm
    rw [z] at e; cases e

/-! ### OpenK's ledger, filled with every new object but one -/
def allNews (g h : Heap) (L : Addr) : List (Addr × Obj) := (List.range h.objs.size).filterMap fun a => if a = L ∨ (g.get? a).isSome = true then none else (h.get? a).map fun o => (a, o)
theorem mem_allNews {g h : Heap} {L a : Addr} {o : Obj} (h1 : a ≠ L) (h2 : g.get? a = none) (h3 : h.get? a = some o) : (a, o) ∈ allNews g h L :=
  List.mem_filterMap.mpr ⟨a, List.mem_range.mpr (Heap.lt_size h3), by simp [h1, h2, h3]⟩
theorem of_mem_allNews {g h : Heap} {L : Addr} {p : Addr × Obj} (hp : p ∈ allNews g h L) : p.1 ≠ L ∧ g.get? p.1 = none ∧ h.get? p.1 = some p.2 := by
  obtain ⟨b, _, e⟩ := List.mem_filterMap.mp hp
  split at e
  · cases e
  · rename_i hn
    cases q : h.get? b with
    | none => rw [q] at e; simp at e
    | some u =>
      rw [q] at e
      simp only [Option.map_some, Option.some.injEq] at e
      subst e
      refine ⟨fun z => hn (.inl z), ?_, q⟩
      show g.get? b = none
      cases r : g.get? b with
      | none => rfl
      | some v => exact (hn (.inr (by simp [r]))).elim
def rest (g h : Heap) (L d : Addr) : List (Addr × Obj) := (allNews g h L).filter fun p => decide (p.1 ≠ d)
theorem rest_ne {g h : Heap} {L d : Addr} : ∀ p ∈ rest g h L d, p.1 ≠ d := fun p hp => of_decide_eq_true (List.mem_filter.mp hp).2
theorem mem_rest {g h : Heap} {L d a : Addr} {o : Obj} (h1 : a ≠ L) (h2 : g.get? a = none) (h3 : h.get? a = some o) (h4 : a ≠ d) : (a, o) ∈ rest g h L d :=
  List.mem_filter.mpr ⟨mem_allNews h1 h2 h3, decide_eq_true h4⟩
theorem news_all {g h : Heap} {L : Addr} : News g L h (allNews g h L) := fun p hp => let ⟨a, b, c⟩ := of_mem_allNews hp; ⟨c, a, b⟩
theorem news_at {g h : Heap} {L d : Addr} {o : Obj} (h1 : d ≠ L) (h2 : g.get? d = none) (h3 : h.get? d = some o) : News g L h ((d, o) :: rest g h L d) := fun p hp => by
  rcases List.mem_cons.mp hp with rfl | hp
  · exact ⟨h3, h1, h2⟩
  · exact news_all p (List.mem_filter.mp hp).1
/-- behind a rule that changed d alone: all else but the frame is kept -/
theorem kept_of_news {g h h' : Heap} {L d : Addr} {m : Str → Option Value} (k : ∀ b o, g.get? b = some o → h.get? b = some o) (F : Fr g L h' m) (N : News g L h' (rest g h L d)) :
    ∀ b o, b ≠ L → b ≠ d → h.get? b = some o → h'.get? b = some o := fun b o h1 h2 e => by
  cases q : g.get? b with
  | some u =>
    have := k b u q
    rw [e] at this; cases this
    exact F.keep b _ q
  | none => exact (N (b, o) (mem_rest h1 q e h2)).1
end L2

namespace L2
open PySem PySem.Spec PyProof.Rows

/-- the module's facts, over the base: the heap at the law's entry without what is tracked there -/
structure Mod (K : PySem.W.Frag) (mg : Str → Option Value) (base : Heap) : Prop where
  kin : K.In base
  glob : base.Ns mainGlobals mg
  blt : ∃ mb, base.Ns builtinsNs mb ∧ ∀ x : Str, x ≠ "__name__" → mb x = bootBuiltins x
  nolimit : base.NoLimit

/-- the context: a def's body (or a comprehension's block) running. base: fixed through the whole law; s₀, H₀: the entry; outer: the frames whose slots others may change (a def's callers); stack: all frames that run;
   ex: iterators that were made ahead of the entry and are walked here (a comprehension's); fn: the names whose cells were made at the entry (a def: all; a comprehension's block: its own); calm: not within an except suite; pn: pins that every state bears; xe: what is wanted of an exception that leaves the code -/
structure Cx where
  prog : Program
  w : World
  K : PySem.W.Frag
  mg : Str → Option Value
  base : Heap
  A : Around
  N : List Str
  s₀ : Shared
  H₀ : Hp
  env : Env
  outer : List Env
  stack : List Env
  ex : List Addr
  fn : Str → Bool
  calm : Bool
  pn : List (Addr × Obj)
  xe : Value → Shared → Prop
/-- the callers' frames -/
def frs (l : List Env) : List Addr := l.filterMap (·.frame)
abbrev Cx.fs (X : Cx) : List Addr := frs X.outer

def Vis (sc : Scope) (x : Str) : Prop := sc.names.lookup x = some .local ∨ sc.names.lookup x = some .cell ∨ sc.names.lookup x = some .free
def Loc (sc : Scope) (x : Str) : Prop := sc.names.lookup x = some .local ∨ sc.names.lookup x = some .cell
def Look (env : Env) (h : Heap) (m : Str → Option Value) (x : Str) (u : Value) : Prop :=
  (env.kindOf x = some .local ∧ m x = some u) ∨ ((env.kindOf x = some .cell ∨ env.kindOf x = some .free) ∧ ∃ c, env.cells.lookup x = some c ∧ h.IsCell c (some u))

structure Cx.Ok (X : Cx) : Prop where
  mod : Mod X.K X.mg X.base
  kind : X.env.scope.kind = .function
  glob : X.env.globals = mainGlobals
  blt : X.env.builtins = builtinsNs
  above : X.s₀.heap.objs.size ≤ X.env.locals
  inj : ∀ x y c, X.env.cells.lookup x = some c → X.env.cells.lookup y = some c → x = y
  has : ∀ x, (X.env.kindOf x = some .cell ∨ X.env.kindOf x = some .free) → ∃ c, X.env.cells.lookup x = some c
  cab : ∀ x c, X.fn x = true → X.env.cells.lookup x = some c → X.s₀.heap.objs.size ≤ c
  hd : X.calm = true → X.A.handled = none
  frames : X.A.frames = some X.stack
  stk : X.stack = X.outer ∨ (X.stack = X.env :: X.outer ∧ X.env.frame = some X.env.locals)
  exf : ∀ b ∈ X.ex, b ≠ X.env.locals ∧ ∀ x c, X.env.cells.lookup x = some c → c ≠ b
  bs : ∀ b o, X.base.get? b = some o → X.s₀.heap.get? b = some o ∧ X.H₀ b = none
  bsz : X.base.objs.size ≤ X.s₀.heap.objs.size
  noex : ∀ b o, X.base.get? b = some o → b ∉ X.ex
  exfs : ∀ b ∈ X.ex, b ∉ X.fs
  funs : X.s₀.heap.FunFrames X.base X.outer
  frf : ∀ b ∈ X.fs, X.H₀ b = none

structure Inv (X : Cx) (pins : List (Addr × Obj)) (σ : List (Option V)) (H : Hp) (s : Shared) : Prop where
  ok : X.Ok
  os : s.os = X.s₀.os
  bare : AllBare s.gens
  base : Un X.fs X.ex X.H₀ H X.s₀.heap s.heap
  loc : ∃ m, s.heap.Ns X.env.locals m ∧ ∀ (i : Nat) (x : Str) (v : V), X.N[i]? = some x → σ[i]? = some (some v) → Vis X.env.scope x → ∃ u, RelV v u ∧ Look X.env s.heap m x u
  cell : ∀ x c, X.env.cells.lookup x = some c → ∃ v, s.heap.IsCell c v
  free : H X.env.locals = none
  freeC : ∀ x c, X.env.cells.lookup x = some c → H c = none
  pin : ∀ p ∈ X.pn ++ pins, s.heap.get? p.1 = some p.2 ∧ H p.1 = none ∧ p.1 ≠ X.env.locals ∧ p.1 ∉ X.fs ∧ ∀ v, p.2.data ≠ .cell v
  hok : HOk X.prog X.w H s.heap
  len : σ.length = X.N.length

section
variable {X : Cx} {pins : List (Addr × Obj)} {σ : List (Option V)} {H H' : Hp} {s : Shared} {h' : Heap}

theorem Cx.Ok.nofr (ok : X.Ok) {b : Addr} {o : Obj} (e : X.base.get? b = some o) : b ∉ X.fs := fun hb => by
  have := (ok.funs.mem hb).1
  rw [e] at this; cases this
theorem Inv.bs (I : Inv X pins σ H s) : ∀ b o, X.base.get? b = some o → s.heap.get? b = some o ∧ H b = none := fun b o e =>
  ⟨I.base.keep b o (I.ok.bs b o e).1 (I.ok.bs b o e).2 (I.ok.nofr e) (I.ok.noex b o e), I.base.free b o (I.ok.bs b o e).1 (I.ok.bs b o e).2 (I.ok.noex b o e)⟩
theorem Inv.bk (I : Inv X pins σ H s) : ∀ b o, X.base.get? b = some o → s.heap.get? b = some o := fun b o e => (I.bs b o e).1
theorem Inv.mod (I : Inv X pins σ H s) : Mod X.K X.mg X.base := I.ok.mod
theorem Inv.kIn (I : Inv X pins σ H s) : X.K.In s.heap := I.ok.mod.kin.keeps I.bk
theorem Inv.nolimit (I : Inv X pins σ H s) : s.heap.NoLimit := I.ok.mod.nolimit.keeps I.bk
/-- the frame over the base: for OpenK's rules (K.In X.base is I.mod.kin) -/
theorem Inv.fr (I : Inv X pins σ H s) : ∃ m, Fr X.base X.env.locals s.heap m :=
  let ⟨m, hn, _⟩ := I.loc
  ⟨m, hn, I.bk, Nat.le_trans I.ok.bsz I.ok.above⟩
theorem Inv.lt (I : Inv X pins σ H s) : X.env.locals < s.heap.objs.size := let ⟨_, hn, _⟩ := I.loc; hn.lt
theorem Inv.sz (I : Inv X pins σ H s) : X.s₀.heap.objs.size ≤ s.heap.objs.size := Nat.le_trans I.ok.above (Nat.le_of_lt I.lt)
theorem Inv.nofs (I : Inv X pins σ H s) {a : Addr} (h : s.heap.objs.size ≤ a) : a ∉ X.fs := fun hb => by
  obtain ⟨_, o, ho, _⟩ := I.ok.funs.mem hb
  exact absurd (Nat.lt_of_lt_of_le (Heap.lt_size ho) (Nat.le_trans I.sz h)) (Nat.lt_irrefl _)
theorem Inv.cne (I : Inv X pins σ H s) : ∀ x c, X.env.cells.lookup x = some c → c ≠ X.env.locals := fun x c e z => by
  obtain ⟨v, o, ho, hd⟩ := I.cell x c e
  obtain ⟨m, ⟨o', es, ep, ho', hd', _⟩, _⟩ := I.loc
  rw [z, ho'] at ho; cases ho; rw [hd'] at hd; cases hd
theorem Inv.funs (I : Inv X pins σ H s) : s.heap.FunFrames X.base X.outer := by
  have all : ∀ (l : List Env), (∀ b ∈ frs l, b ∈ X.fs) → X.s₀.heap.FunFrames X.base l → s.heap.FunFrames X.base l := by
    intro l
    induction l with
    | nil => intro _ _; trivial
    | cons env r ih =>
      intro hs hl
      obtain ⟨hk, ⟨L, o, hf, hn, ho, hd⟩, hr⟩ := hl
      have hL : L ∈ X.fs := hs L (by unfold frs; rw [List.filterMap_cons, hf]; exact List.mem_cons_self)
      obtain ⟨sl, e⟩ := I.base.slot L o ho (I.ok.frf L hL) hL fun z => I.ok.exfs L z hL
      exact ⟨hk, ⟨L, _, hf, hn, e, hd⟩, ih (fun b hb => hs b (by unfold frs; rw [List.filterMap_cons, hf]; exact List.mem_cons_of_mem _ hb)) hr⟩
  exact all X.outer (fun _ hb => hb) I.ok.funs

/-- the frames that run, for a call -/
theorem Inv.stack (I : Inv X pins σ H s) : s.heap.FunFrames X.base X.stack := by
  rcases I.ok.stk with e | ⟨e, hf⟩
  · rw [e]; exact I.funs
  · rw [e]
    obtain ⟨m, hn, _⟩ := I.loc
    refine .cons (by rw [I.ok.kind]; decide) hf hn ?_ I.funs
    exact Heap.get?_none_of_le (Nat.le_trans I.ok.bsz I.ok.above)
theorem Inv.stkSub (I : Inv X pins σ H s) : ∀ b ∈ frs X.stack, b ∈ X.env.locals :: X.fs := fun b hb => by
  rcases I.ok.stk with e | ⟨e, hf⟩
  · rw [e] at hb; exact List.mem_cons_of_mem _ hb
  · rw [e] at hb
    unfold frs at hb
    rw [List.filterMap_cons, hf] at hb
    exact hb
theorem Inv.stkFree (I : Inv X pins σ H s) : ∀ b ∈ frs X.stack, H b = none := fun b hb => by
  rcases List.mem_cons.mp (I.stkSub b hb) with e | hb
  · rw [e]; exact I.free
  · obtain ⟨_, o, ho, _⟩ := I.ok.funs.mem hb
    exact I.base.free b o ho (I.ok.frf b hb) fun z => I.ok.exfs b z hb

/-- THE STEP: the untracked objects but the frame and the records at ch are kept (the callers' frames up to slots), the frame's map is kept, the new abstract heap is held -/
theorem Inv.step {g' : Array GenState} {t' : Nat} {d' : Drawn} {ch : List Addr} (I : Inv X pins σ H s)
    (hch : ∀ b ∈ ch, (b ∈ X.ex ∨ X.s₀.heap.objs.size ≤ b) ∧ b ≠ X.env.locals ∧ (∀ x c, X.env.cells.lookup x = some c → c ≠ b) ∧ ∀ p ∈ X.pn ++ pins, p.1 ≠ b)
    (keep : ∀ b o, b ≠ X.env.locals → b ∉ X.fs → b ∉ ch → s.heap.get? b = some o → H b = none → h'.get? b = some o)
    (slot : ∀ b o, b ≠ X.env.locals → b ∈ X.fs → b ∉ ch → s.heap.get? b = some o → H b = none → ∃ sl, h'.get? b = some { o with slots := sl }) (free : ∀ b o, b ∉ ch → s.heap.get? b = some o → H b = none → H' b = none)
    (there : ∀ b o, b ∉ ch → s.heap.get? b = some o → ∃ o', h'.get? b = some o')
    (tups : ∀ b xs, H b = some (.tup xs) → H' b = some (.tup xs)) (frzs : ∀ b o u, H b = some (.frz o u) → H' b = some (.frz o u)) (tbls : ∀ b ps, H b = some (.tbl ps) → ∃ more, H' b = some (.tbl (ps ++ more)))
    (ns : ∀ m, s.heap.Ns X.env.locals m → h'.Ns X.env.locals m) (hok : HOk X.prog X.w H' h') (hg : AllBare g') :
    Inv X pins σ H' { s with heap := h', gens := g', drawn := d', toks := t' } := by
  have neL : ∀ b o, X.s₀.heap.get? b = some o → b ≠ X.env.locals := fun b o e => Nat.ne_of_lt (Nat.lt_of_lt_of_le (Heap.lt_size e) I.ok.above)
  have neC : ∀ b o, X.s₀.heap.get? b = some o → b ∉ X.ex → b ∉ ch := fun b o e hx hb => by
    rcases (hch b hb).1 with z | z
    · exact hx z
    · exact absurd (Nat.lt_of_lt_of_le (Heap.lt_size e) z) (Nat.lt_irrefl _)
  have cellK : ∀ x c, X.env.cells.lookup x = some c → ∀ v, s.heap.IsCell c v → h'.IsCell c v := fun x c e v ⟨o, ho, hd⟩ => by
    have nch : c ∉ ch := fun z => (hch c z).2.2.1 x c e rfl
    by_cases hc : c ∈ X.fs
    · obtain ⟨sl, q⟩ := slot c o (I.cne x c e) hc nch ho (I.freeC x c e)
      exact ⟨_, q, hd⟩
    · exact ⟨o, keep c o (I.cne x c e) hc nch ho (I.freeC x c e), hd⟩
  refine ⟨I.ok, I.os, hg, ⟨fun b o e n hb hx => ?_, fun b o e n hb hx => ?_, fun b o e n hx => ?_, fun b o e hx => ?_, fun b xs e => tups b xs (I.base.tups b xs e), fun b o xs e => frzs b o xs (I.base.frzs b o xs e), fun b ps e => ?_⟩, ?_, fun x c e => ?_, ?_, fun x c e => ?_, fun p hp => ?_, hok, I.len⟩
  · exact keep b o (neL b o e) hb (neC b o e hx) (I.base.keep b o e n hb hx) (I.base.free b o e n hx)
  · obtain ⟨sl, e1⟩ := I.base.slot b o e n hb hx
    obtain ⟨sl', e2⟩ := slot b _ (neL b o e) hb (neC b o e hx) e1 (I.base.free b o e n hx)
    exact ⟨sl', e2⟩
  · obtain ⟨o', e1⟩ := I.base.there b o e hx
    exact free b o' (neC b o e hx) e1 (I.base.free b o e n hx)
  · obtain ⟨o', e1⟩ := I.base.there b o e hx
    exact there b o' (neC b o e hx) e1
  · obtain ⟨m1, e1⟩ := I.base.tbls b ps e
    obtain ⟨m2, e2⟩ := tbls b _ e1
    exact ⟨m1 ++ m2, by rw [e2, Array.append_assoc]⟩
  · obtain ⟨m, hn, hl⟩ := I.loc
    refine ⟨m, ns m hn, fun i x v e1 e2 e3 => ?_⟩
    obtain ⟨u, r, l⟩ := hl i x v e1 e2 e3
    refine ⟨u, r, ?_⟩
    rcases l with l | ⟨k, c, e, z⟩
    · exact .inl l
    · exact .inr ⟨k, c, e, cellK x c e _ z⟩
  · obtain ⟨v, z⟩ := I.cell x c e
    exact ⟨v, cellK x c e v z⟩
  · obtain ⟨m, ⟨o, _, _, ho, _⟩, _⟩ := I.loc
    exact free _ o (fun z => (hch _ z).2.1 rfl) ho I.free
  · obtain ⟨v, o, ho, hd⟩ := I.cell x c e
    exact free c o (fun z => (hch c z).2.2.1 x c e rfl) ho (I.freeC x c e)
  · obtain ⟨e, n, ne, nf, d⟩ := I.pin p hp
    have nch : p.1 ∉ ch := fun z => (hch p.1 z).2.2.2 p hp rfl
    exact ⟨keep p.1 p.2 ne nf nch e n, free p.1 p.2 nch e n, ne, nf, d⟩
/-- .. where the frame's own object is kept too -/
theorem Inv.un {t' : Nat} (I : Inv X pins σ H s) (u : Un X.fs [] H H' s.heap h') (hok : HOk X.prog X.w H' h') : Inv X pins σ H' { s with heap := h', toks := t' } := by
  obtain ⟨m, ⟨o, es, ep, ho, r⟩, _⟩ := id I.loc
  obtain ⟨sl, hL⟩ := u.any ho I.free (by simp)
  exact I.step (g' := s.gens) (d' := s.drawn) (ch := []) (fun _ z => nomatch z) (fun b o _ hb _ e n => u.keep b o e n hb (by simp)) (fun b o _ hb _ e n => u.slot b o e n hb (by simp)) (fun b o _ e n => u.free b o e n (by simp)) (fun b o _ e => u.there b o e (by simp)) u.tups u.frzs u.tbls (fun m' hm => by
    obtain ⟨o', es', ep', ho', r'⟩ := hm
    rw [ho] at ho'; cases ho'
    exact ⟨_, es', ep', hL, r'⟩) hok I.bare
/-- behind a call (or a comprehension's block): the slots of this frame may have changed too, the records at ch may have turned -/
theorem Inv.call {g' : Array GenState} {t' : Nat} {d' : Drawn} {ch : List Addr} (I : Inv X pins σ H s) (u : Un (frs X.stack) ch H H' s.heap h') (hok : HOk X.prog X.w H' h') (hg : AllBare g')
    (hch : ∀ b ∈ ch, (b ∈ X.ex ∨ X.s₀.heap.objs.size ≤ b) ∧ b ≠ X.env.locals ∧ (∀ x c, X.env.cells.lookup x = some c → c ≠ b) ∧ ∀ p ∈ X.pn ++ pins, p.1 ≠ b) :
    Inv X pins σ H' { s with heap := h', gens := g', drawn := d', toks := t' } := by
  obtain ⟨m, ⟨o, es, ep, ho, r⟩, _⟩ := id I.loc
  obtain ⟨sl, hL⟩ := u.any ho I.free fun z => (hch _ z).2.1 rfl
  exact I.step (ch := ch) hch (fun b o hL hb hc e n => u.keep b o e n (fun z => (List.mem_cons.mp (I.stkSub b z)).elim hL hb) hc) (fun b o _ _ hc e n => u.any e n hc) (fun b o hc e n => u.free b o e n hc) (fun b o hc e => u.there b o e hc) u.tups u.frzs u.tbls (fun m' hm => by
    obtain ⟨o', es', ep', ho', r'⟩ := hm
    rw [ho] at ho'; cases ho'
    exact ⟨_, es', ep', hL, r'⟩) hok hg
/-- an untracked record of ours (an iterator) has turned -/
theorem Inv.turned {t' : Nat} {it : Addr} (I : Inv X pins σ H s) (k : ∀ b o, b ≠ it → s.heap.get? b = some o → h'.get? b = some o) (hn : H it = none) (hL : it ≠ X.env.locals)
    (h1 : it ∈ X.ex ∨ X.s₀.heap.objs.size ≤ it) (h2 : ∀ x c, X.env.cells.lookup x = some c → c ≠ it) (h3 : ∀ p ∈ X.pn ++ pins, p.1 ≠ it) : Inv X pins σ H { s with heap := h', toks := t' } := by
  have nit : ∀ b u, H b = some u → b ≠ it := fun b u e z => by rw [z, hn] at e; cases e
  refine I.step (g' := s.gens) (d' := s.drawn) (ch := [it]) (fun b hb => ?_) (fun b o _ _ hc e _ => k b o (fun z => hc (by simp [z])) e) (fun b o _ _ hc e _ => ⟨o.slots, k b o (fun z => hc (by simp [z])) e⟩) (fun _ _ _ _ n => n)
    (fun b o hc e => ⟨o, k b o (fun z => hc (by simp [z])) e⟩) (fun _ _ e => e) (fun _ _ _ e => e) (fun b ps e => ⟨#[], by rw [e]; simp⟩) (fun m hm => ?_) (fun b u e => ?_) I.bare
  · have e : b = it := by simpa using hb
    subst e
    exact ⟨h1, hL, h2, h3⟩
  · obtain ⟨o, es, ep, ho, r⟩ := hm
    exact ⟨o, es, ep, k _ o (Ne.symm hL) ho, r⟩
  · refine (I.hok b u e).stay (fun c v hc q => k c v ?_ q) (fun _ q => q) fun _ _ q => q
    rcases hc with z | z
    · rw [z]; exact nit b u e
    · exact nit c _ z
theorem Inv.tok (I : Inv X pins σ H s) (t : Nat) : Inv X pins σ H { s with toks := t } := I.un (h' := s.heap) (t' := t) Un.refl I.hok
/-- all objects kept -/
theorem Inv.kept {t' : Nat} (I : Inv X pins σ H s) (k : ∀ b u, s.heap.get? b = some u → h'.get? b = some u) : Inv X pins σ H { s with heap := h', toks := t' } := I.un (Un.kept k) (I.hok.kept k)
/-- a new object laid and tracked -/
theorem Inv.laid {a : Addr} {o : HO} {t' : Nat} (I : Inv X pins σ H s) (k : ∀ b u, s.heap.get? b = some u → h'.get? b = some u) (hp : s.heap.objs.size ≤ a) (new : ObjOk X.prog X.w (upd H a o) h' a o) :
    Inv X pins σ (upd H a o) { s with heap := h', toks := t' } := I.un (Un.laid k hp (I.hok.fresh hp)) (I.hok.laid k hp new)
/-- an object written -/
theorem Inv.write {x e : Addr} {o : HO} {t' : Nat} (I : Inv X pins σ H s) (mu : Mut (H x)) (he : e = x ∨ H e = some (.own x)) (k : ∀ b u, b ≠ e → s.heap.get? b = some u → h'.get? b = some u) (heo : ∃ u, h'.get? e = some u)
    (new : ObjOk X.prog X.w (upd H x o) h' x o) : Inv X pins σ (upd H x o) { s with heap := h', toks := t' } := I.un (Un.write mu he k heo) (I.hok.write mu he k heo new)
/-- forgetting slots, pins -/
theorem Inv.weak {σ' : List (Option V)} (I : Inv X pins σ H s) (hl : σ'.length = σ.length) (w : ∀ (i : Nat) v, σ'[i]? = some (some v) → σ[i]? = some (some v)) : Inv X pins σ' H s :=
  ⟨I.ok, I.os, I.bare, I.base, let ⟨m, hn, hl'⟩ := I.loc; ⟨m, hn, fun i x v e1 e2 e3 => hl' i x v e1 (w i v e2) e3⟩, I.cell, I.free, I.freeC, I.pin, I.hok, hl.trans I.len⟩
theorem Inv.pins_of {pins' : List (Addr × Obj)} (I : Inv X pins σ H s) (h : ∀ p ∈ pins', s.heap.get? p.1 = some p.2 ∧ H p.1 = none ∧ p.1 ≠ X.env.locals ∧ p.1 ∉ X.fs ∧ ∀ v, p.2.data ≠ .cell v) : Inv X pins' σ H s :=
  ⟨I.ok, I.os, I.bare, I.base, I.loc, I.cell, I.free, I.freeC, fun p hp => (List.mem_append.mp hp).elim (fun z => I.pin p (List.mem_append_left _ z)) (h p), I.hok, I.len⟩

theorem nodup_ix {N : List Str} (hN : N.Nodup) {i j : Nat} {x : Str} (a : N[i]? = some x) (b : N[j]? = some x) : i = j := by
  obtain ⟨h1, e1⟩ := List.getElem?_eq_some_iff.mp a
  obtain ⟨h2, e2⟩ := List.getElem?_eq_some_iff.mp b
  exact (List.getElem_inj hN).mp (e1.trans e2.symm)

/-- a name is stored; what changed -/
theorem store_ok2 {M : Model} {A : Around} {E : Value → Shared → Prop} {i : Nat} {x : Str} {v : V} {u : Value} {Q : Unit → Shared → Prop} (I : Inv X pins σ H s) (hN : X.N.Nodup) (hi : X.N[i]? = some x) (hx : Loc X.env.scope x) (r : RelV v u)
    (h : ∀ s', Inv X pins (σ.set i (some v)) H s' → (∃ a, Heap.SameBut a s.heap s'.heap ∧ (a = X.env.locals ∨ X.env.cells.lookup x = some a)) → Q () s') (hf : X.fn x = true ∨ X.env.scope.names.lookup x = some .local := by first | exact .inl rfl | exact .inr rfl | assumption) : wpAny M A (storeName X.env x u) Q E s := by
  obtain ⟨m, hn, hl⟩ := id I.loc
  have hcls : (X.env.scope.kind == .class || (X.env.scope.kind == .module && X.env.locals != X.env.globals)) = false := by rw [I.ok.kind]; rfl
  have hiσ : i < σ.length := by rw [I.len]; exact (List.getElem?_eq_some_iff.mp hi).1
  have cne := I.cne
  have tracked : ∀ {a : Addr} {h' : Heap}, (∃ o, s.heap.get? a = some o ∧ H a = none) → Heap.SameBut a s.heap h' → HOk X.prog X.w H h' := fun {a h'} ha hs b ob e => by
    obtain ⟨_, _, hfree⟩ := ha
    refine (I.hok b ob e).stay (fun c w' hc q => (hs.2 c ?_).trans q) (fun _ q => q) fun _ _ q => q
    rintro rfl
    rcases hc with rfl | hc
    · rw [hfree] at e; cases e
    · rw [hfree] at hc; cases hc
  rcases hx with hk | hk
  · refine wpAny_storeName_local hk hn (fun h' hn' hs => ?_) hcls
    obtain ⟨oL, _, _, hoL, _⟩ := id hn
    refine h _ ⟨I.ok, I.os, I.bare, ⟨fun b o e n hb hx => ?_, fun b o e n hb hx => ?_, I.base.free, fun b o e hx => ?_, I.base.tups, I.base.frzs, I.base.tbls⟩, ⟨_, hn', fun j y v' e1 e2 e3 => ?_⟩, fun y c e => ?_, I.free, I.freeC, fun p hp => ?_, tracked ⟨oL, hoL, I.free⟩ hs, by simpa using I.len⟩ ⟨_, hs, .inl rfl⟩
    · exact (hs.2 b (Nat.ne_of_lt (Nat.lt_of_lt_of_le (Heap.lt_size e) I.ok.above))).trans (I.base.keep b o e n hb hx)
    · obtain ⟨sl, e1⟩ := I.base.slot b o e n hb hx
      exact ⟨sl, (hs.2 b (Nat.ne_of_lt (Nat.lt_of_lt_of_le (Heap.lt_size e) I.ok.above))).trans e1⟩
    · obtain ⟨o', e1⟩ := I.base.there b o e hx
      exact ⟨o', (hs.2 b (Nat.ne_of_lt (Nat.lt_of_lt_of_le (Heap.lt_size e) I.ok.above))).trans e1⟩
    · by_cases hj : j = i
      · subst hj
        rw [hi] at e1; cases e1
        rw [List.getElem?_set_self hiσ] at e2
        cases e2
        exact ⟨u, r, .inl ⟨hk, by simp⟩⟩
      · rw [List.getElem?_set_ne (Ne.symm hj)] at e2
        obtain ⟨u', r', q⟩ := hl j y v' e1 e2 e3
        refine ⟨u', r', ?_⟩
        rcases q with ⟨k, e⟩ | ⟨k, c, e, z⟩
        · refine .inl ⟨k, ?_⟩
          have : y ≠ x := fun e => hj (nodup_ix hN e1 (e ▸ hi))
          simp [this, e]
        · exact .inr ⟨k, c, e, z.sameBut hs (cne y c e)⟩
    · obtain ⟨w', z⟩ := I.cell y c e
      exact ⟨w', z.sameBut hs (cne y c e)⟩
    · obtain ⟨e, n, ne, nf, d⟩ := I.pin p hp
      exact ⟨(hs.2 p.1 ne).trans e, n, ne, nf, d⟩
  · have hfn : X.fn x = true := by
      rcases hf with z | z
      · exact z
      · rw [z] at hk; cases hk
    obtain ⟨c, hc⟩ := I.ok.has x (.inl hk)
    obtain ⟨w', z⟩ := I.cell x c hc
    refine wpAny_storeName_cell I.ok.kind hk hc z (fun h' hc' hs => ?_)
    obtain ⟨oc, hoc, hocd⟩ := id z
    refine h { s with heap := h' } ⟨I.ok, I.os, I.bare, ⟨fun b o e n hb hx => ?_, fun b o e n hb hx => ?_, I.base.free, fun b o e hx => ?_, I.base.tups, I.base.frzs, I.base.tbls⟩, ⟨m, hn.sameBut hs (Ne.symm (cne x c hc)), fun j y v' e1 e2 e3 => ?_⟩, fun y c' e => ?_, I.free, I.freeC, fun p hp => ?_, tracked ⟨oc, hoc, I.freeC x c hc⟩ hs, by simpa using I.len⟩ ⟨c, hs, .inr hc⟩
    · exact (hs.2 b (Nat.ne_of_lt (Nat.lt_of_lt_of_le (Heap.lt_size e) (I.ok.cab x c hfn hc)))).trans (I.base.keep b o e n hb hx)
    · obtain ⟨sl, e1⟩ := I.base.slot b o e n hb hx
      exact ⟨sl, (hs.2 b (Nat.ne_of_lt (Nat.lt_of_lt_of_le (Heap.lt_size e) (I.ok.cab x c hfn hc)))).trans e1⟩
    · obtain ⟨o', e1⟩ := I.base.there b o e hx
      exact ⟨o', (hs.2 b (Nat.ne_of_lt (Nat.lt_of_lt_of_le (Heap.lt_size e) (I.ok.cab x c hfn hc)))).trans e1⟩
    · by_cases hj : j = i
      · subst hj
        rw [hi] at e1; cases e1
        rw [List.getElem?_set_self hiσ] at e2
        cases e2
        exact ⟨u, r, .inr ⟨.inl hk, c, hc, hc'⟩⟩
      · rw [List.getElem?_set_ne (Ne.symm hj)] at e2
        obtain ⟨u', r', q⟩ := hl j y v' e1 e2 e3
        refine ⟨u', r', ?_⟩
        rcases q with q | ⟨k, c', e, z'⟩
        · exact .inl q
        · refine .inr ⟨k, c', e, z'.sameBut hs ?_⟩
          rintro rfl
          exact hj (nodup_ix hN e1 (I.ok.inj _ _ _ e hc ▸ hi))
    · by_cases hcc : c' = c
      · subst hcc; exact ⟨_, hc'⟩
      · obtain ⟨w2, z2⟩ := I.cell y c' e
        exact ⟨w2, z2.sameBut hs hcc⟩
    · obtain ⟨e, n, ne, nf, d⟩ := I.pin p hp
      refine ⟨(hs.2 p.1 ?_).trans e, n, ne, nf, d⟩
      intro q
      rw [q, hoc] at e
      have q' : oc = p.2 := Option.some.inj e
      exact d w' (by rw [← q']; exact hocd)
theorem store_ok {M : Model} {A : Around} {E : Value → Shared → Prop} {i : Nat} {x : Str} {v : V} {u : Value} {Q : Unit → Shared → Prop} (I : Inv X pins σ H s) (hN : X.N.Nodup) (hi : X.N[i]? = some x) (hx : Loc X.env.scope x) (r : RelV v u)
    (h : ∀ s', Inv X pins (σ.set i (some v)) H s' → Q () s') (hf : X.fn x = true ∨ X.env.scope.names.lookup x = some .local := by first | exact .inl rfl | exact .inr rfl | assumption) : wpAny M A (storeName X.env x u) Q E s :=
  store_ok2 I hN hi hx r (fun s' I' _ => h s' I') hf
/-- behind a call or a block, the state as it is -/
theorem Inv.call' {s' : Shared} {ch : List Addr} (I : Inv X pins σ H s) (ho : s'.os = s.os) (u : Un (frs X.stack) ch H H' s.heap s'.heap) (hok : HOk X.prog X.w H' s'.heap) (hg : AllBare s'.gens)
    (hch : ∀ b ∈ ch, (b ∈ X.ex ∨ X.s₀.heap.objs.size ≤ b) ∧ b ≠ X.env.locals ∧ (∀ x c, X.env.cells.lookup x = some c → c ≠ b) ∧ ∀ p ∈ X.pn ++ pins, p.1 ≠ b) : Inv X pins σ H' s' := by
  obtain ⟨h', g', d', t', o'⟩ := s'
  have e : o' = s.os := ho
  subst e
  exact I.call (g' := g') (t' := t') (d' := d') u hok hg hch
end

/-! ### the judgements -/
/-- an exception: its class, its own dict's address (where it has one), the abstract heap behind it -/
abbrev XK := Value → Option Addr → Hp → Prop
abbrev St := List (Option V)
abbrev VK := V → Hp → Prop
/-- an expression's reading; a test's; an argument list's -/
abbrev TE := St → Hp → VK → Prop
abbrev TT := St → Hp → (Bool → Hp → Prop) → Prop
abbrev TA := St → Hp → (List V → Hp → Prop) → Prop
/-- what is wanted behind a statement -/
structure Ends where
  nx : St → Hp → Prop
  rt : VK
  bk : St → Hp → Prop := fun _ _ => False
  ct : St → Hp → Prop := fun _ _ => False
abbrev TS := Ends → St → Hp → Prop

def EP (X : Cx) (pins : List (Addr × Obj)) (σ : St) (Q : VK) (u : Value) (s' : Shared) : Prop := ∃ v H', Inv X pins σ H' s' ∧ RelV v u ∧ Q v H'
def TP (X : Cx) (pins : List (Addr × Obj)) (σ : St) (Q : Bool → Hp → Prop) (b : Bool) (s' : Shared) : Prop := ∃ H', Inv X pins σ H' s' ∧ Q b H'
def AP (X : Cx) (pins : List (Addr × Obj)) (σ : St) (Q : List V → Hp → Prop) (us : List Value) (s' : Shared) : Prop := ∃ vs H', Inv X pins σ H' s' ∧ Vals vs us ∧ Q vs H'
def SP (X : Cx) (pins : List (Addr × Obj)) (D : Ends) (f : Flow) (s' : Shared) : Prop :=
  match f with
  | .next => ∃ σ' H', Inv X pins σ' H' s' ∧ D.nx σ' H'
  | .brk => ∃ σ' H', Inv X pins σ' H' s' ∧ D.bk σ' H'
  | .cont => ∃ σ' H', Inv X pins σ' H' s' ∧ D.ct σ' H'
  | .ret u => ∃ v σ' H', Inv X pins σ' H' s' ∧ RelV v u ∧ D.rt v H'

structure PE (X : Cx) (e : Expr) (t : TE) : Prop where
  mk ::
  go :
  ∀ (pins : List (Addr × Obj)) (s : Shared) (σ : St) (H : Hp) (Q : VK), Inv X pins σ H s → t σ H Q → wpAny (model X.prog X.w) X.A (eval e X.env) (EP X pins σ Q) X.xe s
instance {X : Cx} {e : Expr} {t : TE} : CoeFun (PE X e t) (fun _ =>
  ∀ (pins : List (Addr × Obj)) (s : Shared) (σ : St) (H : Hp) (Q : VK), Inv X pins σ H s → t σ H Q → wpAny (model X.prog X.w) X.A (eval e X.env) (EP X pins σ Q) X.xe s) := ⟨PE.go⟩
structure PT (X : Cx) (e : Expr) (t : TT) : Prop where
  mk ::
  go :
  ∀ (pins : List (Addr × Obj)) (s : Shared) (σ : St) (H : Hp) (Q : Bool → Hp → Prop), Inv X pins σ H s → t σ H Q → wpAny (model X.prog X.w) X.A (isTrue e X.env (eval e X.env)) (TP X pins σ Q) X.xe s
instance {X : Cx} {e : Expr} {t : TT} : CoeFun (PT X e t) (fun _ =>
  ∀ (pins : List (Addr × Obj)) (s : Shared) (σ : St) (H : Hp) (Q : Bool → Hp → Prop), Inv X pins σ H s → t σ H Q → wpAny (model X.prog X.w) X.A (isTrue e X.env (eval e X.env)) (TP X pins σ Q) X.xe s) := ⟨PT.go⟩
/-- a test whatever its 'whole' is (and, or) -/
structure PW (X : Cx) (e : Expr) (t : TT) : Prop where
  mk ::
  go :
  ∀ (whole : Sem Value) (pins : List (Addr × Obj)) (s : Shared) (σ : St) (H : Hp) (Q : Bool → Hp → Prop), Inv X pins σ H s → t σ H Q → wpAny (model X.prog X.w) X.A (isTrue e X.env whole) (TP X pins σ Q) X.xe s
instance {X : Cx} {e : Expr} {t : TT} : CoeFun (PW X e t) (fun _ =>
  ∀ (whole : Sem Value) (pins : List (Addr × Obj)) (s : Shared) (σ : St) (H : Hp) (Q : Bool → Hp → Prop), Inv X pins σ H s → t σ H Q → wpAny (model X.prog X.w) X.A (isTrue e X.env whole) (TP X pins σ Q) X.xe s) := ⟨PW.go⟩
theorem PW.pt {X : Cx} {e : Expr} {t : TT} (h : PW X e t) : PT X e t := .mk <| h _
/-- an argument list (no star), from the left -/
structure PA (X : Cx) (es : List Expr) (t : TA) : Prop where
  mk ::
  go :
  ∀ (pos : Pos) (pins : List (Addr × Obj)) (s : Shared) (σ : St) (H : Hp) (Q : List V → Hp → Prop), Inv X pins σ H s → t σ H Q → wpAny (model X.prog X.w) X.A (spliced (backTo pos (starEach es X.env))) (AP X pins σ Q) X.xe s
instance {X : Cx} {es : List Expr} {t : TA} : CoeFun (PA X es t) (fun _ =>
  ∀ (pos : Pos) (pins : List (Addr × Obj)) (s : Shared) (σ : St) (H : Hp) (Q : List V → Hp → Prop), Inv X pins σ H s → t σ H Q → wpAny (model X.prog X.w) X.A (spliced (backTo pos (starEach es X.env))) (AP X pins σ Q) X.xe s) := ⟨PA.go⟩
structure PS (X : Cx) (st : Stmt) (t : TS) : Prop where
  mk ::
  go :
  ∀ (pins : List (Addr × Obj)) (s : Shared) (σ : St) (H : Hp) (D : Ends), Inv X pins σ H s → t D σ H → wpAny (model X.prog X.w) X.A (exec st X.env) (SP X pins D) X.xe s
instance {X : Cx} {st : Stmt} {t : TS} : CoeFun (PS X st t) (fun _ =>
  ∀ (pins : List (Addr × Obj)) (s : Shared) (σ : St) (H : Hp) (D : Ends), Inv X pins σ H s → t D σ H → wpAny (model X.prog X.w) X.A (exec st X.env) (SP X pins D) X.xe s) := ⟨PS.go⟩
structure PSs (X : Cx) (st : List Stmt) (t : TS) : Prop where
  mk ::
  go :
  ∀ (pins : List (Addr × Obj)) (s : Shared) (σ : St) (H : Hp) (D : Ends), Inv X pins σ H s → t D σ H → wpAny (model X.prog X.w) X.A (execs st X.env) (SP X pins D) X.xe s
instance {X : Cx} {st : List Stmt} {t : TS} : CoeFun (PSs X st t) (fun _ =>
  ∀ (pins : List (Addr × Obj)) (s : Shared) (σ : St) (H : Hp) (D : Ends), Inv X pins σ H s → t D σ H → wpAny (model X.prog X.w) X.A (execs st X.env) (SP X pins D) X.xe s) := ⟨PSs.go⟩
/-- weaken the end -/
theorem thn {α : Type} {t : Sem α} {Q Q' : α → Shared → Prop} {M : Model} {A : Around} {E : Value → Shared → Prop} {s : Shared} (h : wpAny M A t Q E s) (hQ : ∀ a s, Q a s → Q' a s) : wpAny M A t Q' E s := wpAny_mono h hQ fun _ _ x => x
end L2

namespace L2
open PySem PySem.Spec PyProof.Rows
section
variable {X : Cx}

/-- two expressions in a row -/
theorem bin {a b : Expr} {ta tb : TE} (ha : PE X a ta) (hb : PE X b tb) {pins : List (Addr × Obj)} {s : Shared} {σ : St} {H : Hp} {R : V → V → Hp → Prop} (I : Inv X pins σ H s) (h : ta σ H fun x H1 => tb σ H1 fun y H2 => R x y H2)
    {α : Type} {Q : α → Shared → Prop} {f : Value → Value → Sem α}
    (hf : ∀ v u s2 x y H2, Inv X pins σ H2 s2 → RelV x v → RelV y u → R x y H2 → wpAny (model X.prog X.w) X.A (f v u) Q X.xe s2) :
    wpAny (model X.prog X.w) X.A (eval a X.env) (fun v s₁ => wpAny (model X.prog X.w) X.A (eval b X.env) (fun u s₂ => wpAny (model X.prog X.w) X.A (f v u) Q X.xe s₂) X.xe s₁) X.xe s := by
  refine thn (ha pins s σ H _ I h) fun v s1 ⟨x, H1, I1, r1, q1⟩ => ?_
  refine thn (hb pins s1 σ H1 _ I1 q1) fun u s2 ⟨y, H2, I2, r2, q2⟩ => ?_
  exact hf v u s2 x y H2 I2 r1 r2 q2

/-! ### names and constants -/
def tVar (i : Nat) : TE := fun σ H Q => ∃ v, σ[i]? = some (some v) ∧ Q v H
def tC (v : V) : TE := fun _ H Q => Q v H
theorem pe_var {i : Nat} {x : Str} {pos : Pos} (hN : X.N[i]? = some x) (hv : Vis X.env.scope x) (hd : (x == ("__debug__" : Str)) = false := by decide) (hcd : (x == ("__classdict__" : Str)) = false := by decide) : PE X (.Name x pos) (tVar i) := by
  refine .mk ?_
  intro pins s σ H Q I h
  obtain ⟨v, e, h⟩ := h
  obtain ⟨m, hn, hl⟩ := I.loc
  obtain ⟨u, r, l⟩ := hl i x v hN e hv
  have fin : EP X pins σ Q u s := ⟨v, H, I, r, h⟩
  rcases l with ⟨hk, hm⟩ | ⟨hk, c, hc, hcell⟩
  · exact wpAny_Name (wpAny_loadName_local I.ok.kind hk hn hm fin) hd
  · rcases hk with hk | hk
    · exact wpAny_Name (wpAny_loadName_cell I.ok.kind hk hc hcell fin) hd
    · exact wpAny_Name (wpAny_loadName_free I.ok.kind hk hc hcell fin hcd) hd
theorem pe_int {i j pos} : PE X (.Constant (.int i) j pos) (tC (.int i)) := .mk <| fun _ _ _ H _ I h => wpAny_Constant_int ⟨.int i, H, I.tok _, ⟨_, rfl⟩, h⟩
theorem pe_bl {b j pos} : PE X (.Constant (.bool b) j pos) (tC (.bl b)) := .mk <| fun _ _ _ H _ I h => Constant_bool ⟨.bl b, H, I, rfl, h⟩
theorem pe_non {j pos} : PE X (.Constant .none j pos) (tC .non) := .mk <| fun _ _ _ H _ I h => Constant_none ⟨.non, H, I, rfl, h⟩
theorem pe_str {x j pos} : PE X (.Constant (.str x) j pos) (tC (.str x)) := .mk <| fun _ _ _ H _ I h => Calls.Constant_str ⟨.str x, H, I.tok _, ⟨_, rfl⟩, h⟩

/-- a global name of the def -/
def Gl (X : Cx) (x : Str) : Prop := X.env.kindOf x = some .globalImplicit
theorem ld_glob {E : Value → Shared → Prop} {pins : List (Addr × Obj)} {s : Shared} {σ : St} {H : Hp} {x : Str} {u : Value} {pos : Pos} {Q : Value → Shared → Prop} (I : Inv X pins σ H s) (hg : Gl X x) (hm : X.mg x = some u) (h : Q u s)
    (hd : (x == ("__debug__" : Str)) = false := by decide) : wpAny (model X.prog X.w) X.A (eval (.Name x pos) X.env) Q E s :=
  Calls.Name_function_global I.ok.kind hg (Calls.loadGlobal_global (by rw [I.ok.glob]; exact I.mod.glob.keeps I.bk) hm h) hd
theorem ld_blt {E : Value → Shared → Prop} {pins : List (Addr × Obj)} {s : Shared} {σ : St} {H : Hp} {x : Str} {u : Value} {pos : Pos} {Q : Value → Shared → Prop} (I : Inv X pins σ H s) (hg : Gl X x) (hm : X.mg x = none) (hv : bootBuiltins x = some u) (h : Q u s)
    (hn : x ≠ "__name__" := by decide) (hd : (x == ("__debug__" : Str)) = false := by decide) : wpAny (model X.prog X.w) X.A (eval (.Name x pos) X.env) Q E s := by
  obtain ⟨mb, h1, h2⟩ := I.mod.blt
  exact Calls.Name_function_global I.ok.kind hg (Calls.loadGlobal_builtin (by rw [I.ok.glob]; exact I.mod.glob.keeps I.bk) hm (by rw [I.ok.blt]; exact h1.keeps I.bk) ((h2 x hn).trans hv) h) hd
/-- a module's constant, a class, a function, as a value -/
theorem pe_glob {x : Str} {v : V} {u : Value} {pos : Pos} (hg : Gl X x) (hm : X.mg x = some u) (r : RelV v u) (hd : (x == ("__debug__" : Str)) = false := by decide) : PE X (.Name x pos) (tC v) :=
  .mk <| fun _ _ _ H _ I h => ld_glob I hg hm ⟨v, H, I, r, h⟩ hd
theorem pe_bltn {x : Str} {v : V} {u : Value} {pos : Pos} (hg : Gl X x) (hm : X.mg x = none) (hv : bootBuiltins x = some u) (r : RelV v u) (hn : x ≠ "__name__" := by decide) (hd : (x == ("__debug__" : Str)) = false := by decide) : PE X (.Name x pos) (tC v) :=
  .mk <| fun _ _ _ H _ I h => ld_blt I hg hm hv ⟨v, H, I, r, h⟩ hn hd

/-! ### arithmetic -/
/-- two ints -/
def t2I (ta tb : TE) (k : Int → Int → Hp → Prop) : St → Hp → Prop := fun σ H => ta σ H fun x H1 => tb σ H1 fun y H2 => ∃ i j, x = .int i ∧ y = .int j ∧ k i j H2
def tAdd (ta tb : TE) : TE := fun σ H Q => t2I ta tb (fun i j H2 => Q (.int (i + j)) H2) σ H
def tSub (ta tb : TE) : TE := fun σ H Q => t2I ta tb (fun i j H2 => Q (.int (i - j)) H2) σ H
/-- the left factor below 2^64 -/
def tMul (ta tb : TE) : TE := fun σ H Q => t2I ta tb (fun i j H2 => (-(2 ^ 64) < i ∧ i < 2 ^ 64) ∧ Q (.int (i * j)) H2) σ H
variable {a b : Expr} {ta tb : TE} {pos : Pos}
theorem pe_add (ha : PE X a ta) (hb : PE X b tb) : PE X (.BinOp a .Add b pos) (tAdd ta tb) := by
  refine .mk ?_
  intro pins s σ H Q I h
  refine wpAny_BinOp (bin ha hb I h fun v u s2 x y H2 I2 rx ry q => ?_)
  obtain ⟨i, j, rfl, rfl, q⟩ := q
  obtain ⟨t, rfl⟩ := rx
  obtain ⟨t', rfl⟩ := ry
  exact add_int ⟨.int _, H2, I2.tok _, ⟨_, rfl⟩, q⟩
theorem pe_sub (ha : PE X a ta) (hb : PE X b tb) : PE X (.BinOp a .Sub b pos) (tSub ta tb) := by
  refine .mk ?_
  intro pins s σ H Q I h
  refine wpAny_BinOp (bin ha hb I h fun v u s2 x y H2 I2 rx ry q => ?_)
  obtain ⟨i, j, rfl, rfl, q⟩ := q
  obtain ⟨t, rfl⟩ := rx
  obtain ⟨t', rfl⟩ := ry
  exact sub_int ⟨.int _, H2, I2.tok _, ⟨_, rfl⟩, q⟩
theorem pe_mul (ha : PE X a ta) (hb : PE X b tb) : PE X (.BinOp a .Mult b pos) (tMul ta tb) := by
  refine .mk ?_
  intro pins s σ H Q I h
  refine wpAny_BinOp (bin ha hb I h fun v u s2 x y H2 I2 rx ry q => ?_)
  obtain ⟨i, j, rfl, rfl, ⟨q1, q2⟩, q⟩ := q
  obtain ⟨t, rfl⟩ := rx
  obtain ⟨t', rfl⟩ := ry
  exact mul_int ⟨.int _, H2, I2.tok _, ⟨_, rfl⟩, q⟩ (.of_left (intBits_le_64 q1 q2))

/-! ### comparisons -/
def PC (X : Cx) (op : CmpOp) (a b : Expr) (t : TE) : Prop :=
  ∀ (pins : List (Addr × Obj)) (s : Shared) (σ : St) (H : Hp) (Q : VK), Inv X pins σ H s → t σ H Q →
    wpAny (model X.prog X.w) X.A (eval a X.env) (fun v s₁ => wpAny (model X.prog X.w) X.A (eval b X.env) (fun u s₂ => wpAny (model X.prog X.w) X.A (compareOp op v u) (EP X pins σ Q) X.xe s₂) X.xe s₁) X.xe s
theorem nobehind (b : Expr) {op : CmpOp} (h : op ≠ .In) (h2 : op ≠ .NotIn) : behindInMarks op b = false := by
  have e1 : (op == CmpOp.In) = false := by cases op <;> first | rfl | exact absurd rfl h
  have e2 : (op == CmpOp.NotIn) = false := by cases op <;> first | rfl | exact absurd rfl h2
  cases b <;> simp [behindInMarks, e1, e2]
def tCmp (p : Int → Int → Bool) (ta tb : TE) : TE := fun σ H Q => t2I ta tb (fun i j H2 => Q (.bl (p i j)) H2) σ H
abbrev tLt : TE → TE → TE := tCmp fun i j => decide (i < j)
abbrev tLe : TE → TE → TE := tCmp fun i j => decide (i ≤ j)
abbrev tGt : TE → TE → TE := tCmp fun i j => decide (j < i)
abbrev tGe : TE → TE → TE := tCmp fun i j => decide (j ≤ i)
abbrev tEqI : TE → TE → TE := tCmp fun i j => decide (i = j)
abbrev tNeI : TE → TE → TE := tCmp fun i j => !decide (i = j)
/-- a comparison of two ints, by its rule -/
theorem pc_int {op : CmpOp} {p : Int → Int → Bool} (ha : PE X a ta) (hb : PE X b tb)
    (rule : ∀ (i j : Int) (t u : Tok) (Q : Value → Shared → Prop) (s : Shared), Q (.bool (p i j)) s → wpAny (model X.prog X.w) X.A (compareOp op (.int i t) (.int j u)) Q X.xe s) : PC X op a b (tCmp p ta tb) := by
  intro pins s σ H Q I h
  refine bin ha hb I h fun v u s2 x y H2 I2 rx ry q => ?_
  obtain ⟨i, j, rfl, rfl, q⟩ := q
  obtain ⟨t, rfl⟩ := rx
  obtain ⟨t', rfl⟩ := ry
  exact rule i j t t' _ s2 ⟨.bl _, H2, I2, rfl, q⟩
theorem pc_lt (ha : PE X a ta) (hb : PE X b tb) : PC X .Lt a b (tLt ta tb) := pc_int ha hb fun _ _ _ _ _ _ h => lt_int h
theorem pc_le (ha : PE X a ta) (hb : PE X b tb) : PC X .LtE a b (tLe ta tb) := pc_int ha hb fun _ _ _ _ _ _ h => le_int h
theorem pc_gt (ha : PE X a ta) (hb : PE X b tb) : PC X .Gt a b (tGt ta tb) := pc_int ha hb fun _ _ _ _ _ _ h => gt_int h
theorem pc_ge (ha : PE X a ta) (hb : PE X b tb) : PC X .GtE a b (tGe ta tb) := pc_int ha hb fun _ _ _ _ _ _ h => ge_int h
theorem pc_eqI (ha : PE X a ta) (hb : PE X b tb) : PC X .Eq a b (tEqI ta tb) := pc_int ha hb fun _ _ _ _ _ _ h => eq_int (by rw [Bool.beq_eq_decide_eq]; exact h)
theorem pc_neI (ha : PE X a ta) (hb : PE X b tb) : PC X .NotEq a b (tNeI ta tb) := pc_int ha hb fun _ _ _ _ _ _ h => ne_int (by rw [bne, Bool.beq_eq_decide_eq]; exact h)
/-- is None -/
def tIsN (ta : TE) : TE := fun σ H Q => ta σ H fun x H1 => Q (.bl (decide (x = .non))) H1
def tNotN (ta : TE) : TE := fun σ H Q => ta σ H fun x H1 => Q (.bl (!decide (x = .non))) H1
theorem RelV.none_iff {x : V} {v : Value} (r : RelV x v) : (v == Value.none) = decide (x = .non) := by
  cases x with
  | non => cases r; rfl
  | bl _ => cases r; rfl
  | int _ => obtain ⟨t, rfl⟩ := r; rfl
  | str _ => obtain ⟨t, rfl⟩ := r; rfl
  | byt _ => obtain ⟨t, rfl⟩ := r; rfl
  | flt _ => obtain ⟨t, rfl⟩ := r; rfl
  | ref _ => cases r; rfl
  | ty _ => cases r; rfl
theorem pc_isN {j pos'} (ha : PE X a ta) : PC X .Is a (.Constant .none j pos') (tIsN ta) := by
  intro pins s σ H Q I h
  refine thn (ha pins s σ H _ I h) fun v s1 ⟨x, H1, I1, r1, q1⟩ => ?_
  exact Constant_none (is_none_gen ⟨.bl _, H1, I1, by rw [r1.none_iff]; rfl, q1⟩)
theorem pc_notN {j pos'} (ha : PE X a ta) : PC X .IsNot a (.Constant .none j pos') (tNotN ta) := by
  intro pins s σ H Q I h
  refine thn (ha pins s σ H _ I h) fun v s1 ⟨x, H1, I1, r1, q1⟩ => ?_
  exact Constant_none (isnot_none_gen ⟨.bl _, H1, I1, by rw [r1.none_iff]; rfl, q1⟩)
/-- a comparison as a value, as a test -/
def tB (t : TE) : TT := fun σ H Q => t σ H fun x H1 => ∃ c, x = .bl c ∧ Q c H1
theorem pe_cmp {op : CmpOp} {t : TE} (h : PC X op a b t) (h1 : behindInMarks op b = false := by first | exact nobehind _ (by decide) (by decide) | rfl) : PE X (.Compare a [op] [b] pos) t := .mk <| fun pins s σ H Q I hw => wpAny_Compare1 (h pins s σ H Q I hw) h1
theorem pt_cmp {op : CmpOp} {t : TE} (h : PC X op a b t) (h1 : behindInMarks op b = false := by first | exact nobehind _ (by decide) (by decide) | rfl) : PT X (.Compare a [op] [b] pos) (tB t) := by
  refine .mk ?_
  intro pins s σ H Q I hw
  refine wpAny_isTrue_Compare1 (thn (h pins s σ H _ I hw) fun v s1 h1 => thn h1 fun u s2 h2 => thn h2 fun c s3 ⟨x, H1, I1, r1, q1⟩ => ?_) h1
  obtain ⟨d, rfl, q⟩ := q1
  cases r1
  exact wpAny_truthy_bool ⟨H1, I1, q⟩
/-- an expression whose value is a bool, as a test -/
theorem pt_val {e : Expr} {t : TE} (h : PE X e t) (he : ∀ whole, isTrue e X.env whole = (do let v ← whole; standAt e.pos; holding [v] (truthy v)) := by intro _; rfl) : PT X e (tB t) := by
  refine .mk ?_
  intro pins s σ H Q I hw
  refine isTrue_plain (thn (h pins s σ H _ I hw) fun v s1 ⟨x, H1, I1, r1, q1⟩ => ?_) (he _)
  obtain ⟨d, rfl, q⟩ := q1
  cases r1
  exact wpAny_truthy_bool ⟨H1, I1, q⟩

/-! ### and, or, not -/
variable {tA tB' : TT} {rest : List Expr}
def tAnd (t u : TT) : TT := fun σ H Q => t σ H fun c H1 => if c = true then u σ H1 Q else Q false H1
def tOr (t u : TT) : TT := fun σ H Q => t σ H fun c H1 => if c = true then Q true H1 else u σ H1 Q
def tNot (t : TT) : TT := fun σ H Q => t σ H fun c H1 => Q (!c) H1
theorem pw_and1 (ha : PT X a tA) : PW X (.BoolOp .And [a] pos) tA := by
  refine .mk ?_
  intro wh pins s σ H Q I h
  refine isTrue_and (thn (ha pins s σ H Q I h) fun c s1 e => ?_)
  cases c with
  | true => exact isTrue_and_nil e
  | false => exact e
theorem pw_or1 (ha : PT X a tA) : PW X (.BoolOp .Or [a] pos) tA := by
  refine .mk ?_
  intro wh pins s σ H Q I h
  refine isTrue_or (thn (ha pins s σ H Q I h) fun c s1 e => ?_)
  cases c with
  | false => exact isTrue_or_nil e
  | true => exact e
theorem pw_and (ha : PT X a tA) (hb : PW X (.BoolOp .And (b :: rest) pos) tB') : PW X (.BoolOp .And (a :: b :: rest) pos) (tAnd tA tB') := by
  refine .mk ?_
  intro wh pins s σ H Q I h
  refine isTrue_and (thn (ha pins s σ H _ I h) fun c s1 ⟨H1, I1, q1⟩ => ?_)
  cases c with
  | true => exact hb wh pins s1 σ H1 Q I1 q1
  | false => exact ⟨H1, I1, q1⟩
theorem pw_or (ha : PT X a tA) (hb : PW X (.BoolOp .Or (b :: rest) pos) tB') : PW X (.BoolOp .Or (a :: b :: rest) pos) (tOr tA tB') := by
  refine .mk ?_
  intro wh pins s σ H Q I h
  refine isTrue_or (thn (ha pins s σ H _ I h) fun c s1 ⟨H1, I1, q1⟩ => ?_)
  cases c with
  | true => exact ⟨H1, I1, q1⟩
  | false => exact hb wh pins s1 σ H1 Q I1 q1
theorem pt_not (ha : PT X a tA) : PT X (.UnaryOp .Not a pos) (tNot tA) := by
  refine .mk ?_
  intro pins s σ H Q I h
  exact isTrue_not (ha pins s σ H (fun c H1 => Q (!c) H1) I h)
/-- .. as values (bools) -/
def tAndV (ta tb : TE) : TE := fun σ H Q => ta σ H fun x H1 => ∃ c, x = .bl c ∧ if c = true then tb σ H1 Q else Q (.bl false) H1
def tOrV (ta tb : TE) : TE := fun σ H Q => ta σ H fun x H1 => ∃ c, x = .bl c ∧ if c = true then Q (.bl true) H1 else tb σ H1 Q
def tNotV (ta : TE) : TE := fun σ H Q => ta σ H fun x H1 => ∃ c, x = .bl c ∧ Q (.bl (!c)) H1
theorem pe_one {op} {t : TE} (h : PE X a t) : PE X (.BoolOp op [a] pos) t := .mk <| fun pins s σ H Q I hw => BoolOp_one (h pins s σ H Q I hw)
theorem pe_and (ha : PE X a ta) (hb : PE X (.BoolOp .And (b :: rest) pos) tb) : PE X (.BoolOp .And (a :: b :: rest) pos) (tAndV ta tb) := by
  refine .mk ?_
  intro pins s σ H Q I h
  refine BoolOp_and (thn (ha pins s σ H _ I h) fun v s1 ⟨x, H1, I1, r1, q1⟩ => ?_)
  obtain ⟨c, rfl, q1⟩ := q1
  cases r1
  refine wpAny_truthy_bool ?_
  cases c with
  | true => exact hb pins s1 σ H1 Q I1 q1
  | false => exact ⟨.bl false, H1, I1, rfl, q1⟩
theorem pe_or (ha : PE X a ta) (hb : PE X (.BoolOp .Or (b :: rest) pos) tb) : PE X (.BoolOp .Or (a :: b :: rest) pos) (tOrV ta tb) := by
  refine .mk ?_
  intro pins s σ H Q I h
  refine BoolOp_or (thn (ha pins s σ H _ I h) fun v s1 ⟨x, H1, I1, r1, q1⟩ => ?_)
  obtain ⟨c, rfl, q1⟩ := q1
  cases r1
  refine wpAny_truthy_bool ?_
  cases c with
  | false => exact hb pins s1 σ H1 Q I1 q1
  | true => exact ⟨.bl true, H1, I1, rfl, q1⟩
theorem pe_not (ha : PE X a ta) : PE X (.UnaryOp .Not a pos) (tNotV ta) := by
  refine .mk ?_
  intro pins s σ H Q I h
  refine UnaryOp_ (thn (ha pins s σ H _ I h) fun v s1 ⟨x, H1, I1, r1, q1⟩ => ?_)
  obtain ⟨c, rfl, q1⟩ := q1
  cases r1
  exact not_of (wpAny_truthy_bool ⟨.bl (!c), H1, I1, rfl, q1⟩)
/-- a if t else b -/
def tIf (t : TT) (ta tb : TE) : TE := fun σ H Q => t σ H fun c H1 => if c = true then ta σ H1 Q else tb σ H1 Q
theorem pe_ifExp {c : Expr} (hc : PT X c tA) (ha : PE X a ta) (hb : PE X b tb) : PE X (.IfExp c a b pos) (tIf tA ta tb) := by
  refine .mk ?_
  intro pins s σ H Q I h
  refine wpAny_IfExp (thn (hc pins s σ H _ I h) fun d s1 ⟨H1, I1, q1⟩ => ?_)
  cases d with
  | true => exact ha pins s1 σ H1 Q I1 q1
  | false => exact hb pins s1 σ H1 Q I1 q1
end
end L2

namespace L2
open PySem PySem.Spec PyProof.Rows

/-! ### a list, a tuple that is read: tracked, frozen, or an object of the module -/
def SqL (K : PySem.W.Frag) (H : Hp) (a : Addr) (xs : List V) : Prop :=
  Rd H a (.lst xs) ∨
    ∃ (o : Obj) (its : Array Value) (n : Nat), K.lookup a = some o ∧ o.cls = .type "list" ∧ o.dict = none ∧ o.data = .seq its n ∧ its.size ≤ sizeLine ∧ Vals xs its.toList
def SqT (K : PySem.W.Frag) (H : Hp) (a : Addr) (xs : List V) : Prop :=
  Rd H a (.tup xs) ∨
    ∃ (o : Obj) (its : Array Value) (n : Nat), K.lookup a = some o ∧ o.cls = .type "tuple" ∧ o.data = .seq its n ∧ its.size ≤ sizeLine ∧ Vals xs its.toList
def absV : Value → Option V
  | .none => some .non
  | .bool b => some (.bl b)
  | .int i _ => some (.int i)
  | .str x _ => some (.str x)
  | .bytes b _ => some (.byt b)
  | .float b _ => some (.flt b)
  | .ref a => some (.ref a)
  | .type n => some (.ty n)
  | _ => none
theorem RelV.abs {x : V} {u : Value} (r : RelV x u) : absV u = some x := by
  cases x with
  | non => cases r; rfl
  | bl _ => cases r; rfl
  | int _ => obtain ⟨t, rfl⟩ := r; rfl
  | str _ => obtain ⟨t, rfl⟩ := r; rfl
  | byt _ => obtain ⟨t, rfl⟩ := r; rfl
  | flt _ => obtain ⟨t, rfl⟩ := r; rfl
  | ref _ => cases r; rfl
  | ty _ => cases r; rfl
theorem RelV.inj {x y : V} {u : Value} (r : RelV x u) (q : RelV y u) : x = y := Option.some.inj (r.abs.symm.trans q.abs)
theorem Vals.inj : ∀ {xs ys : List V} {us : List Value}, Vals xs us → Vals ys us → xs = ys
  | _, _, _, .nil, .nil => rfl
  | _, _, _, .cons r t, .cons r' t' => by rw [r.inj r', Vals.inj t t']
section
variable {X : Cx} {pins : List (Addr × Obj)} {σ : St} {H : Hp} {s : Shared} {a : Addr} {xs ys : List V}
theorem SqL.of {K : PySem.W.Frag} (h : H a = some (.lst xs)) : SqL K H a xs := .inl (.inl h)
theorem SqT.of {K : PySem.W.Frag} (h : H a = some (.tup xs)) : SqT K H a xs := .inl (.inl h)
theorem Inv.list (I : Inv X pins σ H s) (h : SqL X.K H a xs) : ∃ its : List Value, Vals xs its ∧ PlainL s.heap a its.toArray ∧ xs.length ≤ sizeLine := by
  rcases h with h | ⟨o, its, n, hk, hc, hd, hs, hz, r⟩
  · obtain ⟨z, its, n, r, e⟩ := h.ok I.hok
    exact ⟨its, r, ⟨_, n, e, rfl, rfl, rfl⟩, z⟩
  · refine ⟨its.toList, r, ⟨o, n, I.kIn a o hk, hc, hd, by simpa using hs⟩, ?_⟩
    have e := r.length
    simp only [Array.length_toList] at e
    omega
theorem Inv.tuple (I : Inv X pins σ H s) (h : SqT X.K H a xs) : ∃ its : List Value, Vals xs its ∧ IsTup s.heap a its.toArray ∧ xs.length ≤ sizeLine := by
  rcases h with h | ⟨o, its, n, hk, hc, hs, hz, r⟩
  · obtain ⟨z, its, r, p⟩ := h.ok I.hok
    exact ⟨its, r, p, z⟩
  · refine ⟨its.toList, r, ⟨o, I.kIn a o hk, hc, n, by simpa using hs⟩, ?_⟩
    have e := r.length
    simp only [Array.length_toList] at e
    omega
theorem Inv.list_inj (I : Inv X pins σ H s) (h : SqL X.K H a xs) (h' : SqL X.K H a ys) : xs = ys := by
  obtain ⟨its, r, ⟨o, n, e, _, _, d⟩, _⟩ := I.list h
  obtain ⟨its', r', ⟨o', n', e', _, _, d'⟩, _⟩ := I.list h'
  rw [e] at e'; cases e'
  rw [d] at d'
  injection d' with d1 _
  have : its = its' := by simpa using congrArg Array.toList d1
  subst this
  exact r.inj r'
theorem Inv.tuple_inj (I : Inv X pins σ H s) (h : SqT X.K H a xs) (h' : SqT X.K H a ys) : xs = ys := by
  obtain ⟨its, r, ⟨o, e, _, n, d⟩, _⟩ := I.tuple h
  obtain ⟨its', r', ⟨o', e', _, n', d'⟩, _⟩ := I.tuple h'
  rw [e] at e'; cases e'
  rw [d] at d'
  injection d' with d1 _
  have : its = its' := by simpa using congrArg Array.toList d1
  subst this
  exact r.inj r'
end

/-! ### another wish about exceptions -/
abbrev Cx.wish (X : Cx) (E : Value → Shared → Prop) : Cx := { X with xe := E }
/-- no exception leaves -/
abbrev Cx.nox (X : Cx) : Cx := X.wish fun _ _ => False
theorem Cx.Ok.wish {X : Cx} (ok : X.Ok) (E : Value → Shared → Prop) : (X.wish E).Ok :=
  ⟨ok.mod, ok.kind, ok.glob, ok.blt, ok.above, ok.inj, ok.has, ok.cab, ok.hd, ok.frames, ok.stk, ok.exf, ok.bs, ok.bsz, ok.noex, ok.exfs, ok.funs, ok.frf⟩
theorem Cx.Ok.unwish {X : Cx} {E : Value → Shared → Prop} (ok : (X.wish E).Ok) : X.Ok :=
  ⟨ok.mod, ok.kind, ok.glob, ok.blt, ok.above, ok.inj, ok.has, ok.cab, ok.hd, ok.frames, ok.stk, ok.exf, ok.bs, ok.bsz, ok.noex, ok.exfs, ok.funs, ok.frf⟩
section
variable {X : Cx} {pins : List (Addr × Obj)} {σ : St} {H : Hp} {s : Shared} {E : Value → Shared → Prop}
theorem Inv.wish (I : Inv X pins σ H s) (E : Value → Shared → Prop) : Inv (X.wish E) pins σ H s := ⟨I.ok.wish E, I.os, I.bare, I.base, I.loc, I.cell, I.free, I.freeC, I.pin, I.hok, I.len⟩
theorem Inv.unwish (I : Inv (X.wish E) pins σ H s) : Inv X pins σ H s := ⟨I.ok.unwish, I.os, I.bare, I.base, I.loc, I.cell, I.free, I.freeC, I.pin, I.hok, I.len⟩
theorem SP.unwish {D : Ends} {f : Flow} {s' : Shared} (h : SP (X.wish E) pins D f s') : SP X pins D f s' := by
  cases f with
  | next => obtain ⟨σ', H', I, q⟩ := h; exact ⟨σ', H', I.unwish, q⟩
  | brk => obtain ⟨σ', H', I, q⟩ := h; exact ⟨σ', H', I.unwish, q⟩
  | cont => obtain ⟨σ', H', I, q⟩ := h; exact ⟨σ', H', I.unwish, q⟩
  | ret u => obtain ⟨v, σ', H', I, r, q⟩ := h; exact ⟨v, σ', H', I.unwish, r, q⟩
theorem PE.nox {e : Expr} {t : TE} (h : PE X.nox e t) : PE X e t := .mk <| fun pins s σ H Q I hw =>
  wpAny_mono (h pins s σ H Q (I.wish _) hw) (fun _ _ ⟨v, H', I', r, q⟩ => ⟨v, H', I'.unwish, r, q⟩) fun _ _ z => False.elim z
theorem PT.nox {e : Expr} {t : TT} (h : PT X.nox e t) : PT X e t := .mk <| fun pins s σ H Q I hw =>
  wpAny_mono (h pins s σ H Q (I.wish _) hw) (fun _ _ ⟨H', I', q⟩ => ⟨H', I'.unwish, q⟩) fun _ _ z => False.elim z
theorem PSs.nox {st : List Stmt} {t : TS} (h : PSs X.nox st t) : PSs X st t := .mk <| fun pins s σ H D I hw =>
  wpAny_mono (h pins s σ H D (I.wish _) hw) (fun _ _ q => q.unwish) fun _ _ z => False.elim z
end

/-! ### blocks and small statements -/
section
variable {X : Cx} {st : Stmt} {rest : List Stmt} {t u : TS} {e : Expr} {te : TE} {pos : Pos}
def tNext : TS := fun D σ H => D.nx σ H
def tSeq (t u : TS) : TS := fun D σ H => t { D with nx := u D } σ H
theorem pss_nil : PSs X [] tNext := .mk <| fun _ _ σ H _ I h => wpAny_execs_nil ⟨σ, H, I, h⟩
theorem pss_cons (h1 : PS X st t) (h2 : PSs X rest u) : PSs X (st :: rest) (tSeq t u) := by
  refine .mk ?_
  intro pins s σ H D I h
  refine wpAny_execs_cons (thn (h1 pins s σ H { D with nx := u D } I h) fun f s1 q => ?_)
  cases f with
  | next =>
    obtain ⟨σ', H', I', q⟩ := q
    exact h2 pins s1 σ' H' D I' q
  | ret v => exact q
  | brk => exact q
  | cont => exact q
theorem pss_one (h1 : PS X st t) : PSs X [st] t := by
  refine .mk ?_
  intro pins s σ H D I h
  refine wpAny_execs_cons (thn (h1 pins s σ H D I h) fun f s1 q => ?_)
  cases f with
  | next => exact wpAny_execs_nil q
  | ret v => exact q
  | brk => exact q
  | cont => exact q
def tBreak : TS := fun D σ H => D.bk σ H
def tCont : TS := fun D σ H => D.ct σ H
theorem ps_pass : PS X (.Pass pos) tNext := .mk <| fun _ _ σ H _ I h => wpAny_Pass ⟨σ, H, I, h⟩
theorem ps_break : PS X (.Break pos) tBreak := .mk <| fun _ _ σ H _ I h => wpAny_Break ⟨σ, H, I, h⟩
theorem ps_continue : PS X (.Continue pos) tCont := .mk <| fun _ _ σ H _ I h => wpAny_Continue ⟨σ, H, I, h⟩
/-- in a def's body nothing is shown -/
theorem Inv.quiet {pins : List (Addr × Obj)} {σ : St} {H : Hp} {s : Shared} (I : Inv X pins σ H s) : interactive X.env = false := by simp [interactive, I.ok.kind]
/-- a docstring -/
theorem ps_doc {x j pos pos'} : PS X (.Expr (.Constant (.str x) j pos) pos') tNext := .mk <| fun _ s σ H _ I h => wpAny_Expr (Calls.Constant_str (show SP X _ _ .next { s with toks := s.toks + 1 } from ⟨σ, H, I.tok _, h⟩)) I.quiet
/-- an expression whose value is dropped -/
def tDrop (te : TE) : TS := fun D σ H => te σ H fun _ H1 => D.nx σ H1
theorem ps_expr (he : PE X e te) (hs : swapsWith e none pos.line X.env = pure false := by rfl) : PS X (.Expr e pos) (tDrop te) := by
  refine .mk ?_
  intro pins s σ H D I h
  exact wpAny_Expr_any (thn (he pins s σ H _ I h) fun v s1 ⟨x, H1, I1, r1, q1⟩ => ⟨σ, H1, I1, q1⟩) I.quiet hs
def tRet (te : TE) : TS := fun D σ H => te σ H D.rt
theorem ps_ret (he : PE X e te) : PS X (.Return (some e) pos) (tRet te) := by
  refine .mk ?_
  intro pins s σ H D I h
  exact wpAny_Return_some (thn (he pins s σ H _ I h) fun v s1 ⟨x, H1, I1, r1, q1⟩ => ⟨x, σ, H1, I1, r1, q1⟩)
def tRetN : TS := fun D _ H => D.rt .non H
theorem ps_retN : PS X (.Return none pos) tRetN := .mk <| fun _ _ σ H _ I h => wpAny_Return_none ⟨.non, σ, H, I, rfl, h⟩
def tIfS (c : TT) (t u : TS) : TS := fun D σ H => c σ H fun b H1 => if b = true then t D σ H1 else u D σ H1
theorem ps_if {c : Expr} {a b : List Stmt} {tc : TT} (hc : PT X c tc) (ha : PSs X a t) (hb : PSs X b u) : PS X (.If c a b pos) (tIfS tc t u) := by
  refine .mk ?_
  intro pins s σ H D I h
  refine wpAny_If (thn (hc pins s σ H _ I h) fun d s1 ⟨H1, I1, q1⟩ => ?_)
  cases d with
  | true => exact ha pins s1 σ H1 D I1 q1
  | false => exact hb pins s1 σ H1 D I1 q1
/-- code that the proof never comes to -/
def tNever : TS := fun _ _ _ => False
theorem ps_never : PS X st tNever := .mk <| fun _ _ _ _ _ _ h => h.elim
theorem pss_never {sts : List Stmt} : PSs X sts tNever := .mk <| fun _ _ _ _ _ _ h => h.elim
end

/-! ### targets -/
abbrev TG := V → St → Hp → (St → Hp → Prop) → Prop
abbrev TGs := List V → St → Hp → (St → Hp → Prop) → Prop
structure PG (X : Cx) (target : Expr) (t : TG) : Prop where
  mk ::
  go :
  ∀ (pins : List (Addr × Obj)) (s : Shared) (σ : St) (H : Hp) (v : V) (u : Value) (Q : St → Hp → Prop), Inv X pins σ H s → RelV v u → t v σ H Q →
    wpAny (model X.prog X.w) X.A (assign target X.env u) (fun _ s' => ∃ σ' H', Inv X pins σ' H' s' ∧ Q σ' H') X.xe s
instance {X : Cx} {target : Expr} {t : TG} : CoeFun (PG X target t) (fun _ =>
  ∀ (pins : List (Addr × Obj)) (s : Shared) (σ : St) (H : Hp) (v : V) (u : Value) (Q : St → Hp → Prop), Inv X pins σ H s → RelV v u → t v σ H Q →
    wpAny (model X.prog X.w) X.A (assign target X.env u) (fun _ s' => ∃ σ' H', Inv X pins σ' H' s' ∧ Q σ' H') X.xe s) := ⟨PG.go⟩
/-- several targets, one after another -/
structure PGs (X : Cx) (ts : List Expr) (t : TGs) : Prop where
  mk ::
  go :
  ∀ (pins : List (Addr × Obj)) (s : Shared) (σ : St) (H : Hp) (vs : List V) (us : List Value) (Q : St → Hp → Prop), Inv X pins σ H s → Vals vs us → t vs σ H Q →
    wpAny (model X.prog X.w) X.A (assignInOrder ((assignEach ts X.env).map (·.2)) us) (fun _ s' => ∃ σ' H', Inv X pins σ' H' s' ∧ Q σ' H') X.xe s
instance {X : Cx} {ts : List Expr} {t : TGs} : CoeFun (PGs X ts t) (fun _ =>
  ∀ (pins : List (Addr × Obj)) (s : Shared) (σ : St) (H : Hp) (vs : List V) (us : List Value) (Q : St → Hp → Prop), Inv X pins σ H s → Vals vs us → t vs σ H Q →
    wpAny (model X.prog X.w) X.A (assignInOrder ((assignEach ts X.env).map (·.2)) us) (fun _ s' => ∃ σ' H', Inv X pins σ' H' s' ∧ Q σ' H') X.xe s) := ⟨PGs.go⟩
/-- o[i] = v, by values -/
abbrev TSet := V → V → V → Hp → (Hp → Prop) → Prop
structure PSet (X : Cx) (t : TSet) : Prop where
  mk ::
  go :
  ∀ (pins : List (Addr × Obj)) (s : Shared) (σ : St) (H : Hp) (o i v : V) (ov iv u : Value) (Q : Hp → Prop), Inv X pins σ H s → RelV o ov → RelV i iv → RelV v u → t o i v H Q →
    wpAny (model X.prog X.w) X.A (setItem ov iv u) (fun _ s' => ∃ H', Inv X pins σ H' s' ∧ Q H') X.xe s
instance {X : Cx} {t : TSet} : CoeFun (PSet X t) (fun _ =>
  ∀ (pins : List (Addr × Obj)) (s : Shared) (σ : St) (H : Hp) (o i v : V) (ov iv u : Value) (Q : Hp → Prop), Inv X pins σ H s → RelV o ov → RelV i iv → RelV v u → t o i v H Q →
    wpAny (model X.prog X.w) X.A (setItem ov iv u) (fun _ s' => ∃ H', Inv X pins σ H' s' ∧ Q H') X.xe s) := ⟨PSet.go⟩
/-- a op= b, by values -/
abbrev TIp := V → V → Hp → VK → Prop
def PIp (X : Cx) (op : Operator) (t : TIp) : Prop :=
  ∀ (pins : List (Addr × Obj)) (s : Shared) (σ : St) (H : Hp) (x y : V) (v u : Value) (Q : VK), Inv X pins σ H s → RelV x v → RelV y u → t x y H Q →
    wpAny (model X.prog X.w) X.A (inplaceOp op v u) (EP X pins σ Q) X.xe s
section
variable {X : Cx} {pos : Pos}
def gName (i : Nat) : TG := fun v σ H Q => Q (σ.set i (some v)) H
theorem pg_name {i : Nat} {x : Str} (hN : X.N.Nodup) (hi : X.N[i]? = some x) (hx : Loc X.env.scope x) (hf : X.fn x = true ∨ X.env.scope.names.lookup x = some .local := by first | exact .inl rfl | exact .inr rfl | assumption) : PG X (.Name x pos) (gName i) := by
  refine .mk ?_
  intro pins s σ H v u Q I r h
  exact wpAny_assign_Name (store_ok I hN hi hx r (fun s' I' => ⟨_, H, I', h⟩) hf)
def gNil : TGs := fun vs σ H Q => vs = [] ∧ Q σ H
def gCons (t : TG) (u : TGs) : TGs := fun vs σ H Q => ∃ v r, vs = v :: r ∧ t v σ H fun σ' H' => u r σ' H' Q
theorem pgs_nil : PGs X [] gNil := by
  refine .mk ?_
  intro pins s σ H vs us Q I r h
  obtain ⟨e, h⟩ := h
  subst e
  cases r
  exact assignInOrder_nil ⟨σ, H, I, h⟩
theorem pgs_cons {e : Expr} {es : List Expr} {t : TG} {u : TGs} (h1 : PG X e t) (h2 : PGs X es u)
    (hs : (assignEach (e :: es) X.env).map (·.2) = assign e X.env :: (assignEach es X.env).map (·.2) := by rfl) : PGs X (e :: es) (gCons t u) := by
  refine .mk ?_
  intro pins s σ H vs us Q I r h
  obtain ⟨v, vr, e1, h⟩ := h
  subst e1
  cases r with
  | cons r rr =>
    rw [hs]
    refine assignInOrder_cons (thn (h1 pins s σ H _ _ _ I r h) fun _ s1 ⟨σ1, H1, I1, q1⟩ => ?_)
    exact h2 pins s1 σ1 H1 _ _ Q I1 rr q1
/-- (a, b, ..) = a tuple of that length -/
def gTup (K : PySem.W.Frag) (n : Nat) (t : TGs) : TG := fun v σ H Q => ∃ a xs, v = .ref a ∧ SqT K H a xs ∧ xs.length = n ∧ t xs σ H Q
theorem pg_tup {es : List Expr} {k : Nat} {t : TGs} {n : Nat} (hc : X.calm = true) (h : PGs X es t)
    (hn : (assignEach es X.env).length = n := by rfl) (hst : (assignEach es X.env).findIdx? (·.1) = none := by rfl) : PG X (.Tuple es k pos) (gTup X.K n t) := by
  refine .mk ?_
  intro pins s σ H v u Q I r hw
  obtain ⟨a, xs, e1, hq, hl, hw⟩ := hw
  subst e1
  cases r
  obtain ⟨its, rv, ht, hz⟩ := I.tuple hq
  refine assign_Tuple_tuple (I.ok.hd hc) ht (by simp [hn, ← hl, rv.length]) hst fun h' hx => ?_
  have I1 : Inv X pins σ H { s with heap := h' } := I.kept (t' := s.toks) fun b o e => hx b o (Nat.ne_of_lt (Heap.lt_size e)) e
  exact h pins _ σ H xs _ Q I1 (by simpa using rv) hw
/-- o[i] = .. -/
def gSub (to ti : TE) (t : TSet) : TG := fun v σ H Q => to σ H fun o H1 => ti σ H1 fun i H2 => t o i v H2 fun H3 => Q σ H3
theorem pg_sub {o i : Expr} {to ti : TE} {t : TSet} (ho : PE X o to) (hi : PE X i ti) (hs : PSet X t)
    (ha : ∀ v, assign (.Subscript o i pos) X.env v = (do
      let ov ← holding [v] (eval o X.env)
      let iv ← holding [v, ov] (eval i X.env)
      standAt pos
      holding [v, ov, iv] (setItem ov iv v)
      release [v, ov, iv] []) := by intro _; rfl) : PG X (.Subscript o i pos) (gSub to ti t) := by
  refine .mk ?_
  intro pins s σ H v u Q I r h
  rw [ha]
  refine wpAny_bind (wpAny_holding (thn (ho pins s σ H _ I h) fun ov s1 ⟨x, H1, I1, r1, q1⟩ => ?_))
  refine wpAny_bind (wpAny_holding (thn (hi pins s1 σ H1 _ I1 q1) fun iv s2 ⟨y, H2, I2, r2, q2⟩ => ?_))
  refine wpAny_bind (wpAny_standAt (wpAny_bind (wpAny_holding (thn (hs pins s2 σ H2 x y v ov iv u _ I2 r1 r2 r q2) fun _ s3 ⟨H3, I3, q3⟩ => ?_))))
  exact wpAny_release ⟨σ, H3, I3, q3⟩
/-- target = value -/
def tAsg (te : TE) (g : TG) : TS := fun D σ H => te σ H fun x H1 => g x σ H1 D.nx
theorem ps_asg {tg e : Expr} {te : TE} {g : TG} (he : PE X e te) (hg : PG X tg g) (hs : swapsWithSole [tg] e pos.line X.env = pure false := by rfl) (hw : swappedStores [tg] e X.env = pure none := by rfl)
    (h1 : (assignEach [tg] X.env).map (·.2) = [assign tg X.env] := by rfl) : PS X (.Assign [tg] e pos) (tAsg te g) := by
  refine .mk ?_
  intro pins s σ H D I h
  refine wpAny_Assign_stores (thn (he pins s σ H _ I h) fun v s1 ⟨x, H1, I1, r1, q1⟩ => ?_) hs hw
  rw [h1]
  exact thn (hg pins s1 σ H1 x v _ I1 r1 q1) fun _ s2 q => q
/-- name = value -/
theorem ps_set {i : Nat} {x : Str} {e : Expr} {te : TE} {pos' : Pos} (hN : X.N.Nodup) (hi : X.N[i]? = some x) (hx : Loc X.env.scope x) (he : PE X e te) (hs : swapsWith e (some (.Name x pos')) pos.line X.env = pure false := by rfl) (hf : X.fn x = true ∨ X.env.scope.names.lookup x = some .local := by first | exact .inl rfl | exact .inr rfl | assumption) :
    PS X (.Assign [.Name x pos'] e pos) (tAsg te (gName i)) := by
  refine .mk ?_
  intro pins s σ H D I h
  refine wpAny_Assign_Name (thn (he pins s σ H _ I h) fun v s1 ⟨y, H1, I1, r1, q1⟩ => ?_) hs
  exact store_ok I1 hN hi hx r1 (fun s2 I2 => ⟨_, H1, I2, q1⟩) hf
/-- a, b = x, y with plain local names: stored from the right; the pair itself is not tracked (the opening rows as in PyProof/Rows/TupAssign.lean:23) -/
def tPar (i j : Nat) (ta : TA) : TS := fun D σ H => ta σ H fun vs H1 => ∃ v w, vs = [v, w] ∧ D.nx ((σ.set i (some v)).set j (some w)) H1
theorem ps_par {i j : Nat} {x y : Str} {a b : Expr} {ta : TA} {px py pt : Pos} {kt k2 pt2} (hc : X.calm = true) (hN : X.N.Nodup) (hi : X.N[i]? = some x) (hj : X.N[j]? = some y) (hij : i ≠ j)
    (hx : X.env.scope.names.lookup x = some .local) (hy : X.env.scope.names.lookup y = some .local) (ha : PA X [a, b] ta)
    (hw : swappedStores [.Tuple [.Name x px, .Name y py] kt pt] (.Tuple [a, b] k2 pt2) X.env = pure (some [x, y]))
    (hs : swapsWithSole [.Tuple [.Name x px, .Name y py] kt pt] (.Tuple [a, b] k2 pt2) pos.line X.env = pure false := by rfl) :
    PS X (.Assign [.Tuple [.Name x px, .Name y py] kt pt] (.Tuple [a, b] k2 pt2) pos) (tPar i j ta) := by
  refine .mk ?_
  intro pins s σ H D I h
  rw [exec_Assign_arm]
  refine wpAny_bind (wpAny_standAt ?_)
  rw [hs]
  refine wpAny_bind (wpAny_pure ?_)
  rw [if_neg (by decide)]
  refine wpAny_bind (Tuple_ (thn (ha _ pins s σ H _ I h) fun us s1 ⟨vs, H1, I1, r1, q1⟩ => ?_))
  obtain ⟨v, w, e1, q1⟩ := q1
  subst e1
  obtain ⟨u1, u2, rfl, rv, rw'⟩ : ∃ u1 u2, us = [u1, u2] ∧ RelV v u1 ∧ RelV w u2 := by
    cases r1 with
    | cons p q =>
      cases q with
      | cons p' q' =>
        cases q'
        exact ⟨_, _, rfl, p, p'⟩
  refine wpAny_newObj_type ?_ (by show 2 ≤ sizeLine; decide)
  have I2 : Inv X pins σ H1 { s1 with heap := s1.heap.push { cls := .type "tuple", data := .seq [u1, u2].toArray } } := I1.kept (t' := s1.toks) fun b o e => Heap.get?_push_of_some _ e
  rw [hw]
  refine wpAny_bind (wpAny_pure ?_)
  show wpAny (model X.prog X.w) X.A (do rule "assign.swapped-stores"; let items ← unpackItems (.ref s1.heap.objs.size) 2 none; assignInOrder [fun v => bindName X.env y v, fun v => bindName X.env x v] items.reverse; pure Flow.next) _ _ _
  refine wpAny_bind (wpAny_rule (wpAny_bind (unpackItems_tuple (items := #[u1, u2]) (I.ok.hd hc) (IsTup.new s1.heap _) fun h' hx' => ?_)))
  have I3 := I2.kept (h' := h') (t' := s1.toks) fun b o e => hx' b o (Nat.ne_of_lt (Heap.lt_size e)) e
  show wpAny _ _ (assignInOrder [fun v => bindName X.env y v, fun v => bindName X.env x v] [u2, u1] >>= fun _ => pure Flow.next) _ _ _
  refine wpAny_bind (assignInOrder_cons (wpAny_bindName (store_ok I3 hN hj (.inl hy) rw' (fun s2 I4 => ?_) (.inr hy))))
  refine assignInOrder_cons (wpAny_bindName (store_ok I4 hN hi (.inl hx) rv (fun s3 I5 => assignInOrder_nil (wpAny_pure ?_)) (.inr hx)))
  rw [List.set_comm _ _ (Ne.symm hij)] at I5
  exact ⟨_, H1, I5, q1⟩
/-- name op= e -/
def tAug (i : Nat) (te : TE) (ti : TIp) : TS := fun D σ H => ∃ x, σ[i]? = some (some x) ∧ te σ H fun y H1 => ti x y H1 fun z H2 => D.nx (σ.set i (some z)) H2
theorem ps_aug {i : Nat} {x : Str} {e : Expr} {te : TE} {op : Operator} {ti : TIp} {pos' : Pos} (hN : X.N.Nodup) (hi : X.N[i]? = some x) (hx : Loc X.env.scope x) (he : PE X e te) (ho : PIp X op ti) (hf : X.fn x = true ∨ X.env.scope.names.lookup x = some .local := by first | exact .inl rfl | exact .inr rfl | assumption) :
    PS X (.AugAssign (.Name x pos') op e pos) (tAug i te ti) := by
  refine .mk ?_
  intro pins s σ H D I h
  obtain ⟨v, e1, h⟩ := h
  obtain ⟨m, hn, hl⟩ := I.loc
  have vis : Vis X.env.scope x := by rcases hx with k | k; exact .inl k; exact .inr (.inl k)
  obtain ⟨u, r, l⟩ := hl i x v hi e1 vis
  refine wpAny_AugAssign_Name ?_
  have go : wpAny (model X.prog X.w) X.A (eval e X.env) (fun w s₂ => wpAny (model X.prog X.w) X.A (inplaceOp op u w) (fun r s₃ => wpAny (model X.prog X.w) X.A (storeName X.env x r) (fun _ => SP X pins D .next) X.xe s₃) X.xe s₂) X.xe s := by
    refine thn (he pins s σ H _ I h) fun w s1 ⟨y, H1, I1, r1, q1⟩ => ?_
    refine thn (ho pins s1 σ H1 v y u w _ I1 r r1 q1) fun z s2 ⟨zv, H2, I2, r2, q2⟩ => ?_
    exact store_ok I2 hN hi hx r2 (fun s3 I3 => ⟨_, H2, I3, q2⟩) hf
  rcases l with ⟨hk, hm⟩ | ⟨hk, c, hc, hcell⟩
  · exact wpAny_loadName_local I.ok.kind hk hn hm go
  · rcases hk with hk | hk
    · exact wpAny_loadName_cell I.ok.kind hk hc hcell go
    · rcases hx with k | k
      · have : X.env.scope.names.lookup x = some .free := hk
        rw [k] at this; cases this
      · have : X.env.scope.names.lookup x = some .free := hk
        rw [k] at this; cases this
/-- o[i] op= e -/
def tAugS (to ti te : TE) (tget : V → V → Hp → VK → Prop) (tip : TIp) (tset : TSet) : TS := fun D σ H => to σ H fun o H1 => ti σ H1 fun i H2 => tget o i H2 fun x H3 => te σ H3 fun y H4 => tip x y H4 fun z H5 => tset o i z H5 fun H6 => D.nx σ H6
/-- o[i], by values -/
def PGet (X : Cx) (t : V → V → Hp → VK → Prop) : Prop :=
  ∀ (pins : List (Addr × Obj)) (s : Shared) (σ : St) (H : Hp) (o i : V) (ov iv : Value) (Q : VK), Inv X pins σ H s → RelV o ov → RelV i iv → t o i H Q →
    wpAny (model X.prog X.w) X.A (getItem ov iv) (EP X pins σ Q) X.xe s
theorem ps_augS {o i e : Expr} {to ti te : TE} {tget : V → V → Hp → VK → Prop} {tip : TIp} {tset : TSet} {op : Operator} {tpos : Pos} (ho : PE X o to) (hi : PE X i ti) (hg : PGet X tget) (he : PE X e te) (hp : PIp X op tip) (hs : PSet X tset)
    (ha : ∀ ov iv new, augStore i ov iv new = (do holding [new, ov, iv] (setItem ov iv new); release [new, ov, iv] []; pure .next) := by intros; rfl) : PS X (.AugAssign (.Subscript o i tpos) op e pos) (tAugS to ti te tget tip tset) := by
  refine .mk ?_
  intro pins s σ H D I h
  refine wpAny_AugAssign_SubscriptAny (thn (ho pins s σ H _ I h) fun ov s1 ⟨x1, H1, I1, r1, q1⟩ => ?_) ha
  refine thn (hi pins s1 σ H1 _ I1 q1) fun iv s2 ⟨x2, H2, I2, r2, q2⟩ => ?_
  refine thn (hg pins s2 σ H2 x1 x2 ov iv _ I2 r1 r2 q2) fun old s3 ⟨x3, H3, I3, r3, q3⟩ => ?_
  refine thn (he pins s3 σ H3 _ I3 q3) fun v s4 ⟨x4, H4, I4, r4, q4⟩ => ?_
  refine thn (hp pins s4 σ H4 x3 x4 old v _ I4 r3 r4 q4) fun new s5 ⟨x5, H5, I5, r5, q5⟩ => ?_
  exact thn (hs pins s5 σ H5 x1 x2 x5 ov iv new _ I5 r1 r2 r5 q5) fun _ s6 ⟨H6, I6, q6⟩ => ⟨σ, H6, I6, q6⟩
/-- ints -/
def ipI (f : Int → Int → Int) : TIp := fun x y H Q => ∃ i j, x = .int i ∧ y = .int j ∧ Q (.int (f i j)) H
theorem ip_add : PIp X .Add (ipI fun i j => i + j) := by
  intro pins s σ H x y v u Q I r1 r2 h
  obtain ⟨i, j, e1, e2, q⟩ := h
  subst e1; subst e2
  obtain ⟨t, rfl⟩ := r1
  obtain ⟨t', rfl⟩ := r2
  exact iadd_int ⟨.int _, H, I.tok _, ⟨_, rfl⟩, q⟩
theorem ip_sub : PIp X .Sub (ipI fun i j => i - j) := by
  intro pins s σ H x y v u Q I r1 r2 h
  obtain ⟨i, j, e1, e2, q⟩ := h
  subst e1; subst e2
  obtain ⟨t, rfl⟩ := r1
  obtain ⟨t', rfl⟩ := r2
  exact isub_int ⟨.int _, H, I.tok _, ⟨_, rfl⟩, q⟩
end

/-! ### while -/
section
variable {X : Cx} {pos : Pos}
/-- the invariant W with its measure -/
def tWhile (c : TT) (tb : TS) : TS := fun D σ H => ∃ W : Nat → St → Hp → Prop, (∃ m, W m σ H) ∧ ∀ m σ H, W m σ H →
  c σ H fun b H1 => if b = true then ∃ N : St → Hp → Prop, (∀ σ' H', N σ' H' → ∃ m', m' < m ∧ W m' σ' H') ∧ tb { D with nx := N, ct := N, bk := D.nx } σ H1 else D.nx σ H1
theorem ps_while {c : Expr} {body : List Stmt} {tc : TT} {tb : TS} (hp : PassesOwn (model X.prog X.w) X.A X.env X.xe) (hc : PT X c tc) (hb : PSs X body tb) : PS X (.While c body [] pos) (tWhile tc tb) := by
  refine .mk ?_
  intro pins s σ H D I h
  obtain ⟨W, ⟨m0, w0⟩, turn⟩ := h
  refine wpAny_While (codeAny_whileLoop (fun n s' => ∃ σ' H', Inv X pins σ' H' s' ∧ W n σ' H') ?_ m0 ⟨σ, H, I, w0⟩)
  rintro n s1 ⟨σ1, H1, I1, w1⟩
  refine wpAny_passesOwn hp (thn (hc pins s1 σ1 H1 _ I1 (turn n σ1 H1 w1)) fun b s2 ⟨H2, I2, q2⟩ => ?_)
  cases b with
  | true =>
    obtain ⟨N, hN, q2⟩ := q2
    rw [if_pos rfl]
    refine wpAny_passesOwn hp (thn (hb pins s2 σ1 H2 _ I2 q2) fun f s3 q3 => ?_)
    cases f with
    | next =>
      obtain ⟨σ3, H3, I3, n3⟩ := q3
      obtain ⟨m', hm, w3⟩ := hN σ3 H3 n3
      exact ⟨m', hm, σ3, H3, I3, w3⟩
    | cont =>
      obtain ⟨σ3, H3, I3, n3⟩ := q3
      obtain ⟨m', hm, w3⟩ := hN σ3 H3 n3
      exact ⟨m', hm, σ3, H3, I3, w3⟩
    | brk => exact q3
    | ret v => exact q3
  | false =>
    rw [if_neg Bool.false_ne_true]
    exact wpAny_execs_nil ⟨σ1, H2, I2, q2⟩
end

/-! ### what a loop or a comprehension walks -/
/-- at turn i: it yields x (the heap may grow), or it stops -/
structure It where
  go : Nat → Hp → Prop
  yld : Nat → Hp → V → Hp → Prop
  stop : Nat → Hp → Prop
/-- the iterator's own objects may turn: they are not the frame's, not pinned, younger than the entry (or a comprehension's own) -/
def FpOk (X : Cx) (pins : List (Addr × Obj)) (H : Hp) (b : Addr) : Prop :=
  H b = none ∧ b ≠ X.env.locals ∧ b ∉ X.fs ∧ (b ∈ X.ex ∨ X.s₀.heap.objs.size ≤ b) ∧ (∀ x c, X.env.cells.lookup x = some c → c ≠ b) ∧ ∀ p ∈ X.pn ++ pins, p.1 ≠ b
theorem Inv.fpOk {X : Cx} {pins : List (Addr × Obj)} {σ : St} {H H' : Hp} {s : Shared} {b : Addr} (I : Inv X pins σ H s) (hb : s.heap.objs.size ≤ b) (hn : H' b = none) : FpOk X pins H' b := by
  refine ⟨hn, Nat.ne_of_gt (Nat.lt_of_lt_of_le I.lt hb), I.nofs hb, .inr (Nat.le_trans I.sz hb), fun x c e z => ?_, fun p hp z => ?_⟩
  · obtain ⟨v, q⟩ := I.cell x c e
    exact absurd (Nat.lt_of_lt_of_le q.lt (by rw [z]; exact hb)) (Nat.lt_irrefl _)
  · exact absurd (Nat.lt_of_lt_of_le (Heap.lt_size (I.pin p hp).1) (by rw [z]; exact hb)) (Nat.lt_irrefl _)
structure Turn (P : Program) (w : World) (K : PySem.W.Frag) (tg : Expr) (J : It) (fp : List Addr) (it : Addr) (tn : Nat → Heap → Prop) : Prop where
  mem : it ∈ fp
  obj : ∀ i h, tn i h → ∀ b ∈ fp, ∃ o, h.get? b = some o ∧ ∀ v, o.data ≠ .cell v
  keep : ∀ i h h', tn i h → (∀ b ∈ fp, ∀ o, h.get? b = some o → h'.get? b = some o) → tn i h'
  item : ∀ (X : Cx), X.prog = P → X.w = w → X.K = K → X.calm = true → ∀ (i : Nat) (pins : List (Addr × Obj)) (s : Shared) (σ : St) (H : Hp) (E : Value → Shared → Prop), Inv X pins σ H s → (∀ b ∈ fp, FpOk X pins H b) → tn i s.heap → J.go i H →
    wpAny (model P w) X.A (pyNext (.ref it)) (fun r s1 => ∃ u, r = some u ∧
      wpAny (model P w) X.A (letOwnedTupleGo tg (.ref it) u) (fun _ s2 => ∃ x H', Inv X pins σ H' s2 ∧ RelV x u ∧ J.yld i H x H' ∧ tn (i + 1) s2.heap ∧ ∀ b ∈ fp, H' b = none) E s1) E s
  done : ∀ (X : Cx), X.prog = P → X.w = w → X.K = K → X.calm = true → ∀ (i : Nat) (pins : List (Addr × Obj)) (s : Shared) (σ : St) (H : Hp) (E : Value → Shared → Prop), Inv X pins σ H s → (∀ b ∈ fp, FpOk X pins H b) → tn i s.heap → J.stop i H →
    wpAny (model P w) X.A (pyNext (.ref it)) (fun r s1 => r = none ∧ Inv X pins σ H s1) E s
  self : ∀ (A : Around) (i : Nat) (s : Shared) (Q : Value → Shared → Prop) (E : Value → Shared → Prop), tn i s.heap → Q (.ref it) s → wpAny (model P w) A (pyIter (.ref it)) Q E s
abbrev TI := St → Hp → (It → Hp → Prop) → Prop
/-- an iterator has come -/
def PIE (X : Cx) (pins : List (Addr × Obj)) (σ : St) (tg : Expr) (R : It → Hp → Prop) (itv : Value) (s2 : Shared) : Prop :=
  ∃ (it : Addr) (fp : List Addr) (tn : Nat → Heap → Prop) (J : It) (H' : Hp), itv = .ref it ∧ Inv X pins σ H' s2 ∧ Turn X.prog X.w X.K tg J fp it tn ∧ tn 0 s2.heap ∧ (∀ b ∈ fp, FpOk X pins H' b) ∧ R J H'
structure PI (X : Cx) (tg iter : Expr) (wi : TI) : Prop where
  mk ::
  go :
  ∀ (pins : List (Addr × Obj)) (s : Shared) (σ : St) (H : Hp) (R : It → Hp → Prop), Inv X pins σ H s → wi σ H R →
    wpAny (model X.prog X.w) X.A (eval iter X.env) (fun v s1 => wpAny (model X.prog X.w) X.A (pyIter v) (PIE X pins σ tg R) X.xe s1) X.xe s
instance {X : Cx} {tg iter : Expr} {wi : TI} : CoeFun (PI X tg iter wi) (fun _ =>
  ∀ (pins : List (Addr × Obj)) (s : Shared) (σ : St) (H : Hp) (R : It → Hp → Prop), Inv X pins σ H s → wi σ H R →
    wpAny (model X.prog X.w) X.A (eval iter X.env) (fun v s1 => wpAny (model X.prog X.w) X.A (pyIter v) (PIE X pins σ tg R) X.xe s1) X.xe s) := ⟨PI.go⟩

/-- the step ahead of the store is nothing for an iterator that keeps no tuple -/
theorem go_of {M : Model} {A : Around} {E : Value → Shared → Prop} {s : Shared} {tg : Expr} {it : Addr} {u : Value} {o : Obj} {n : String} {vs : Array Value} {Q : Unit → Shared → Prop} (ho : s.heap.get? it = some o) (hc : o.cls = .type n) (hd : o.data = .fields vs)
    (hn : ["enumerate", "zip", "dict_itemiterator", "dict_reverseitemiterator", "odict_iterator", "itertools.zip_longest", "itertools.pairwise"].contains n = false) (hQ : Q () s) : wpAny M A (letOwnedTupleGo tg (.ref it) u) Q E s := by
  unfold letOwnedTupleGo
  cases tg <;> first
    | exact wpAny_pure hQ
    | (cases u <;> first
        | exact wpAny_pure hQ
        | (refine wpAny_bind (wpAny_load ho ?_)
           rw [hc, hd]
           show wpAny M A (if (["enumerate", "zip", "dict_itemiterator", "dict_reverseitemiterator", "odict_iterator", "itertools.zip_longest", "itertools.pairwise"].contains n && vs[0]? == some (rawInt _)) = true then _ else _) Q E s
           rw [if_neg (by intro h; rw [hn, Bool.false_and] at h; cases h)]
           exact wpAny_pure hQ))

/-- the list at a, as it stands at each turn (a loop may append to it) -/
def Itl (K : PySem.W.Frag) (a : Addr) : It :=
  ⟨fun i H => ∃ xs x, SqL K H a xs ∧ xs[i]? = some x, fun i H x H' => H' = H ∧ ∀ xs, SqL K H a xs → xs[i]? = some x, fun i H => ∃ xs, SqL K H a xs ∧ xs.length ≤ i⟩
def Itt (K : PySem.W.Frag) (a : Addr) : It :=
  ⟨fun i H => ∃ xs x, SqT K H a xs ∧ xs[i]? = some x, fun i H x H' => H' = H ∧ ∀ xs, SqT K H a xs → xs[i]? = some x, fun i H => ∃ xs, SqT K H a xs ∧ xs.length ≤ i⟩
/-- lo, lo + 1, .. (n of them) -/
def Itr (lo : Int) (n : Nat) : It := ⟨fun i _ => i < n, fun i H x H' => H' = H ∧ x = .int (lo + i), fun i _ => n ≤ i⟩
theorem turn_list {P : Program} {w : World} {K : PySem.W.Frag} {tg : Expr} (a it : Addr) : Turn P w K tg (Itl K a) [it] it (fun i h => h.IsListIter it a i) where
  mem := by simp
  obj := fun i h st b hb => by
    have e : b = it := by simpa using hb
    subst e
    obtain ⟨o, e, c, d⟩ := st
    exact ⟨o, e, fun v z => by rw [d] at z; cases z⟩
  keep := fun i h h' st k => st.at fun o e => k it (by simp) o e
  item := by
    intro X hP hw hK hc i pins s σ H E I hf st hg
    subst hP hw hK
    obtain ⟨xs, x, hq, hx⟩ := hg
    obtain ⟨its, rv, p, hz⟩ := I.list hq
    obtain ⟨u, hu, ru⟩ := rv.get hx
    obtain ⟨f0, f1, f2, f3, f4, f5⟩ := hf it (by simp)
    refine wpAny_pyNext_list_item st p.isList (x := u) (by simpa using hu) fun h' st' sb => ?_
    have I1 : Inv X pins σ H { s with heap := h' } := I.turned (t' := s.toks) (fun b o hb e => (sb.2 b hb).trans e) f0 f1 f3 f4 f5
    obtain ⟨o, e, c, d⟩ := id st'
    exact ⟨u, rfl, go_of (s := { s with heap := h' }) e c d (by decide) ⟨x, H, I1, ru, ⟨rfl, fun ys hy => by rw [I.list_inj hy hq]; exact hx⟩, st', fun b hb => (hf b hb).1⟩⟩
  done := by
    intro X hP hw hK hc i pins s σ H E I hf st hg
    subst hP hw hK
    obtain ⟨xs, hq, hx⟩ := hg
    obtain ⟨its, rv, p, hz⟩ := I.list hq
    obtain ⟨f0, f1, f2, f3, f4, f5⟩ := hf it (by simp)
    have hl := rv.length
    exact wpAny_pyNext_list_end (I.ok.hd hc) st p.isList (by simp; omega) fun h' eb => ⟨rfl, I.turned (t' := s.toks) (fun b o hb e => eb b o hb e) f0 f1 f3 f4 f5⟩
  self := fun _ _ _ _ _ st h => wpAny_pyIter_listiter st h
theorem turn_tuple {P : Program} {w : World} {K : PySem.W.Frag} {tg : Expr} (a it : Addr) : Turn P w K tg (Itt K a) [it] it (fun i h => h.IsTupleIter it a i) where
  mem := by simp
  obj := fun i h st b hb => by
    have e : b = it := by simpa using hb
    subst e
    obtain ⟨o, e, c, d⟩ := st
    exact ⟨o, e, fun v z => by rw [d] at z; cases z⟩
  keep := fun i h h' st k => st.at fun o e => k it (by simp) o e
  item := by
    intro X hP hw hK hc i pins s σ H E I hf st hg
    subst hP hw hK
    obtain ⟨xs, x, hq, hx⟩ := hg
    obtain ⟨its, rv, p, hz⟩ := I.tuple hq
    obtain ⟨u, hu, ru⟩ := rv.get hx
    obtain ⟨f0, f1, f2, f3, f4, f5⟩ := hf it (by simp)
    refine wpAny_pyNext_tuple_item st (show s.heap.IsTuple a its.toArray from p) (x := u) (by simpa using hu) fun h' st' sb => ?_
    have I1 : Inv X pins σ H { s with heap := h' } := I.turned (t' := s.toks) (fun b o hb e => (sb.2 b hb).trans e) f0 f1 f3 f4 f5
    obtain ⟨o, e, c, d⟩ := id st'
    exact ⟨u, rfl, go_of (s := { s with heap := h' }) e c d (by decide) ⟨x, H, I1, ru, ⟨rfl, fun ys hy => by rw [I.tuple_inj hy hq]; exact hx⟩, st', fun b hb => (hf b hb).1⟩⟩
  done := by
    intro X hP hw hK hc i pins s σ H E I hf st hg
    subst hP hw hK
    obtain ⟨xs, hq, hx⟩ := hg
    obtain ⟨its, rv, p, hz⟩ := I.tuple hq
    obtain ⟨f0, f1, f2, f3, f4, f5⟩ := hf it (by simp)
    have hl := rv.length
    exact wpAny_pyNext_tuple_end (I.ok.hd hc) st (show s.heap.IsTuple a its.toArray from p) (by simp; omega) fun h' eb => ⟨rfl, I.turned (t' := s.toks) (fun b o hb e => eb b o hb e) f0 f1 f3 f4 f5⟩
  self := fun _ _ _ _ _ st h => wpAny_pyIter_tupleiter st h
theorem turn_range {P : Program} {w : World} {K : PySem.W.Frag} {tg : Expr} (it : Addr) (lo : Int) (n : Nat) : Turn P w K tg (Itr lo n) [it] it (fun i h => IsRangeIter h it (lo + (i : Nat) * 1) ((n : Int) - (i : Nat)) 1) where
  mem := by simp
  obj := fun i h st b hb => by
    have e : b = it := by simpa using hb
    subst e
    exact ⟨_, st, fun v z => by
      have z' : Data.fields _ = Data.cell v := z
      cases z'⟩
  keep := fun i h h' st k => k it (by simp) _ st
  item := by
    intro X hP hw hK hc i pins s σ H E I hf st hg
    subst hP hw hK
    obtain ⟨f0, f1, f2, f3, f4, f5⟩ := hf it (by simp)
    have W := Walks.range (prog := X.prog) (w := X.w) (I.ok.hd hc) it lo 1 n
    refine W.item i s _ _ hg st fun v h' tk hv st' kk => ?_
    obtain ⟨t, rfl⟩ := hv
    have I1 : Inv X pins σ H { s with heap := h', toks := tk } := I.turned (fun b o hb e => kk b o (by simpa using hb) e) f0 f1 f3 f4 f5
    refine ⟨_, rfl, go_of (s := { s with heap := h', toks := tk }) (n := "range_iterator") st' rfl rfl (by decide) ⟨.int (lo + i), H, I1, ⟨t, ?_⟩, ⟨rfl, rfl⟩, st', fun b hb => (hf b hb).1⟩⟩
    rw [Int.mul_one]
  done := by
    intro X hP hw hK hc i pins s σ H E I hf st hg
    subst hP hw hK
    obtain ⟨f0, f1, f2, f3, f4, f5⟩ := hf it (by simp)
    exact wpAny_pyNext_range_end (I.ok.hd hc) st (by have : n ≤ i := hg; omega) fun h' eb => ⟨rfl, I.turned (t' := s.toks) (fun b o hb e => eb b o hb e) f0 f1 f3 f4 f5⟩
  self := fun _ _ _ _ _ st h => wpAny_pyIter_rangeiter st h
end L2

namespace L2
open PySem PySem.Spec PyProof.Rows
section
variable {X : Cx} {tg : Expr}
def iList (K : PySem.W.Frag) (tl : TE) : TI := fun σ H R => tl σ H fun x H1 => ∃ a, x = .ref a ∧ (∃ xs, SqL K H1 a xs) ∧ R (Itl K a) H1
def iTup (K : PySem.W.Frag) (tl : TE) : TI := fun σ H R => tl σ H fun x H1 => ∃ a, x = .ref a ∧ (∃ xs, SqT K H1 a xs) ∧ R (Itt K a) H1
theorem pi_list {l : Expr} {tl : TE} (hl : PE X l tl) : PI X tg l (iList X.K tl) := by
  refine .mk ?_
  intro pins s σ H R I h
  refine thn (hl pins s σ H _ I h) fun v s1 ⟨x, H1, I1, r1, q1⟩ => ?_
  obtain ⟨a, e, ⟨xs, hq⟩, q⟩ := q1
  subst e
  cases r1
  obtain ⟨its, rv, p, hz⟩ := I1.list hq
  refine wpAny_pyIter_list p.isList ?_
  refine ⟨s1.heap.objs.size, [s1.heap.objs.size], _, _, H1, rfl, I1.kept (t' := s1.toks) fun b o e => Heap.get?_push_of_some _ e, turn_list a _, ⟨_, Heap.get?_push_size _ rfl, rfl, rfl⟩, fun b hb => ?_, q⟩
  have e : b = s1.heap.objs.size := by simpa using hb
  subst e
  exact I1.fpOk (Nat.le_refl _) (I1.hok.fresh (Nat.le_refl _))
theorem pi_tup {l : Expr} {tl : TE} (hl : PE X l tl) : PI X tg l (iTup X.K tl) := by
  refine .mk ?_
  intro pins s σ H R I h
  refine thn (hl pins s σ H _ I h) fun v s1 ⟨x, H1, I1, r1, q1⟩ => ?_
  obtain ⟨a, e, ⟨xs, hq⟩, q⟩ := q1
  subst e
  cases r1
  obtain ⟨its, rv, p, hz⟩ := I1.tuple hq
  refine wpAny_pyIter_tuple (show s1.heap.IsTuple a its.toArray from p) ?_
  refine ⟨s1.heap.objs.size, [s1.heap.objs.size], _, _, H1, rfl, I1.kept (t' := s1.toks) fun b o e => Heap.get?_push_of_some _ e, turn_tuple a _, ⟨_, Heap.get?_push_size _ rfl, rfl, rfl⟩, fun b hb => ?_, q⟩
  have e : b = s1.heap.objs.size := by simpa using hb
  subst e
  exact I1.fpOk (Nat.le_refl _) (I1.hok.fresh (Nat.le_refl _))
/-- a range object just made, walked -/
theorem range_it {pins : List (Addr × Obj)} {σ : St} {H : Hp} {s : Shared} {R : It → Hp → Prop} {E : Value → Shared → Prop} {lo hi : Int} {t u v : Tok} {tk : Nat} (I : Inv X pins σ H s) (h1 : -(2 ^ 62) ≤ lo) (h2 : lo < 2 ^ 62) (h3 : -(2 ^ 62) ≤ hi) (h4 : hi < 2 ^ 62)
    (q : R (Itr lo (hi - lo).toNat) H) : wpAny (model X.prog X.w) X.A (pyIter (.ref s.heap.objs.size)) (PIE X pins σ tg R) E { s with heap := s.heap.push { cls := .type "range", data := .fields #[.int lo t, .int hi u, .int 1 v] }, toks := tk } := by
  refine wpAny_pyIter_range (IsRange.new ..) (small_one h1 h2 h3 h4) ?_
  have I1 : Inv X pins σ H { s with heap := s.heap.push { cls := .type "range", data := .fields #[.int lo t, .int hi u, .int 1 v] }, toks := tk } := I.kept fun b o e => Heap.get?_push_of_some _ e
  refine ⟨(s.heap.push { cls := .type "range", data := .fields #[.int lo t, .int hi u, .int 1 v] }).objs.size, [(s.heap.push { cls := .type "range", data := .fields #[.int lo t, .int hi u, .int 1 v] }).objs.size], _, _, H, rfl,
    I1.kept (t' := tk) fun b o e => Heap.get?_push_of_some _ e, turn_range _ lo (hi - lo).toNat, ?_, fun b hb => ?_, q⟩
  · have e1 : lo + ((0 : Nat) : Int) * 1 = lo := by simp
    have e2 : (((hi - lo).toNat : Nat) : Int) - ((0 : Nat) : Int) = Builtin.Range.rangeSize lo hi 1 := by rw [rangeSize_one]; split <;> omega
    show IsRangeIter _ _ (lo + ((0 : Nat) : Int) * 1) ((((hi - lo).toNat : Nat) : Int) - ((0 : Nat) : Int)) 1
    rw [e1, e2]
    exact Heap.get?_push_size _ rfl
  · have e : b = (s.heap.push { cls := .type "range", data := .fields #[.int lo t, .int hi u, .int 1 v] }).objs.size := by simpa using hb
    subst e
    exact I1.fpOk (Nat.le_refl _) (I1.hok.fresh (Nat.le_refl _))
def iRng1 (ta : TA) : TI := fun σ H R => ta σ H fun vs H1 => ∃ j : Int, vs = [.int j] ∧ -(2 ^ 62) ≤ j ∧ j < 2 ^ 62 ∧ R (Itr 0 j.toNat) H1
def iRng2 (ta : TA) : TI := fun σ H R => ta σ H fun vs H1 => ∃ i j : Int, vs = [.int i, .int j] ∧ (-(2 ^ 62) ≤ i ∧ i < 2 ^ 62 ∧ -(2 ^ 62) ≤ j ∧ j < 2 ^ 62) ∧ R (Itr i (j - i).toNat) H1
theorem pi_range1 {a : Expr} {ta : TA} {p pos : Pos} (hg : Gl X "range") (hm : X.mg "range" = none) (ha : PA X [a] ta) (hs : starEach [a] X.env = [(false, eval a X.env)] := by rfl) : PI X tg (.Call (.Name "range" p) [a] [] pos) (iRng1 ta) := by
  refine .mk ?_
  intro pins s σ H R I h
  refine Call_ (ld_blt I hg hm boot_range (PyProof.Rows.callWith_type1 (thn (ha pos pins s σ H _ I h) fun us s1 ⟨vs, H1, I1, r1, q1⟩ => ?_) hs rfl))
  obtain ⟨j, e, q1, q2, q⟩ := q1
  subst e
  cases r1 with
  | cons r rr =>
    cases rr
    obtain ⟨t, rfl⟩ := r
    exact call_range_1 (range_it I1 (by omega) (by omega) q1 q2 (by simpa using q))
theorem pi_range2 {a b : Expr} {ta : TA} {p pos : Pos} (hg : Gl X "range") (hm : X.mg "range" = none) (ha : PA X [a, b] ta) (hs : starEach [a, b] X.env = [(false, eval a X.env), (false, eval b X.env)] := by rfl) (hs2 : starEach [b] X.env = [(false, eval b X.env)] := by rfl) :
    PI X tg (.Call (.Name "range" p) [a, b] [] pos) (iRng2 ta) := by
  refine .mk ?_
  intro pins s σ H R I h
  refine Call_ (ld_blt I hg hm boot_range (PyProof.Rows.callWith_type1 (thn (ha pos pins s σ H _ I h) fun us s1 ⟨vs, H1, I1, r1, q1⟩ => ?_) (by rw [hs, hs2]) (by rw [hs2]; rfl)))
  obtain ⟨i, j, e, ⟨q1, q2, q3, q4⟩, q⟩ := q1
  subst e
  cases r1 with
  | cons r rr =>
    cases rr with
    | cons r' rr =>
      cases rr
      obtain ⟨t, rfl⟩ := r
      obtain ⟨t', rfl⟩ := r'
      exact call_range_2 (range_it I1 q1 q2 q3 q4 q)

/-! ### for -/
/-- W: the invariant by the turn and a measure; N: what the body is to reach -/
def tFor (wi : TI) (g : TG) (tb : TS) : TS := fun D σ H => wi σ H fun J H1 => ∃ W : Nat → Nat → St → Hp → Prop, (∃ m, W 0 m σ H1) ∧ ∀ i m σ H, W i m σ H →
  (J.stop i H ∧ D.nx σ H) ∨ (J.go i H ∧ ∃ N : St → Hp → Prop, (∀ σ' H', N σ' H' → ∃ m', m' < m ∧ W (i + 1) m' σ' H') ∧ ∀ x H', J.yld i H x H' → g x σ H' fun σ2 H2 => tb { D with nx := N, ct := N, bk := D.nx } σ2 H2)
/-- the records at fp as they stand -/
def pinsAt (fp : List Addr) (h : Heap) : List (Addr × Obj) := fp.filterMap fun b => (h.get? b).map fun o => (b, o)
theorem mem_pinsAt {fp : List Addr} {h : Heap} {b : Addr} {o : Obj} (hb : b ∈ fp) (e : h.get? b = some o) : (b, o) ∈ pinsAt fp h := List.mem_filterMap.mpr ⟨b, hb, by rw [e]; rfl⟩
theorem of_pinsAt {fp : List Addr} {h : Heap} {p : Addr × Obj} (hp : p ∈ pinsAt fp h) : p.1 ∈ fp ∧ h.get? p.1 = some p.2 := by
  obtain ⟨b, hb, e⟩ := List.mem_filterMap.mp hp
  cases q : h.get? b with
  | none => rw [q] at e; cases e
  | some o =>
    rw [q] at e
    have e' : (b, o) = p := Option.some.inj e
    subst e'
    exact ⟨hb, q⟩
theorem Inv.pinned {pins : List (Addr × Obj)} {σ : St} {H : Hp} {s : Shared} {fp : List Addr} (I : Inv X pins σ H s) (hf : ∀ b ∈ fp, FpOk X pins H b) (ho : ∀ b ∈ fp, ∃ o, s.heap.get? b = some o ∧ ∀ v, o.data ≠ .cell v) : Inv X (pins ++ pinsAt fp s.heap) σ H s :=
  I.pins_of fun p hp => (List.mem_append.mp hp).elim (fun z => I.pin p (List.mem_append_right _ z)) fun z => by
    obtain ⟨hb, e⟩ := of_pinsAt z
    obtain ⟨f0, f1, f2, _⟩ := hf p.1 hb
    obtain ⟨o, e', d⟩ := ho p.1 hb
    rw [e] at e'; cases e'
    exact ⟨e, f0, f1, f2, d⟩
theorem Inv.unpinned {pins pl : List (Addr × Obj)} {σ : St} {H : Hp} {s : Shared} (I : Inv X (pins ++ pl) σ H s) : Inv X pins σ H s := I.pins_of fun p hp => I.pin p (List.mem_append_right _ (List.mem_append_left _ hp))
theorem ps_for {iter : Expr} {body : List Stmt} {wi : TI} {g : TG} {tb : TS} {pos : Pos} (hp : PassesOwn (model X.prog X.w) X.A X.env X.xe) (hc : X.calm = true) (hi : PI X tg iter wi) (hg : PG X tg g) (hb : PSs X body tb)
    (hs : ∀ x, foldedSetIterable iter X.env x = pure x := by intro _; rfl) : PS X (.For tg iter body [] pos) (tFor wi g tb) := by
  refine .mk ?_
  intro pins s σ H D I h
  refine wpAny_For (thn (hi pins s σ H _ I h) fun v s1 h1 => thn h1 fun itv s2 h2 => ?_) hs
  obtain ⟨it, fp, tn, J, H2, e, I2, T, st2, f2, W, ⟨m0, w0⟩, turn⟩ := h2
  subst e
  -- what stays true of the iterator's objects through the loop
  have stat : ∀ {H' : Hp}, (∀ b ∈ fp, H' b = none) → ∀ b ∈ fp, FpOk X pins H' b := fun hn b hb => ⟨hn b hb, (f2 b hb).2⟩
  refine codeAny_forLoop_any (fun n s' => ∃ i σ' H', Inv X pins σ' H' s' ∧ tn i s'.heap ∧ (∀ b ∈ fp, H' b = none) ∧ W i n σ' H') ?_ m0 ⟨0, σ, H2, I2, st2, fun b hb => (f2 b hb).1, w0⟩
  rintro n s3 ⟨i, σ3, H3, I3, st3, fr3, w3⟩
  rcases turn i n σ3 H3 w3 with ⟨stop, qn⟩ | ⟨go, N, hN, step⟩
  · refine wpAny_passesOwn hp (thn (T.done X rfl rfl rfl hc i pins s3 σ3 H3 X.xe I3 (stat fr3) st3 stop) fun r s4 ⟨hr, I4⟩ => ?_)
    subst hr
    exact wpAny_execs_nil ⟨σ3, H3, I4, qn⟩
  · refine wpAny_passesOwn hp (thn (T.item X rfl rfl rfl hc i pins s3 σ3 H3 X.xe I3 (stat fr3) st3 go) fun r s4 ⟨u, hr, h4⟩ => ?_)
    subst hr
    refine wpAny_passesOwn hp (thn h4 fun _ s5 ⟨x, H5, I5, r5, y5, st5, fr5⟩ => ?_)
    have I5' := I5.pinned (stat fr5) (T.obj _ _ st5)
    refine wpAny_passesOwn hp (thn (hg _ s5 σ3 H5 x u _ I5' r5 (step x H5 y5)) fun _ s6 ⟨σ6, H6, I6, q6⟩ => ?_)
    refine wpAny_passesOwn hp (thn (hb _ s6 σ6 H6 _ I6 q6) fun f s7 q7 => ?_)
    have again : ∀ {σ7 : St} {H7 : Hp}, Inv X (pins ++ pinsAt fp s5.heap) σ7 H7 s7 → N σ7 H7 → ∃ m, m < n ∧ ∃ i σ' H', Inv X pins σ' H' s7 ∧ tn i s7.heap ∧ (∀ b ∈ fp, H' b = none) ∧ W i m σ' H' := fun {σ7 H7} I7 n7 => by
      obtain ⟨m', hm, w7⟩ := hN σ7 H7 n7
      refine ⟨m', hm, i + 1, σ7, H7, I7.unpinned, T.keep _ _ _ st5 fun b hb o e => (I7.pin (b, o) (List.mem_append_right _ (List.mem_append_right _ (mem_pinsAt hb e)))).1, fun b hb => ?_, w7⟩
      obtain ⟨o, e, d⟩ := T.obj _ _ st5 b hb
      exact (I7.pin (b, o) (List.mem_append_right _ (List.mem_append_right _ (mem_pinsAt hb e)))).2.1
    cases f with
    | next => obtain ⟨σ7, H7, I7, n7⟩ := q7; exact again I7 n7
    | cont => obtain ⟨σ7, H7, I7, n7⟩ := q7; exact again I7 n7
    | brk => obtain ⟨σ7, H7, I7, q7⟩ := q7; exact ⟨σ7, H7, I7.unpinned, q7⟩
    | ret v => obtain ⟨x7, σ7, H7, I7, r7, q7⟩ := q7; exact ⟨x7, σ7, H7, I7.unpinned, r7, q7⟩
end

/-! ### the forms one uses -/
/-- over a list that the body leaves as it is -/
theorem for_list {K : PySem.W.Frag} {a : Addr} {xs : List V} {g : TG} {tb : TS} {D : Ends} {σ : St} {H : Hp} (Pv : Nat → St → Hp → Prop) (h0 : Pv 0 σ H) (hl : ∀ i σ H, i ≤ xs.length → Pv i σ H → SqL K H a xs)
    (hs : ∀ i x σ H, xs[i]? = some x → Pv i σ H → g x σ H fun σ2 H2 => tb { D with nx := Pv (i + 1), ct := Pv (i + 1), bk := D.nx } σ2 H2) (hd : ∀ σ H, Pv xs.length σ H → D.nx σ H) :
    ∃ W : Nat → Nat → St → Hp → Prop, (∃ m, W 0 m σ H) ∧ ∀ i m σ H, W i m σ H →
      ((Itl K a).stop i H ∧ D.nx σ H) ∨ ((Itl K a).go i H ∧ ∃ N : St → Hp → Prop, (∀ σ' H', N σ' H' → ∃ m', m' < m ∧ W (i + 1) m' σ' H') ∧ ∀ x H', (Itl K a).yld i H x H' → g x σ H' fun σ2 H2 => tb { D with nx := N, ct := N, bk := D.nx } σ2 H2) := by
  refine ⟨fun i m σ H => m = xs.length - i ∧ i ≤ xs.length ∧ Pv i σ H, ⟨xs.length, by simp, Nat.zero_le _, h0⟩, ?_⟩
  rintro i m σ H ⟨rfl, hi, p⟩
  have q := hl i σ H hi p
  by_cases hlt : i < xs.length
  · refine .inr ⟨⟨xs, xs[i], q, by simp [hlt]⟩, Pv (i + 1), fun σ' H' p' => ⟨xs.length - (i + 1), by omega, rfl, hlt, p'⟩, fun x H' y => ?_⟩
    obtain ⟨e, y⟩ := y
    subst e
    exact hs i x σ _ (y xs q) p
  · have e : i = xs.length := by omega
    subst e
    exact .inl ⟨⟨xs, q, Nat.le_refl _⟩, hd σ H p⟩
theorem for_tup {K : PySem.W.Frag} {a : Addr} {xs : List V} {g : TG} {tb : TS} {D : Ends} {σ : St} {H : Hp} (Pv : Nat → St → Hp → Prop) (h0 : Pv 0 σ H) (hl : ∀ i σ H, i ≤ xs.length → Pv i σ H → SqT K H a xs)
    (hs : ∀ i x σ H, xs[i]? = some x → Pv i σ H → g x σ H fun σ2 H2 => tb { D with nx := Pv (i + 1), ct := Pv (i + 1), bk := D.nx } σ2 H2) (hd : ∀ σ H, Pv xs.length σ H → D.nx σ H) :
    ∃ W : Nat → Nat → St → Hp → Prop, (∃ m, W 0 m σ H) ∧ ∀ i m σ H, W i m σ H →
      ((Itt K a).stop i H ∧ D.nx σ H) ∨ ((Itt K a).go i H ∧ ∃ N : St → Hp → Prop, (∀ σ' H', N σ' H' → ∃ m', m' < m ∧ W (i + 1) m' σ' H') ∧ ∀ x H', (Itt K a).yld i H x H' → g x σ H' fun σ2 H2 => tb { D with nx := N, ct := N, bk := D.nx } σ2 H2) := by
  refine ⟨fun i m σ H => m = xs.length - i ∧ i ≤ xs.length ∧ Pv i σ H, ⟨xs.length, by simp, Nat.zero_le _, h0⟩, ?_⟩
  rintro i m σ H ⟨rfl, hi, p⟩
  have q := hl i σ H hi p
  by_cases hlt : i < xs.length
  · refine .inr ⟨⟨xs, xs[i], q, by simp [hlt]⟩, Pv (i + 1), fun σ' H' p' => ⟨xs.length - (i + 1), by omega, rfl, hlt, p'⟩, fun x H' y => ?_⟩
    obtain ⟨e, y⟩ := y
    subst e
    exact hs i x σ _ (y xs q) p
  · have e : i = xs.length := by omega
    subst e
    exact .inl ⟨⟨xs, q, Nat.le_refl _⟩, hd σ H p⟩
theorem for_range {lo : Int} {n : Nat} {g : TG} {tb : TS} {D : Ends} {σ : St} {H : Hp} (Pv : Nat → St → Hp → Prop) (h0 : Pv 0 σ H)
    (hs : ∀ i σ H, i < n → Pv i σ H → g (.int (lo + i)) σ H fun σ2 H2 => tb { D with nx := Pv (i + 1), ct := Pv (i + 1), bk := D.nx } σ2 H2) (hd : ∀ σ H, Pv n σ H → D.nx σ H) :
    ∃ W : Nat → Nat → St → Hp → Prop, (∃ m, W 0 m σ H) ∧ ∀ i m σ H, W i m σ H →
      ((Itr lo n).stop i H ∧ D.nx σ H) ∨ ((Itr lo n).go i H ∧ ∃ N : St → Hp → Prop, (∀ σ' H', N σ' H' → ∃ m', m' < m ∧ W (i + 1) m' σ' H') ∧ ∀ x H', (Itr lo n).yld i H x H' → g x σ H' fun σ2 H2 => tb { D with nx := N, ct := N, bk := D.nx } σ2 H2) := by
  refine ⟨fun i m σ H => m = n - i ∧ i ≤ n ∧ Pv i σ H, ⟨n, by simp, Nat.zero_le _, h0⟩, ?_⟩
  rintro i m σ H ⟨rfl, hi, p⟩
  by_cases hlt : i < n
  · refine .inr ⟨hlt, Pv (i + 1), fun σ' H' p' => ⟨n - (i + 1), by omega, rfl, hlt, p'⟩, fun x H' y => ?_⟩
    obtain ⟨e, y⟩ := y
    subst e y
    exact hs i σ _ hlt p
  · have e : i = n := by omega
    subst e
    exact .inl ⟨Nat.le_refl _, hd σ H p⟩
/-- while, by a word and a measure of the state -/
theorem while_by {c : TT} {tb : TS} {D : Ends} {σ : St} {H : Hp} (Pv : St → Hp → Prop) (μ : St → Hp → Nat) (h0 : Pv σ H)
    (hs : ∀ σ H, Pv σ H → c σ H fun b H1 => if b = true then tb { D with nx := fun σ' H' => Pv σ' H' ∧ μ σ' H' < μ σ H, ct := fun σ' H' => Pv σ' H' ∧ μ σ' H' < μ σ H, bk := D.nx } σ H1 else D.nx σ H1)
    (mono : ∀ σ H Q Q', (∀ b H1, Q b H1 → Q' b H1) → c σ H Q → c σ H Q') : tWhile c tb D σ H := by
  refine ⟨fun m σ H => m = μ σ H ∧ Pv σ H, ⟨_, rfl, h0⟩, ?_⟩
  rintro m σ H ⟨rfl, p⟩
  refine mono σ H _ _ (fun b H1 q => ?_) (hs σ H p)
  cases b with
  | true => exact ⟨_, fun σ' H' ⟨p', l⟩ => ⟨_, l, rfl, p'⟩, q⟩
  | false => exact q
end L2

namespace L2
open PySem PySem.Spec PyProof.Rows

abbrev R2 := V → V → Hp → VK → Prop
/-- a two-place operation on values: f is binaryOp op, inplaceOp op or compareOp op -/
structure OpR (X : Cx) (f : Value → Value → Sem Value) (r : R2) : Prop where
  mk ::
  go :
  ∀ (pins : List (Addr × Obj)) (s : Shared) (σ : St) (H : Hp) (x y : V) (v u : Value) (Q : VK), Inv X pins σ H s → RelV x v → RelV y u → r x y H Q →
    wpAny (model X.prog X.w) X.A (f v u) (EP X pins σ Q) X.xe s
instance {X : Cx} {f : Value → Value → Sem Value} {r : R2} : CoeFun (OpR X f r) (fun _ =>
  ∀ (pins : List (Addr × Obj)) (s : Shared) (σ : St) (H : Hp) (x y : V) (v u : Value) (Q : VK), Inv X pins σ H s → RelV x v → RelV y u → r x y H Q →
    wpAny (model X.prog X.w) X.A (f v u) (EP X pins σ Q) X.xe s) := ⟨OpR.go⟩
/-- a one-place operation -/
structure UnR (X : Cx) (f : Value → Sem Value) (r : V → Hp → VK → Prop) : Prop where
  mk ::
  go :
  ∀ (pins : List (Addr × Obj)) (s : Shared) (σ : St) (H : Hp) (x : V) (v : Value) (Q : VK), Inv X pins σ H s → RelV x v → r x H Q →
    wpAny (model X.prog X.w) X.A (f v) (EP X pins σ Q) X.xe s
instance {X : Cx} {f : Value → Sem Value} {r : V → Hp → VK → Prop} : CoeFun (UnR X f r) (fun _ =>
  ∀ (pins : List (Addr × Obj)) (s : Shared) (σ : St) (H : Hp) (x : V) (v : Value) (Q : VK), Inv X pins σ H s → RelV x v → r x H Q →
    wpAny (model X.prog X.w) X.A (f v) (EP X pins σ Q) X.xe s) := ⟨UnR.go⟩
/-- a call of a value that is known (a builtin, a type) with values -/
structure CallR (X : Cx) (f : Value) (r : List V → Hp → VK → Prop) : Prop where
  mk ::
  go :
  ∀ (pins : List (Addr × Obj)) (s : Shared) (σ : St) (H : Hp) (xs : List V) (us : List Value) (Q : VK), Inv X pins σ H s → Vals xs us → r xs H Q →
    wpAny (model X.prog X.w) X.A (call f us) (EP X pins σ Q) X.xe s
instance {X : Cx} {f : Value} {r : List V → Hp → VK → Prop} : CoeFun (CallR X f r) (fun _ =>
  ∀ (pins : List (Addr × Obj)) (s : Shared) (σ : St) (H : Hp) (xs : List V) (us : List Value) (Q : VK), Inv X pins σ H s → Vals xs us → r xs H Q →
    wpAny (model X.prog X.w) X.A (call f us) (EP X pins σ Q) X.xe s) := ⟨CallR.go⟩
/-- a value's truth -/
def TruR (X : Cx) (r : V → Hp → (Bool → Hp → Prop) → Prop) : Prop :=
  ∀ (pins : List (Addr × Obj)) (s : Shared) (σ : St) (H : Hp) (x : V) (v : Value) (Q : Bool → Hp → Prop), Inv X pins σ H s → RelV x v → r x H Q →
    wpAny (model X.prog X.w) X.A (truthy v) (TP X pins σ Q) X.xe s

def tOp (r : R2) (ta tb : TE) : TE := fun σ H Q => ta σ H fun x H1 => tb σ H1 fun y H2 => r x y H2 Q
def tUn (r : V → Hp → VK → Prop) (ta : TE) : TE := fun σ H Q => ta σ H fun x H1 => r x H1 Q
/-- ints in, under C, and a value out -/
def rI (C : Int → Int → Prop) (g : Int → Int → V) : R2 := fun x y H Q => ∃ i j, x = .int i ∧ y = .int j ∧ C i j ∧ Q (g i j) H
def rI0 (g : Int → Int → V) : R2 := fun x y H Q => ∃ i j, x = .int i ∧ y = .int j ∧ Q (g i j) H
def rU (g : Int → V) : V → Hp → VK → Prop := fun x H Q => ∃ i, x = .int i ∧ Q (g i) H

section
variable {X : Cx} {a b c : Expr} {ta tb tc : TE} {pos : Pos}

theorem binT (ha : PE X a ta) (hb : PE X b tb) {pins : List (Addr × Obj)} {s : Shared} {σ : St} {H : Hp} {R : V → V → Hp → Prop} (I : Inv X pins σ H s)
    (h : ta σ H fun x H1 => tb σ H1 fun y H2 => R x y H2) {Q : Value → Shared → Prop} {f : Value → Value → Sem Value}
    (hf : ∀ v u s2 x y H2, Inv X pins σ H2 s2 → RelV x v → RelV y u → R x y H2 → wpAny (model X.prog X.w) X.A (f v u) Q X.xe s2) :
    wpAny (model X.prog X.w) X.A (eval a X.env) (fun v s₁ => wpAny (model X.prog X.w) X.A (eval b X.env) (fun u s₂ => wpAny (model X.prog X.w) X.A (f v u) Q X.xe s₂) X.xe s₁) X.xe s := by
  refine thn (ha pins s σ H _ I h) fun v s1 ⟨x, H1, I1, r1, q1⟩ => ?_
  refine thn (hb pins s1 σ H1 _ I1 q1) fun u s2 ⟨y, H2, I2, r2, q2⟩ => ?_
  exact hf v u s2 x y H2 I2 r1 r2 q2

theorem pe_op {op : Operator} {r : R2} (ho : OpR X (binaryOp op) r) (ha : PE X a ta) (hb : PE X b tb) : PE X (.BinOp a op b pos) (tOp r ta tb) := by
  refine .mk ?_
  intro pins s σ H Q I h
  exact wpAny_BinOp (binT ha hb I h fun v u s2 x y H2 I2 rx ry q => ho pins s2 σ H2 x y v u Q I2 rx ry q)
theorem pe_un {op : UnaryOp} {r : V → Hp → VK → Prop} (ho : UnR X (unaryOp op) r) (ha : PE X a ta) : PE X (.UnaryOp op a pos) (tUn r ta) := by
  refine .mk ?_
  intro pins s σ H Q I h
  exact UnaryOp_ (thn (ha pins s σ H _ I h) fun v s1 ⟨x, H1, I1, r1, q1⟩ => ho pins s1 σ H1 x v Q I1 r1 q1)
/-- a op= e at a name: the name's slot i -/
theorem augR {op : Operator} {r : R2} (ho : OpR X (inplaceOp op) r) {pins : List (Addr × Obj)} {s : Shared} {σ : St} {H : Hp} {x y : V} {v u : Value} {Q : VK} (I : Inv X pins σ H s)
    (rx : RelV x v) (ry : RelV y u) (q : r x y H Q) : wpAny (model X.prog X.w) X.A (inplaceOp op v u) (EP X pins σ Q) X.xe s := ho pins s σ H x y v u Q I rx ry q

/-! ### ints -/
theorem opI {f : Value → Value → Sem Value} {C : Int → Int → Prop} {g : Int → Int → Int}
    (rule : ∀ (i j : Int) (t u : Tok) (s : Shared) (Q : Value → Shared → Prop) (E : Value → Shared → Prop), C i j → Q (.int (g i j) s.toks) { s with toks := s.toks + 1 } → wpAny (model X.prog X.w) X.A (f (.int i t) (.int j u)) Q E s) :
    OpR X f (rI C fun i j => .int (g i j)) := by
  refine .mk ?_
  intro pins s σ H x y v u Q I rx ry h
  obtain ⟨i, j, rfl, rfl, hc, q⟩ := h
  obtain ⟨t, rfl⟩ := rx
  obtain ⟨t', rfl⟩ := ry
  exact rule i j t t' s _ _ hc ⟨.int (g i j), H, I.tok _, ⟨_, rfl⟩, q⟩
theorem opI0 {f : Value → Value → Sem Value} {g : Int → Int → Int}
    (rule : ∀ (i j : Int) (t u : Tok) (s : Shared) (Q : Value → Shared → Prop) (E : Value → Shared → Prop), Q (.int (g i j) s.toks) { s with toks := s.toks + 1 } → wpAny (model X.prog X.w) X.A (f (.int i t) (.int j u)) Q E s) :
    OpR X f (rI0 fun i j => .int (g i j)) := by
  refine .mk ?_
  intro pins s σ H x y v u Q I rx ry h
  obtain ⟨i, j, rfl, rfl, q⟩ := h
  obtain ⟨t, rfl⟩ := rx
  obtain ⟨t', rfl⟩ := ry
  exact rule i j t t' s _ _ ⟨.int (g i j), H, I.tok _, ⟨_, rfl⟩, q⟩
theorem opB0 {f : Value → Value → Sem Value} {g : Int → Int → Bool}
    (rule : ∀ (i j : Int) (t u : Tok) (s : Shared) (Q : Value → Shared → Prop) (E : Value → Shared → Prop), Q (.bool (g i j)) s → wpAny (model X.prog X.w) X.A (f (.int i t) (.int j u)) Q E s) :
    OpR X f (rI0 fun i j => .bl (g i j)) := by
  refine .mk ?_
  intro pins s σ H x y v u Q I rx ry h
  obtain ⟨i, j, rfl, rfl, q⟩ := h
  obtain ⟨t, rfl⟩ := rx
  obtain ⟨t', rfl⟩ := ry
  exact rule i j t t' s _ _ ⟨.bl (g i j), H, I, rfl, q⟩

def CDiv (i j : Int) : Prop := 0 < j ∧ j < 1073741824
def CDivN (i j : Int) : Prop := j ≠ 0 ∧ j.natAbs < 1073741824
def CPow (i j : Int) : Prop := 0 ≤ j ∧ j ≤ 1000000 ∧ i.natAbs < 2 ^ 64
def CMul (i j : Int) : Prop := (-(2 ^ 64) < i ∧ i < 2 ^ 64) ∨ (-(2 ^ 64) < j ∧ j < 2 ^ 64)
theorem CMul.ok {i j : Int} (h : CMul i j) : IntMulOk i j := by
  rcases h with ⟨h1, h2⟩ | ⟨h1, h2⟩
  · exact .of_left (intBits_le_64 h1 h2)
  · exact .of_right (intBits_le_64 h1 h2)
theorem two_pow_nn (k : Nat) : (0 : Int) ≤ 2 ^ k := by
  rw [two_pow_cast]
  exact Int.natCast_nonneg _

theorem op_add : OpR X (binaryOp .Add) (rI0 fun i j => .int (i + j)) := opI0 fun _ _ _ _ _ _ _ q => add_int q
theorem op_sub : OpR X (binaryOp .Sub) (rI0 fun i j => .int (i - j)) := opI0 fun _ _ _ _ _ _ _ q => sub_int q
theorem op_mul : OpR X (binaryOp .Mult) (rI CMul fun i j => .int (i * j)) := opI fun _ _ _ _ _ _ _ hc q => mul_int q hc.ok
/-- // by a positive divisor -/
theorem op_fdiv : OpR X (binaryOp .FloorDiv) (rI CDiv fun i j => .int (i / j)) := opI fun i j _ _ _ _ _ hc q => by
  have h1 : (0 : Int) < j := hc.1
  have h2 : j < 1073741824 := hc.2
  exact floordiv_int (by omega) (by rw [Int.fdiv_eq_ediv_of_nonneg i (by omega)]; exact q) (.inl (PyProof.noPylong_small (by omega)))
theorem op_fdivN : OpR X (binaryOp .FloorDiv) (rI CDivN fun i j => .int (i.fdiv j)) := opI fun _ _ _ _ _ _ _ hc q => floordiv_int hc.1 q (.inl (PyProof.noPylong_small hc.2))
/-- % by a positive divisor of any size -/
theorem op_mod : OpR X (binaryOp .Mod) (rI (fun _ j => 0 < j) fun i j => .int (i % j)) := opI fun i j _ _ _ _ _ hc q => by
  have h1 : (0 : Int) < j := hc
  exact mod_int' (by omega) (by rw [Int.fmod_eq_emod_of_nonneg i (by omega)]; exact q)
theorem op_modN : OpR X (binaryOp .Mod) (rI (fun _ j => j ≠ 0) fun i j => .int (i.fmod j)) := opI fun _ _ _ _ _ _ _ hc q => mod_int' hc q
theorem op_pow : OpR X (binaryOp .Pow) (rI CPow fun i j => .int (i ^ j.toNat)) := opI fun _ _ _ _ _ _ _ hc q => pow_int_small hc.1 hc.2.1 hc.2.2 q
theorem op_shl : OpR X (binaryOp .LShift) (rI CPow fun i j => .int (i * 2 ^ j.toNat)) := opI fun _ _ _ _ _ _ _ hc q => lshift_int_small hc.1 hc.2.1 hc.2.2 q
theorem op_shr : OpR X (binaryOp .RShift) (rI (fun _ j => 0 ≤ j) fun i j => .int (i / 2 ^ j.toNat)) := opI fun i j _ _ _ _ _ hc q =>
  rshift_int hc (by rw [Int.fdiv_eq_ediv_of_nonneg i (two_pow_nn _)]; exact q)
theorem op_and : OpR X (binaryOp .BitAnd) (rI0 fun i j => .int (Builtin.bitAnd i j)) := opI0 fun _ _ _ _ _ _ _ q => and_int q
theorem op_or : OpR X (binaryOp .BitOr) (rI0 fun i j => .int (Builtin.bitOr i j)) := opI0 fun _ _ _ _ _ _ _ q => or_int q
theorem op_xor : OpR X (binaryOp .BitXor) (rI0 fun i j => .int (Builtin.bitXor i j)) := opI0 fun _ _ _ _ _ _ _ q => xor_int q

theorem iop_add : OpR X (inplaceOp .Add) (rI0 fun i j => .int (i + j)) := opI0 fun _ _ _ _ _ _ _ q => iadd_int q
theorem iop_sub : OpR X (inplaceOp .Sub) (rI0 fun i j => .int (i - j)) := opI0 fun _ _ _ _ _ _ _ q => isub_int q
theorem iop_mul : OpR X (inplaceOp .Mult) (rI CMul fun i j => .int (i * j)) := opI fun _ _ _ _ _ _ _ hc q => imul_int q hc.ok
theorem iop_fdiv : OpR X (inplaceOp .FloorDiv) (rI CDiv fun i j => .int (i / j)) := opI fun i j _ _ _ _ _ hc q => by
  have h1 : (0 : Int) < j := hc.1
  have h2 : j < 1073741824 := hc.2
  exact ifloordiv_int (by omega) (by rw [Int.fdiv_eq_ediv_of_nonneg i (by omega)]; exact q) (.inl (PyProof.noPylong_small (by omega)))
theorem iop_mod : OpR X (inplaceOp .Mod) (rI (fun _ j => 0 < j) fun i j => .int (i % j)) := opI fun i j _ _ _ _ _ hc q => by
  have h1 : (0 : Int) < j := hc
  exact imod_int (by omega) (by rw [Int.fmod_eq_emod_of_nonneg i (by omega)]; exact q)
theorem iop_shl : OpR X (inplaceOp .LShift) (rI CPow fun i j => .int (i * 2 ^ j.toNat)) := opI fun _ _ _ _ _ _ _ hc q => ilshift_int_small hc.1 hc.2.1 hc.2.2 q
theorem iop_shr : OpR X (inplaceOp .RShift) (rI (fun _ j => 0 ≤ j) fun i j => .int (i / 2 ^ j.toNat)) := opI fun i j _ _ _ _ _ hc q =>
  irshift_int hc (by rw [Int.fdiv_eq_ediv_of_nonneg i (two_pow_nn _)]; exact q)
theorem iop_and : OpR X (inplaceOp .BitAnd) (rI0 fun i j => .int (Builtin.bitAnd i j)) := opI0 fun _ _ _ _ _ _ _ q => iand_int q
theorem iop_or : OpR X (inplaceOp .BitOr) (rI0 fun i j => .int (Builtin.bitOr i j)) := opI0 fun _ _ _ _ _ _ _ q => ior_int q
theorem iop_xor : OpR X (inplaceOp .BitXor) (rI0 fun i j => .int (Builtin.bitXor i j)) := opI0 fun _ _ _ _ _ _ _ q => ixor_int q

theorem unI {f : Value → Sem Value} {g : Int → Int}
    (rule : ∀ (i : Int) (t : Tok) (s : Shared) (Q : Value → Shared → Prop) (E : Value → Shared → Prop), Q (.int (g i) s.toks) { s with toks := s.toks + 1 } → wpAny (model X.prog X.w) X.A (f (.int i t)) Q E s) :
    UnR X f (rU fun i => .int (g i)) := by
  refine .mk ?_
  intro pins s σ H x v Q I rx h
  obtain ⟨i, rfl, q⟩ := h
  obtain ⟨t, rfl⟩ := rx
  exact rule i t s _ _ ⟨.int (g i), H, I.tok _, ⟨_, rfl⟩, q⟩
theorem un_neg : UnR X (unaryOp .USub) (rU fun i => .int (-i)) := unI fun _ _ _ _ _ q => neg_int q
theorem un_inv : UnR X (unaryOp .Invert) (rU fun i => .int (Builtin.bitNot i)) := unI fun _ _ _ _ _ q => invert_int q

/-! ### bools among ints: n += (a < b) -/
theorem op_add_ib : OpR X (binaryOp .Add) (fun x y H Q => ∃ i k, x = .int i ∧ y = .bl k ∧ Q (.int (i + b2i k)) H) := by
  refine .mk ?_
  intro pins s σ H x y v u Q I rx ry h
  obtain ⟨i, k, rfl, rfl, q⟩ := h
  obtain ⟨t, rfl⟩ := rx
  cases ry
  exact add_int_bool ⟨.int (i + b2i k), H, I.tok _, ⟨_, rfl⟩, q⟩
end

/-! ### comparisons -/
/-- the scalars that == tells apart as data does -/
def scal : V → V → Bool
  | .non, .non => true | .non, .int _ => true | .int _, .non => true | .non, .bl _ => true | .bl _, .non => true | .non, .str _ => true | .str _, .non => true
  | .int _, .int _ => true | .bl _, .bl _ => true | .str _, .str _ => true | .byt _, .byt _ => true
  | .int _, .str _ => true | .str _, .int _ => true | .bl _, .str _ => true | .str _, .bl _ => true
  | _, _ => false
def rEq : R2 := fun x y H Q => scal x y = true ∧ Q (.bl (decide (x = y))) H
def rNe : R2 := fun x y H Q => scal x y = true ∧ Q (.bl (!decide (x = y))) H

theorem dec_int {i j : Int} : decide (V.int i = V.int j) = (i == j) := by
  rw [Bool.eq_iff_iff]
  simp
theorem dec_bl {i j : Bool} : decide (V.bl i = V.bl j) = (i == j) := by
  rw [Bool.eq_iff_iff]
  simp
theorem dec_str {i j : Str} : decide (V.str i = V.str j) = (i == j) := by
  rw [Bool.eq_iff_iff]
  simp
theorem dec_byt {i j : Array UInt8} : decide (V.byt i = V.byt j) = (i.toList == j.toList) := by
  rw [Bool.eq_iff_iff]
  cases i
  cases j
  simp

section
variable {X : Cx} {a b c : Expr} {ta tb tc : TE} {pos : Pos}
theorem fin_bl {pins : List (Addr × Obj)} {σ : St} {H : Hp} {s : Shared} {Q : VK} {k k' : Bool} (I : Inv X pins σ H s) (q : Q (.bl k) H) (e : k = k') : EP X pins σ Q (.bool k') s := by
  subst e
  exact ⟨.bl k, H, I, rfl, q⟩
theorem op_eq : OpR X (compareOp .Eq) rEq := by
  refine .mk ?_
  intro pins s σ H x y v u Q I rx ry h
  obtain ⟨hs, q⟩ := h
  cases x with
  | non =>
    cases rx
    cases y with
    | non => cases ry; exact PySem.EqNone.eq_none_none (fin_bl I q (by simp))
    | bl j => cases ry; exact PySem.EqNone.eq_none_bool (fin_bl I q (by simp))
    | int j => obtain ⟨t', rfl⟩ := ry; exact PySem.EqNone.eq_none_int (fin_bl I q (by simp))
    | str j => obtain ⟨t', rfl⟩ := ry; exact PySem.EqNone.eq_none_str (fin_bl I q (by simp))
    | _ => exact absurd (show false = true from hs) Bool.false_ne_true
  | bl i =>
    cases rx
    cases y with
    | non => cases ry; exact PySem.EqNone.eq_bool_none (fin_bl I q (by simp))
    | bl j => cases ry; exact eq_bool (fin_bl I q dec_bl)
    | str j => obtain ⟨t', rfl⟩ := ry; exact PySem.EqMixed.eq_bool_str (fin_bl I q (by simp))
    | _ => exact absurd (show false = true from hs) Bool.false_ne_true
  | int i =>
    obtain ⟨t, rfl⟩ := rx
    cases y with
    | non => cases ry; exact PySem.EqNone.eq_int_none (fin_bl I q (by simp))
    | int j => obtain ⟨t', rfl⟩ := ry; exact eq_int (fin_bl I q dec_int)
    | str j => obtain ⟨t', rfl⟩ := ry; exact PySem.EqMixed.eq_int_str (fin_bl I q (by simp))
    | _ => exact absurd (show false = true from hs) Bool.false_ne_true
  | str i =>
    obtain ⟨t, rfl⟩ := rx
    cases y with
    | non => cases ry; exact PySem.EqNone.eq_str_none (fin_bl I q (by simp))
    | bl j => cases ry; exact PySem.EqMixed.eq_str_bool (fin_bl I q (by simp))
    | int j => obtain ⟨t', rfl⟩ := ry; exact PySem.EqMixed.eq_str_int (fin_bl I q (by simp))
    | str j => obtain ⟨t', rfl⟩ := ry; exact eq_str (fin_bl I q dec_str)
    | _ => exact absurd (show false = true from hs) Bool.false_ne_true
  | byt i =>
    obtain ⟨t, rfl⟩ := rx
    cases y with
    | byt j => obtain ⟨t', rfl⟩ := ry; exact PySem.W.eq_bytes (fin_bl I q dec_byt)
    | _ => exact absurd (show false = true from hs) Bool.false_ne_true
  | _ => cases y <;> exact absurd (show false = true from hs) Bool.false_ne_true
theorem op_ne : OpR X (compareOp .NotEq) rNe := by
  refine .mk ?_
  intro pins s σ H x y v u Q I rx ry h
  obtain ⟨hs, q⟩ := h
  cases x with
  | non =>
    cases rx
    cases y with
    | non => cases ry; exact PySem.EqNone.ne_none_none (fin_bl I q (by simp))
    | bl j => cases ry; exact PySem.EqNone.ne_none_bool (fin_bl I q (by simp))
    | int j => obtain ⟨t', rfl⟩ := ry; exact PySem.EqNone.ne_none_int (fin_bl I q (by simp))
    | str j => obtain ⟨t', rfl⟩ := ry; exact PySem.EqNone.ne_none_str (fin_bl I q (by simp))
    | _ => exact absurd (show false = true from hs) Bool.false_ne_true
  | bl i =>
    cases rx
    cases y with
    | non => cases ry; exact PySem.EqNone.ne_bool_none (fin_bl I q (by simp))
    | bl j => cases ry; exact ne_bool (fin_bl I q (congrArg not dec_bl))
    | str j => obtain ⟨t', rfl⟩ := ry; exact PySem.EqMixed.ne_bool_str (fin_bl I q (by simp))
    | _ => exact absurd (show false = true from hs) Bool.false_ne_true
  | int i =>
    obtain ⟨t, rfl⟩ := rx
    cases y with
    | non => cases ry; exact PySem.EqNone.ne_int_none (fin_bl I q (by simp))
    | int j => obtain ⟨t', rfl⟩ := ry; exact ne_int (fin_bl I q (congrArg not dec_int))
    | str j => obtain ⟨t', rfl⟩ := ry; exact PySem.EqMixed.ne_int_str (fin_bl I q (by simp))
    | _ => exact absurd (show false = true from hs) Bool.false_ne_true
  | str i =>
    obtain ⟨t, rfl⟩ := rx
    cases y with
    | non => cases ry; exact PySem.EqNone.ne_str_none (fin_bl I q (by simp))
    | bl j => cases ry; exact PySem.EqMixed.ne_str_bool (fin_bl I q (by simp))
    | int j => obtain ⟨t', rfl⟩ := ry; exact PySem.EqMixed.ne_str_int (fin_bl I q (by simp))
    | str j => obtain ⟨t', rfl⟩ := ry; exact ne_str (fin_bl I q (congrArg not dec_str))
    | _ => exact absurd (show false = true from hs) Bool.false_ne_true
  | byt i =>
    obtain ⟨t, rfl⟩ := rx
    cases y with
    | byt j => obtain ⟨t', rfl⟩ := ry; exact PySem.W.ne_bytes (fin_bl I q (congrArg not dec_byt))
    | _ => exact absurd (show false = true from hs) Bool.false_ne_true
  | _ => cases y <;> exact absurd (show false = true from hs) Bool.false_ne_true

theorem op_lt : OpR X (compareOp .Lt) (rI0 fun i j => .bl (decide (i < j))) := opB0 fun _ _ _ _ _ _ _ q => lt_int q
theorem op_le : OpR X (compareOp .LtE) (rI0 fun i j => .bl (decide (i ≤ j))) := opB0 fun _ _ _ _ _ _ _ q => le_int q
theorem op_gt : OpR X (compareOp .Gt) (rI0 fun i j => .bl (decide (j < i))) := opB0 fun _ _ _ _ _ _ _ q => gt_int q
theorem op_ge : OpR X (compareOp .GtE) (rI0 fun i j => .bl (decide (j ≤ i))) := opB0 fun _ _ _ _ _ _ _ q => ge_int q
theorem op_lt_str : OpR X (compareOp .Lt) (fun x y H Q => ∃ i j, x = .str i ∧ y = .str j ∧ Q (.bl (decide (i.cps.toList < j.cps.toList))) H) := by
  refine .mk ?_
  intro pins s σ H x y v u Q I rx ry h
  obtain ⟨i, j, rfl, rfl, q⟩ := h
  obtain ⟨t, rfl⟩ := rx
  obtain ⟨t', rfl⟩ := ry
  exact lt_str (fin_bl I q rfl)
/-- the one string within the other -/
theorem op_in_str : OpR X (compareOp .In) (fun x y H Q => ∃ i j, x = .str i ∧ y = .str j ∧ Q (.bl (!(Builtin.Str.occurrences j i 0 j.length 1).isEmpty)) H) := by
  refine .mk ?_
  intro pins s σ H x y v u Q I rx ry h
  obtain ⟨i, j, rfl, rfl, q⟩ := h
  obtain ⟨t, rfl⟩ := rx
  obtain ⟨t', rfl⟩ := ry
  exact in_str (fin_bl I q rfl)

/-- is None, is not None: the right side a value none -/
theorem op_isN : OpR X (compareOp .Is) (fun x y H Q => y = .non ∧ Q (.bl (decide (x = .non))) H) := by
  refine .mk ?_
  intro pins s σ H x y v u Q I rx ry h
  obtain ⟨rfl, q⟩ := h
  cases ry
  refine is_none_gen (fin_bl I q ?_)
  cases x <;> first
    | (cases rx; rfl)
    | (obtain ⟨t, rfl⟩ := rx; rfl)
theorem op_notN : OpR X (compareOp .IsNot) (fun x y H Q => y = .non ∧ Q (.bl (!decide (x = .non))) H) := by
  refine .mk ?_
  intro pins s σ H x y v u Q I rx ry h
  obtain ⟨rfl, q⟩ := h
  cases ry
  refine isnot_none_gen (fin_bl I q ?_)
  cases x <;> first
    | (cases rx; rfl)
    | (obtain ⟨t, rfl⟩ := rx; rfl)

theorem op_notin_str : OpR X (compareOp .NotIn) (fun x y H Q => ∃ i j, x = .str i ∧ y = .str j ∧ Q (.bl (!(!(Builtin.Str.occurrences j i 0 j.length 1).isEmpty))) H) := by
  refine .mk ?_
  intro pins s σ H x y v u Q I rx ry h
  obtain ⟨i, j, rfl, rfl, q⟩ := h
  obtain ⟨t, rfl⟩ := rx
  obtain ⟨t', rfl⟩ := ry
  exact notIn_str (fin_bl I q rfl)
/-- is, is not of two objects that are tracked lists or instances -/
def isObj : HO → Bool
  | .lst _ => true
  | .ins _ _ _ => true
  | _ => false
theorem obj_there {pins : List (Addr × Obj)} {s : Shared} {σ : St} {H : Hp} {a : Addr} {o : HO} (I : Inv X pins σ H s) (h : H a = some o) (p : isObj o = true) : ∃ ob, s.heap.get? a = some ob ∧ ob.cls ≠ .type "tuple" := by
  cases o with
  | lst xs =>
    obtain ⟨_, its, n, _, e⟩ : xs.length ≤ sizeLine ∧ ∃ (its : List Value) (n : Nat), Vals xs its ∧ s.heap.get? a = some { cls := .type "list", data := .seq its.toArray n } := I.hok a _ h
    exact ⟨_, e, (by show Value.type "list" ≠ .type "tuple"; decide +kernel)⟩
  | ins C dx fs =>
    have x := I.hok a _ h
    obtain ⟨_, _, _, e, _⟩ := x
    exact ⟨_, e, (by show Value.ref C ≠ .type "tuple"; exact fun z => by cases z)⟩
  | _ => exact absurd (show false = true from p) Bool.false_ne_true
theorem op_is_ref : OpR X (compareOp .Is) (fun x y H Q => ∃ a b oa ob, x = .ref a ∧ y = .ref b ∧ H a = some oa ∧ isObj oa = true ∧ H b = some ob ∧ isObj ob = true ∧ Q (.bl (decide (a = b))) H) := by
  refine .mk ?_
  intro pins s σ H x y v u Q I rx ry h
  obtain ⟨a, b, oa, ob, rfl, rfl, ha, pa, hb, pb, q⟩ := h
  cases rx
  cases ry
  obtain ⟨o1, e1, n1⟩ := obj_there I ha pa
  obtain ⟨o2, e2, _⟩ := obj_there I hb pb
  by_cases z : a = b
  · subst z
    exact wpAny_is_ref_self (fin_bl I q (by simp))
  · exact wpAny_is_ref_other z e1 e2 n1 (fin_bl I q (by simp [z]))
theorem op_isnot_ref : OpR X (compareOp .IsNot) (fun x y H Q => ∃ a b oa ob, x = .ref a ∧ y = .ref b ∧ H a = some oa ∧ isObj oa = true ∧ H b = some ob ∧ isObj ob = true ∧ Q (.bl (!decide (a = b))) H) := by
  refine .mk ?_
  intro pins s σ H x y v u Q I rx ry h
  obtain ⟨a, b, oa, ob, rfl, rfl, ha, pa, hb, pb, q⟩ := h
  cases rx
  cases ry
  obtain ⟨o1, e1, n1⟩ := obj_there I ha pa
  obtain ⟨o2, e2, _⟩ := obj_there I hb pb
  by_cases z : a = b
  · subst z
    exact wpAny_isNot_ref_self (fin_bl I q (by simp))
  · exact wpAny_isNot_ref_other z e1 e2 n1 (fin_bl I q (by simp [z]))

/-- two rules for one operation: by cases -/
theorem OpR.or {f : Value → Value → Sem Value} {r r' : R2} (h : OpR X f r) (h' : OpR X f r') : OpR X f (fun x y H Q => r x y H Q ∨ r' x y H Q) := by
  refine .mk ?_
  intro pins s σ H x y v u Q I rx ry q
  rcases q with q | q
  · exact h pins s σ H x y v u Q I rx ry q
  · exact h' pins s σ H x y v u Q I rx ry q

theorem nomark (b : Expr) {op : CmpOp} (h : op ≠ .In := by decide) (h2 : op ≠ .NotIn := by decide) : behindInMarks op b = false := by
  have e1 : (op == CmpOp.In) = false := by cases op <;> first | rfl | exact absurd rfl h
  have e2 : (op == CmpOp.NotIn) = false := by cases op <;> first | rfl | exact absurd rfl h2
  cases b <;> simp [behindInMarks, e1, e2]
/-- a comparison as a value; hm: nomark b, or (for in, not in) by with_unfolding_all rfl -/
theorem pe_cmpR {op : CmpOp} {r : R2} (ho : OpR X (compareOp op) r) (ha : PE X a ta) (hb : PE X b tb) (hm : behindInMarks op b = false) : PE X (.Compare a [op] [b] pos) (tOp r ta tb) := by
  refine .mk ?_
  intro pins s σ H Q I h
  exact wpAny_Compare1 (binT ha hb I h fun v u s2 x y H2 I2 rx ry q => ho pins s2 σ H2 x y v u Q I2 rx ry q) hm
/-- a reading of a value as a test -/
def tTest (t : TE) : TT := fun σ H Q => t σ H fun x H' => ∃ k, x = .bl k ∧ Q k H'
theorem pt_cmpR {op : CmpOp} {r : R2} (ho : OpR X (compareOp op) r) (ha : PE X a ta) (hb : PE X b tb) (hm : behindInMarks op b = false) : PT X (.Compare a [op] [b] pos) (tTest (tOp r ta tb)) := by
  refine .mk ?_
  intro pins s σ H Q I h
  refine wpAny_isTrue_Compare1 (thn (ha pins s σ H _ I h) fun v s1 ⟨x, H1, I1, r1, q1⟩ => thn (hb pins s1 σ H1 _ I1 q1) fun u s2 ⟨y, H2, I2, r2, q2⟩ =>
    thn (ho pins s2 σ H2 x y v u _ I2 r1 r2 q2) fun c s3 ⟨z, H3, I3, r3, k, e, q3⟩ => ?_) hm
  subst e
  cases r3
  exact wpAny_truthy_bool ⟨H3, I3, q3⟩
/-- a op1 b op2 c -/
def tChain (r r' : R2) (ta tb tc : TE) : TE := fun σ H Q => ta σ H fun x H1 => tb σ H1 fun y H2 => r x y H2 fun z H3 => ∃ k, z = .bl k ∧
  (if k = true then tc σ H3 fun w' H4 => r' y w' H4 Q else Q (.bl false) H3)
theorem pe_chain {op op' : CmpOp} {r r' : R2} (ho : OpR X (compareOp op) r) (ho' : OpR X (compareOp op') r') (ha : PE X a ta) (hb : PE X b tb) (hc : PE X c tc)
    (hm : lastMarks [op, op'] [b, c] = false := by with_unfolding_all rfl) : PE X (.Compare a [op, op'] [b, c] pos) (tChain r r' ta tb tc) := by
  refine .mk ?_
  intro pins s σ H Q I h
  refine Compare_chain (thn (ha pins s σ H _ I h) fun v s1 ⟨x, H1, I1, r1, q1⟩ => chain_link (thn (hb pins s1 σ H1 _ I1 q1) fun u s2 ⟨y, H2, I2, r2, q2⟩ =>
    thn (ho pins s2 σ H2 x y v u _ I2 r1 r2 q2) fun d s3 ⟨z, H3, I3, r3, k, e, q3⟩ => ?_)) hm
  subst e
  cases r3
  refine wpAny_truthy_bool ?_
  cases k with
  | false => exact ite_ff ⟨.bl false, H3, I3, rfl, q3⟩
  | true => exact ite_tt (chain_last (thn (hc pins s3 σ H3 _ I3 q3) fun w' s4 ⟨z', H4, I4, r4, q4⟩ => ho' pins s4 σ H4 y z' u w' Q I4 r2 r4 q4))
theorem pt_chain {op op' : CmpOp} {r r' : R2} (ho : OpR X (compareOp op) r) (ho' : OpR X (compareOp op') r') (ha : PE X a ta) (hb : PE X b tb) (hc : PE X c tc)
    (hm : lastMarks [op, op'] [b, c] = false := by with_unfolding_all rfl) : PT X (.Compare a [op, op'] [b, c] pos) (tTest (tChain r r' ta tb tc)) := by
  refine .mk ?_
  intro pins s σ H Q I h
  refine isTrue_chain (thn (ha pins s σ H _ I h) fun v s1 ⟨x, H1, I1, r1, q1⟩ => test_link (thn (hb pins s1 σ H1 _ I1 q1) fun u s2 ⟨y, H2, I2, r2, q2⟩ =>
    thn (ho pins s2 σ H2 x y v u _ I2 r1 r2 q2) fun d s3 ⟨z, H3, I3, r3, k, e, q3⟩ => ?_)) hm
  subst e
  cases r3
  refine wpAny_truthy_bool ?_
  cases k with
  | false =>
    obtain ⟨k', e', q'⟩ := q3
    cases e'
    exact ite_ff ⟨H3, I3, q'⟩
  | true =>
    refine ite_tt (test_last (thn (hc pins s3 σ H3 _ I3 q3) fun w' s4 ⟨z', H4, I4, r4, q4⟩ => thn (ho' pins s4 σ H4 y z' u w' _ I4 r2 r4 q4) fun d' s5 ⟨z2, H5, I5, r5, k2, e2, q5⟩ => ?_))
    subst e2
    cases r5
    exact wpAny_truthy_bool ⟨H5, I5, q5⟩

/-! ### truth -/
/-- a value's truth by the abstract heap -/
def TruV (K : PySem.W.Frag) (x : V) (H : Hp) (k : Bool) : Prop :=
  match x with
  | .non => k = false
  | .bl b => k = b
  | .int i => k = (i != 0)
  | .str y => y.length ≤ sizeLine ∧ k = ((y.length : Int) != 0)
  | .byt y => y.size ≤ sizeLine ∧ k = ((y.size : Int) != 0)
  | .ref p => (∃ xs, SqL K H p xs ∧ k = !xs.isEmpty) ∨ (∃ xs, SqT K H p xs ∧ k = !xs.isEmpty) ∨ ∃ kvs, H p = some (.dK kvs) ∧ k = !kvs.isEmpty
  | _ => False
theorem isEmpty_kv {κ : Type} {kvs : List (κ × V)} {vs : List (κ × Value)} (r : KV kvs vs) : (!vs.isEmpty) = !kvs.isEmpty := by
  cases r <;> rfl
theorem isEmpty_of {xs : List V} {its : List Value} (r : Vals xs its) : (!its.toArray.isEmpty) = !xs.isEmpty := by
  cases r <;> simp
theorem line63 : (sizeLine : Nat) < 2 ^ 63 := by rw [sizeLine_eq]; decide
theorem tru_ok : TruR X (fun x H Q => ∃ k, TruV X.K x H k ∧ Q k H) := by
  intro pins s σ H x v Q I rx h
  obtain ⟨k, e, q⟩ := h
  have hl := line63
  have hs : sizeLine = 16777216 := sizeLine_eq
  cases x with
  | non =>
    cases rx
    have e' : k = false := e
    subst e'
    exact truthy_none ⟨H, I, q⟩
  | bl b =>
    cases rx
    have e' : k = b := e
    subst e'
    exact wpAny_truthy_bool ⟨H, I, q⟩
  | int i =>
    obtain ⟨t, rfl⟩ := rx
    have e' : k = (i != 0) := e
    subst e'
    exact PySem.P.truthy_int ⟨H, I, q⟩
  | str y =>
    obtain ⟨t, rfl⟩ := rx
    obtain ⟨hy, e'⟩ : y.length ≤ sizeLine ∧ k = ((y.length : Int) != 0) := e
    subst e'
    exact PySem.P.truthy_str (by omega) ⟨H, I.tok _, q⟩
  | byt y =>
    obtain ⟨t, rfl⟩ := rx
    obtain ⟨hy, e'⟩ : y.size ≤ sizeLine ∧ k = ((y.size : Int) != 0) := e
    subst e'
    exact PySem.W.truthy_bytes (by omega) ⟨H, I.tok _, q⟩
  | ref p =>
    cases rx
    have e' : (∃ xs, SqL X.K H p xs ∧ k = !xs.isEmpty) ∨ (∃ xs, SqT X.K H p xs ∧ k = !xs.isEmpty) ∨ ∃ kvs, H p = some (.dK kvs) ∧ k = !kvs.isEmpty := e
    rcases e' with ⟨xs, hx, e'⟩ | ⟨xs, hx, e'⟩ | ⟨kvs, hx, e'⟩
    · subst e'
      obtain ⟨its, r, pl, hz⟩ := I.list hx
      have hlen := r.length
      exact wpAny_truthy_list pl.isList (by simp only [List.size_toArray]; omega) ⟨H, I.tok _, by rw [isEmpty_of r]; exact q⟩
    · subst e'
      obtain ⟨its, r, pl, hz⟩ := I.tuple hx
      have hlen := r.length
      exact truthy_tuple pl (by simp only [List.size_toArray]; omega) ⟨H, I.tok _, by rw [isEmpty_of r]; exact q⟩
    · subst e'
      obtain ⟨hz, hS, vs, r, m⟩ : kvs.length ≤ sizeLine ∧ (p == sysModules) = false ∧ ∃ vs, KV kvs vs ∧ s.heap.DictOf (mixKind X.prog X.w) p vs := I.hok p _ hx
      have hlen : kvs.length = vs.length := Paired.length r
      exact wpAny_truthy_dict hS m (by omega) ⟨H, I.tok _, by rw [isEmpty_kv r]; exact q⟩
  | _ => exact (show False from e).elim
/-- any expression whose test is its value's truth (a name, a call, a subscript, a field ..: he by fun _ => rfl) -/
theorem pt_truth (ha : PE X a ta) (he : ∀ whole, isTrue a X.env whole = (do let v ← whole; standAt a.pos; holding [v] (truthy v))) :
    PT X a (fun σ H Q => ta σ H fun x H' => ∃ k, TruV X.K x H' k ∧ Q k H') := by
  refine .mk ?_
  intro pins s σ H Q I h
  exact isTrue_plain (thn (ha pins s σ H _ I h) fun v s1 ⟨x, H1, I1, r1, q1⟩ => tru_ok pins s1 σ H1 x v Q I1 r1 q1) (he _)

/-! ### strs and bytes -/
theorem pe_byt {x : List UInt8} {k : Nat} : PE X (.Constant (.bytes x) k pos) (fun _ H Q => Q (.byt x.toArray) H) := .mk <| fun _ _ _ H _ I h => PySem.W.Constant_bytes ⟨.byt x.toArray, H, I.tok _, ⟨_, rfl⟩, h⟩
theorem op_add_str : OpR X (binaryOp .Add) (fun x y H Q => ∃ i j, x = .str i ∧ y = .str j ∧ i.length + j.length ≤ sizeLine ∧ Q (.str (i ++ j)) H) := by
  refine .mk ?_
  intro pins s σ H x y v u Q I rx ry h
  obtain ⟨i, j, rfl, rfl, hz, q⟩ := h
  obtain ⟨t, rfl⟩ := rx
  obtain ⟨t', rfl⟩ := ry
  exact add_str (fun t' tk => ⟨.str (i ++ j), H, I.tok _, ⟨_, rfl⟩, q⟩) hz
theorem iop_add_str : OpR X (inplaceOp .Add) (fun x y H Q => ∃ i j, x = .str i ∧ y = .str j ∧ i.length + j.length ≤ sizeLine ∧ Q (.str (i ++ j)) H) := by
  refine .mk ?_
  intro pins s σ H x y v u Q I rx ry h
  obtain ⟨i, j, rfl, rfl, hz, q⟩ := h
  obtain ⟨t, rfl⟩ := rx
  obtain ⟨t', rfl⟩ := ry
  exact iadd_str (fun t' tk => ⟨.str (i ++ j), H, I.tok _, ⟨_, rfl⟩, q⟩) hz
theorem op_add_byt : OpR X (binaryOp .Add) (fun x y H Q => ∃ i j, x = .byt i ∧ y = .byt j ∧ i.size + j.size ≤ 16777216 ∧ Q (.byt (i ++ j)) H) := by
  refine .mk ?_
  intro pins s σ H x y v u Q I rx ry h
  obtain ⟨i, j, rfl, rfl, hz, q⟩ := h
  obtain ⟨t, rfl⟩ := rx
  obtain ⟨t', rfl⟩ := ry
  exact PySem.W.KBy.add_bytes hz (fun t' tk => ⟨.byt (i ++ j), H, I.tok _, ⟨_, rfl⟩, q⟩)

def PlainIxT (b : Expr) : Prop := ∀ o i, subscripted b false o i = operate [o, i] (getItem o i)
/-- s[i], 0 ≤ i < len -/
theorem pe_item_str (ha : PE X a ta) (hb : PE X b tb) (hs : PlainIxT b) :
    PE X (.Subscript a b pos) (tOp (fun x y H Q => ∃ z i c, x = .str z ∧ y = .int i ∧ 0 ≤ i ∧ i < 2 ^ 63 ∧ i < z.length ∧ z.cps[i.toNat]? = some c ∧ Q (.str ⟨#[c]⟩) H) ta tb) := by
  refine .mk ?_
  intro pins s σ H Q I h
  refine Subscript_ (binT ha hb I h fun v u s2 x y H2 I2 rx ry q => ?_)
  obtain ⟨z, i, c, rfl, rfl, h0, h63, h1, hc, q⟩ := q
  obtain ⟨t, rfl⟩ := rx
  obtain ⟨t', rfl⟩ := ry
  have e : seqIndex? i z.length = some i.toNat := PySem.StrLaws.seqIndex_nonneg h0 h1
  exact tail_any (typeIs_str s2 z t) slot_str_getitem.lookup (getItem_str (c := c) (by
    have e1 : decide (i < -(2 ^ 63 : Int)) = false := decide_eq_false (by omega)
    have e2 : decide (i ≥ 2 ^ 63) = false := decide_eq_false (by omega)
    rw [e1, e2] <;> rfl) (by rw [e]; exact hc) ⟨.str ⟨#[c]⟩, H2, I2.tok _, ⟨_, rfl⟩, q⟩) (hs _ _)
/-- b[i], 0 ≤ i < len -/
theorem pe_item_byt (ha : PE X a ta) (hb : PE X b tb) (hs : PlainIxT b) :
    PE X (.Subscript a b pos) (tOp (fun x y H Q => ∃ (z : List UInt8) (i : Int), x = .byt z.toArray ∧ y = .int i ∧ z.length ≤ sizeLine ∧ 0 ≤ i ∧ i < z.length ∧ Q (.int ((z.getD i.toNat 0).toNat : Nat)) H) ta tb) := by
  refine .mk ?_
  intro pins s σ H Q I h
  refine Subscript_ (binT ha hb I h fun v u s2 x y H2 I2 rx ry q => ?_)
  obtain ⟨z, i, rfl, rfl, hz, h0, h1, q⟩ := q
  obtain ⟨t, rfl⟩ := rx
  obtain ⟨t', rfl⟩ := ry
  have hl : sizeLine = 16777216 := sizeLine_eq
  exact tail_any (PySem.W.typeIs_bytes s2 z.toArray t) PySem.W.FB.slot_bytes_getitem.lookup (PySem.W.getItem_bytes (by omega) h0 h1 ⟨.int ((z.getD i.toNat 0).toNat : Nat), H2, I2.tok _, ⟨_, rfl⟩, q⟩) (hs _ _)

/-! ### scalar builtins, by CallR -/
theorem vals1 {x : V} {us : List Value} (r : Vals [x] us) : ∃ u, us = [u] ∧ RelV x u := by
  cases r with
  | cons r1 r2 => cases r2; exact ⟨_, rfl, r1⟩
theorem vals2 {x y : V} {us : List Value} (r : Vals [x, y] us) : ∃ u w', us = [u, w'] ∧ RelV x u ∧ RelV y w' := by
  cases r with
  | cons r1 r2 =>
    cases r2 with
    | cons r3 r4 => cases r4; exact ⟨_, _, rfl, r1, r3⟩
theorem call_abs : CallR X (.builtin "abs") (fun xs H Q => ∃ i, xs = [.int i] ∧ Q (.int (if i < 0 then -i else i)) H) := by
  refine .mk ?_
  intro pins s σ H xs us Q I r h
  obtain ⟨i, rfl, q⟩ := h
  obtain ⟨u, rfl, t, rfl⟩ := vals1 r
  exact call_abs_int fun u tk => ⟨.int (if i < 0 then -i else i), H, I.tok _, ⟨_, rfl⟩, q⟩
theorem call_max2 (hc : X.calm = true) : CallR X (.builtin "max") (fun xs H Q => ∃ i j, xs = [.int i, .int j] ∧ Q (.int (if j > i then j else i)) H) := by
  refine .mk ?_
  intro pins s σ H xs us Q I r h
  obtain ⟨i, j, rfl, q⟩ := h
  obtain ⟨u, w', rfl, ⟨t, rfl⟩, ⟨t', rfl⟩⟩ := vals2 r
  refine max_two_ints (I.ok.hd hc) fun h' tk k => ⟨_, H, I.kept k, ?_, q⟩
  by_cases hj : j > i
  · rw [if_pos hj, if_pos hj]; exact ⟨_, rfl⟩
  · rw [if_neg hj, if_neg hj]; exact ⟨_, rfl⟩
theorem call_min2 (hc : X.calm = true) : CallR X (.builtin "min") (fun xs H Q => ∃ i j, xs = [.int i, .int j] ∧ Q (.int (if j < i then j else i)) H) := by
  refine .mk ?_
  intro pins s σ H xs us Q I r h
  obtain ⟨i, j, rfl, q⟩ := h
  obtain ⟨u, w', rfl, ⟨t, rfl⟩, ⟨t', rfl⟩⟩ := vals2 r
  refine min_two_ints (I.ok.hd hc) fun h' tk k => ⟨_, H, I.kept k, ?_, q⟩
  by_cases hj : j < i
  · rw [if_pos hj, if_pos hj]; exact ⟨_, rfl⟩
  · rw [if_neg hj, if_neg hj]; exact ⟨_, rfl⟩
theorem call_int1 : CallR X (.type "int") (fun xs H Q => (∃ i, xs = [.int i] ∧ Q (.int i) H) ∨ ∃ k, xs = [.bl k] ∧ Q (.int (if k then 1 else 0)) H) := by
  refine .mk ?_
  intro pins s σ H xs us Q I r h
  rcases h with ⟨i, rfl, q⟩ | ⟨k, rfl, q⟩
  · obtain ⟨u, rfl, t, rfl⟩ := vals1 r
    exact call_int_int ⟨.int i, H, I, ⟨_, rfl⟩, q⟩
  · obtain ⟨u, rfl, r1⟩ := vals1 r
    cases r1
    exact call_int_bool ⟨.int (if k then 1 else 0), H, I.tok _, ⟨_, rfl⟩, q⟩
theorem call_bool1 : CallR X (.type "bool") (fun xs H Q => (∃ i, xs = [.int i] ∧ Q (.bl (i != 0)) H) ∨ ∃ k, xs = [.bl k] ∧ Q (.bl k) H) := by
  refine .mk ?_
  intro pins s σ H xs us Q I r h
  rcases h with ⟨i, rfl, q⟩ | ⟨k, rfl, q⟩
  · obtain ⟨u, rfl, t, rfl⟩ := vals1 r
    exact call_bool_int ⟨.bl (i != 0), H, I, rfl, q⟩
  · obtain ⟨u, rfl, r1⟩ := vals1 r
    cases r1
    exact call_bool_bool ⟨.bl k, H, I, rfl, q⟩
theorem call_str_int : CallR X (.type "str") (fun xs H Q => ∃ i, xs = [.int i] ∧ i.natAbs.log2 < 1920 ∧ Q (.str (toString i)) H) := by
  refine .mk ?_
  intro pins s σ H xs us Q I r h
  obtain ⟨i, rfl, hz, q⟩ := h
  obtain ⟨u, rfl, t, rfl⟩ := vals1 r
  exact PySem.P.str_of_int hz ⟨.str _, H, I.tok _, ⟨_, rfl⟩, q⟩
theorem call_ord : CallR X (.builtin "ord") (fun xs H Q => ∃ x, xs = [.str x] ∧ x.length = 1 ∧ Q (.int (x.cps.getD 0 0 : Nat)) H) := by
  refine .mk ?_
  intro pins s σ H xs us Q I r h
  obtain ⟨x, rfl, hz, q⟩ := h
  obtain ⟨u, rfl, t, rfl⟩ := vals1 r
  exact ord_of_one hz ⟨.int _, H, I.tok _, ⟨_, rfl⟩, q⟩
theorem call_chr : CallR X (.builtin "chr") (fun xs H Q => ∃ i, xs = [.int i] ∧ 0 ≤ i ∧ i ≤ 1114111 ∧ Q (.str ⟨#[i.toNat]⟩) H) := by
  refine .mk ?_
  intro pins s σ H xs us Q I r h
  obtain ⟨i, rfl, h0, h1, q⟩ := h
  obtain ⟨u, rfl, t, rfl⟩ := vals1 r
  exact chr_of_range h0 h1 ⟨.str _, H, I.tok _, ⟨_, rfl⟩, q⟩
/-- len of a str, a bytes, a list, a tuple -/
def LenV (K : PySem.W.Frag) (x : V) (H : Hp) (n : Nat) : Prop :=
  match x with
  | .str y => y.length ≤ sizeLine ∧ n = y.length
  | .byt y => y.size ≤ sizeLine ∧ n = y.size
  | .ref p => (∃ xs, SqL K H p xs ∧ n = xs.length) ∨ ∃ xs, SqT K H p xs ∧ n = xs.length
  | _ => False
theorem call_len : CallR X (.builtin "len") (fun xs H Q => ∃ x n, xs = [x] ∧ LenV X.K x H n ∧ Q (.int n) H) := by
  refine .mk ?_
  intro pins s σ H xs us Q I r h
  obtain ⟨x, n, rfl, e, q⟩ := h
  obtain ⟨u, rfl, rx⟩ := vals1 r
  have hl := line63
  have hs : sizeLine = 16777216 := sizeLine_eq
  cases x with
  | str y =>
    obtain ⟨t, rfl⟩ := rx
    obtain ⟨hy, e'⟩ : y.length ≤ sizeLine ∧ n = y.length := e
    subst e'
    exact len_str (by omega) ⟨.int _, H, I.tok _, ⟨_, rfl⟩, q⟩
  | byt y =>
    obtain ⟨t, rfl⟩ := rx
    obtain ⟨hy, e'⟩ : y.size ≤ sizeLine ∧ n = y.size := e
    subst e'
    exact PySem.W.len_bytes (by omega) ⟨.int _, H, I.tok _, ⟨_, rfl⟩, q⟩
  | ref p =>
    cases rx
    have e' : (∃ xs, SqL X.K H p xs ∧ n = xs.length) ∨ ∃ xs, SqT X.K H p xs ∧ n = xs.length := e
    rcases e' with ⟨xs, hx, e'⟩ | ⟨xs, hx, e'⟩
    · subst e'
      obtain ⟨its, r', pl, hz⟩ := I.list hx
      have hlen := r'.length
      exact Calls.call_len_list pl.isList (by simp only [List.size_toArray]; omega) ⟨.int xs.length, H, I.tok _, ⟨_, by simp only [List.size_toArray]; rw [hlen]⟩, q⟩
    · subst e'
      obtain ⟨its, r', pl, hz⟩ := I.tuple hx
      have hlen := r'.length
      exact len_tuple pl (by simp only [List.size_toArray]; omega) ⟨.int xs.length, H, I.tok _, ⟨_, by simp only [List.size_toArray]; rw [hlen]⟩, q⟩
  | _ => exact (show False from e).elim
/-- divmod: a new tuple -/
theorem call_divmod : CallR X (.builtin "divmod") (fun xs H Q => ∃ i j, xs = [.int i, .int j] ∧ CDiv i j ∧ ∀ p, H p = none → Q (.ref p) (upd H p (.tup [.int (i / j), .int (i % j)]))) := by
  refine .mk ?_
  intro pins s σ H xs us Q I r h
  obtain ⟨i, j, rfl, ⟨h1, h2⟩, q⟩ := h
  obtain ⟨u, w', rfl, ⟨t, rfl⟩, ⟨t', rfl⟩⟩ := vals2 r
  refine divmod_int (by omega) ?_ (.inl (PyProof.noPylong_small (by omega)))
  rw [Int.fdiv_eq_ediv_of_nonneg i (by omega), Int.fmod_eq_emod_of_nonneg i (by omega)]
  have hn : H s.heap.objs.size = none := I.hok.fresh (Nat.le_refl _)
  refine ⟨.ref s.heap.objs.size, _, ?_, rfl, q _ hn⟩
  refine I.laid (fun b o e => Heap.get?_push_of_some _ e) (Nat.le_refl _) ⟨by simp only [List.length_cons, List.length_nil]; rw [sizeLine_eq]; decide, [.int (i / j) s.toks, .int (i % j) (s.toks + 1)], .cons ⟨_, rfl⟩ (.cons ⟨_, rfl⟩ .nil), ?_⟩
  exact ⟨_, Heap.get?_push_size s.heap rfl, rfl, 0, rfl⟩
end
end L2

namespace L2
open PySem PySem.Spec PyProof.Rows

/-! ### an instance, its attributes a map -/
structure ObjM (h : Heap) (x dx C : Addr) (mA : Str → Option Value) : Prop where
  obj : h.get? x = some (PySem.W.instObj C dx)
  ns : h.Ns1 dx mA
  ne : dx ≠ x

theorem lookIn_ns {h : Heap} {dx : Addr} {mA : Str → Option Value} (n : h.Ns1 dx mA) : ∃ od, h.get? dx = some od ∧ ∀ name, PySem.W.lookIn name od = some (mA name) := by
  obtain ⟨o, es, ep, ho, hd, hk, _, hm⟩ := n
  refine ⟨o, ho, fun name => ?_⟩
  have e := hm name
  unfold nsFind findBy at e
  rw [← Array.find?_toList] at e
  unfold PySem.W.lookIn
  rw [hd]
  dsimp only
  split
  · rename_i y q
    rw [q] at e
    exact congrArg some e
  · rename_i q
    rw [q] at e
    have a : es.toList.any (·.refKey) = false := by
      rw [List.any_eq_false]
      intro y hy
      obtain ⟨z, t, hkey⟩ := hk y (Array.mem_toList_iff.mp hy)
      simp [DictEntry.refKey, hkey]
    have a' : ¬ es.toList.any (·.refKey) = true := by rw [a]; exact Bool.false_ne_true
    rw [if_neg a']
    exact congrArg some e

theorem ObjM.look {h : Heap} {x dx C : Addr} {mA : Str → Option Value} (I : ObjM h x dx C mA) : ∃ od, PySem.W.InstAt h x (PySem.W.instObj C dx) C (some od) ∧ ∀ name, PySem.W.lookIn name od = some (mA name) :=
  let ⟨od, ho, hl⟩ := lookIn_ns I.ns
  ⟨od, ⟨I.obj, rfl, rfl, ho⟩, hl⟩

section
variable {prog : Program} {w : World} {A : Around} {E : Value → Shared → Prop} {s : Shared} {K : PySem.W.Frag} {x dx C f : Addr} {mA : Str → Option Value} {name : Str} {v : Value}

theorem get_map {expr : Bool} {Q : Value → Shared → Prop} (X : K.In s.heap) (I : ObjM s.heap x dx C mA) (hg : PySem.W.plainGet K C name = true) (hh : PySem.W.hasDictIn K C = true)
    (ha : PySem.W.findIn K (.ref C) name = some none) (hv : mA name = some v) (hv' : PySem.W.handedIn v = true) (h : Q v { s with toks := s.toks + 1 }) :
    wpAny (model prog w) A (getAttr (.ref x) name expr) Q E s := by
  obtain ⟨od, J, hl⟩ := I.look
  exact PySem.W.get_value X J (PySem.W.plainGet_of hg).1 (PySem.W.findObj_own hh ha rfl (by rw [hl, hv])) hv' h

theorem get_const {expr : Bool} {a : Value} {Q : Value → Shared → Prop} (X : K.In s.heap) (I : ObjM s.heap x dx C mA) (hg : PySem.W.plainGet K C name = true) (hh : PySem.W.hasDictIn K C = true)
    (ha : PySem.W.findIn K (.ref C) name = some (some a)) (hn : PySem.W.specialIn K a "__get__" = some none) (hc : PySem.W.copiedNames.contains name = false) (hv : mA name = none) (hv' : PySem.W.handedIn a = true)
    (h : Q a { s with toks := s.toks + 1 }) : wpAny (model prog w) A (getAttr (.ref x) name expr) Q E s := by
  obtain ⟨od, J, hl⟩ := I.look
  exact PySem.W.get_value X J (PySem.W.plainGet_of hg).1 (PySem.W.findObj_cls hh ha hn hv' hc (by rw [hl, hv])) hv' h

theorem get_meth {pl : Sem Bool} {Q : Value × List Value → Shared → Prop} (X : K.In s.heap) (I : ObjM s.heap x dx C mA) (hg : PySem.W.plainGet K C name = true)
    (hf : PySem.W.findIn K (.ref C) name = some (some (.ref f))) (ht : PySem.W.isFn K (.ref f) = true) (hv : mA name = none) (h : Q (.ref f, [.ref x]) s) :
    wpAny (model prog w) A (getMethod (.ref x) name pl) Q E s := by
  obtain ⟨od, J, hl⟩ := I.look
  exact PySem.W.method_fn X J (PySem.W.plainGet_of hg).1 (PySem.W.plainGet_of hg).2 hf (beq_iff_eq.mp ht) (by show (PySem.W.lookIn name od).map (·.isSome) = some false; rw [hl, hv]; rfl) h

theorem set_map {ns : List Str} {Q : Unit → Shared → Prop} (X : K.In s.heap) (I : ObjM s.heap x dx C mA)
    (hs : PySem.W.findIn K (.ref C) "__setattr__" = some (some (.builtin "object.__setattr__"))) (hp : PySem.W.plainOver K C = true) (ht : PySem.W.takerIn K C name = some none) (hh : PySem.W.hasDictIn K C = true)
    (hw : PySem.Within mA ns) (hsz : ns.length ≤ sizeLine)
    (h : ∀ h', ObjM h' x dx C (fun y => if y = name then some v else mA y) → Heap.SameBut dx s.heap h' → Q () { s with heap := h', toks := s.toks + 2 }) :
    wpAny (model prog w) A (setAttr (.ref x) name v) Q E s := by
  obtain ⟨od, J, hl⟩ := I.look
  refine PySem.W.set_plain X J hs (PySem.W.osa_open (s := { s with toks := s.toks + 1 }) (r := none) X J hp ht fun b => ?_)
  obtain ⟨cd, hc, hd'⟩ := PySem.W.any_some hh
  have hx : s.heap.get? x = some ⟨.ref C, some dx, .plain, #[]⟩ := I.obj
  refine wpAny_bind (wpAny_pure (wpAny_bind (wpAny_bind (wpAny_loadPart hx (wpAny_bind (PySem.W.Looks.here (s := { s with toks := s.toks + 1 }) (PySem.W.looks_clsIn X hc) ?_))))))
  rw [hd']
  refine wpAny_pure (a := some dx) (wpAny_bind (wpAny_pure (wpAny_bind ?_)))
  refine wpAny_nsSet1 (s := { s with toks := s.toks + 1 }) I.ns fun h' hn2 hs2 => ?_
  obtain ⟨oD, esD, epD, hoD, hdD, hcD⟩ := hn2.count (PySem.Within.cons name v hw)
  refine wpAny_bind (wpAny_lookBehind hoD (by rw [hdD]; exact pastItsLine_dict (Nat.le_trans hcD (by rw [List.length_cons]; omega))) ?_)
  exact wpAny_pure (h _ ⟨(hs2.2 _ (Ne.symm I.ne)).trans I.obj, hn2, I.ne⟩ hs2)

/-- C(..): the dict at the heap's end, the instance behind it; then its __init__ -/
theorem make_map {R : Result → Shared → Prop} {vs : List Value} {kw : List (Str × Value)} (X : K.In s.heap) (hm : PySem.W.makesIn K C = true)
    (hi : PySem.W.findIn K (.ref C) "__init__" = some (some (.ref f))) (hf : PySem.W.typeIn K (.ref f) = some (.type "function"))
    (h : codeAny (model prog w) (A.under (.builtin "type.__call__" ⟨.ref C :: vs, kw⟩)) (.call (.ref f) ⟨.ref (s.heap.objs.size + 1) :: vs, kw⟩) (PySem.W.InitBack (s.heap.objs.size + 1) R)
      { s with heap := (s.heap.push PySem.W.emptyDict).push (PySem.W.instObj C s.heap.objs.size) }) :
    codeAny (model prog w) A (.call (.ref C) ⟨vs, kw⟩) R s := by
  obtain ⟨hh, g, d, t, os⟩ := s
  exact PySem.W.make_core (PySem.W.makes_of X hm) (PySem.W.looks_findIn X hi) (fun self => PySem.W.bind_fn X self hf) (.inl rfl) h
/-- C() where there is no __init__ but object's -/
theorem make_map0 {R : Result → Shared → Prop} (X : K.In s.heap) (hm : PySem.W.makesIn K C = true)
    (hi : PySem.W.findIn K (.ref C) "__init__" = some (some (.builtin "object.__init__")))
    (hb : ∀ self, PySem.W.Looks (model prog w) s.heap (bindSpecial (.builtin "object.__init__") self) (.builtin "object.__init__", [self]))
    (h : codeAny (model prog w) (A.under (.builtin "type.__call__" ⟨[.ref C], []⟩)) (.call (.builtin "object.__init__") ⟨[.ref (s.heap.objs.size + 1)], []⟩) (PySem.W.InitBack (s.heap.objs.size + 1) R)
      { s with heap := (s.heap.push PySem.W.emptyDict).push (PySem.W.instObj C s.heap.objs.size) }) :
    codeAny (model prog w) A (.call (.ref C) ⟨[], []⟩) R s := by
  obtain ⟨hh, g, d, t, os⟩ := s
  exact PySem.W.make_core (PySem.W.makes_of X hm) (PySem.W.looks_findIn X hi) hb (.inr ⟨rfl, rfl⟩) h
end

/-! ### the attributes as a list of pairs -/
def putF (f : Str) (v : V) : List (Str × V) → List (Str × V)
  | [] => [(f, v)]
  | (g, x) :: r => if g = f then (g, v) :: r else (g, x) :: putF f v r
theorem lookup_putF (f g : Str) (v : V) : ∀ fs : List (Str × V), (putF f v fs).lookup g = if g = f then some v else fs.lookup g
  | [] => by
    show List.lookup g [(f, v)] = _
    by_cases h : g = f
    · have hb : (g == f) = true := beq_iff_eq.mpr h
      simp only [List.lookup, hb, if_pos h]
    · have hb : (g == f) = false := beq_eq_false_iff_ne.mpr h
      simp only [List.lookup, hb, if_neg h]
  | (k, x) :: r => by
    have ih := lookup_putF f g v r
    rw [show putF f v ((k, x) :: r) = (if k = f then (k, v) :: r else (k, x) :: putF f v r) from rfl]
    by_cases hk : k = f
    · rw [if_pos hk]
      by_cases h : g = k
      · have hb : (g == k) = true := beq_iff_eq.mpr h
        simp only [List.lookup, hb, if_pos (h.trans hk)]
      · have hb : (g == k) = false := beq_eq_false_iff_ne.mpr h
        simp only [List.lookup, hb, if_neg (fun e : g = f => h (e.trans hk.symm))]
    · rw [if_neg hk]
      by_cases h : g = k
      · have hb : (g == k) = true := beq_iff_eq.mpr h
        simp only [List.lookup, hb, if_neg (fun e : g = f => hk (h.symm.trans e))]
      · have hb : (g == k) = false := beq_eq_false_iff_ne.mpr h
        simp only [List.lookup, hb]
        exact ih
theorem keys_putF (f : Str) (v : V) : ∀ fs : List (Str × V), f ∈ (putF f v fs).map (·.1) ∧ ∀ g, g ∈ fs.map (·.1) → g ∈ (putF f v fs).map (·.1)
  | [] => ⟨by simp [putF], fun g h => by simp at h⟩
  | (k, x) :: r => by
    obtain ⟨i1, i2⟩ := keys_putF f v r
    rw [show putF f v ((k, x) :: r) = (if k = f then (k, v) :: r else (k, x) :: putF f v r) from rfl]
    by_cases hk : k = f
    · rw [if_pos hk]
      subst hk
      exact ⟨by simp, fun g h => by simpa using h⟩
    · rw [if_neg hk]
      refine ⟨?_, fun g h => ?_⟩
      · rw [List.map_cons]
        exact List.mem_cons_of_mem _ i1
      · rw [List.map_cons] at h ⊢
        rcases List.mem_cons.mp h with e | e
        · exact List.mem_cons.mpr (.inl e)
        · exact List.mem_cons_of_mem _ (i2 g e)
theorem length_putF (f : Str) (v : V) : ∀ fs : List (Str × V), (putF f v fs).length ≤ fs.length + 1
  | [] => by simp [putF]
  | (k, x) :: r => by
    have ih := length_putF f v r
    rw [show putF f v ((k, x) :: r) = (if k = f then (k, v) :: r else (k, x) :: putF f v r) from rfl]
    by_cases hk : k = f
    · rw [if_pos hk, List.length_cons, List.length_cons]; omega
    · rw [if_neg hk, List.length_cons, List.length_cons]; omega

theorem RelO.some_of {v : V} {o : Option Value} (r : RelO (some v) o) : ∃ u, o = some u ∧ RelV v u := by
  cases o with
  | none => exact (show False from r).elim
  | some u => exact ⟨u, rfl, r⟩
theorem RelO.none_of {o : Option Value} (r : RelO none o) : o = none := by
  cases o with
  | none => rfl
  | some u => exact (show False from r).elim
theorem handed_of {v : V} {u : Value} (r : RelV v u) : PySem.W.handedIn u = true := by
  cases v with
  | non => cases (show u = Value.none from r); rfl
  | bl b => cases (show u = Value.bool b from r); rfl
  | int i => obtain ⟨t, e⟩ := (show ∃ t, u = Value.int i t from r); cases e; rfl
  | str x => obtain ⟨t, e⟩ := (show ∃ t, u = Value.str x t from r); cases e; rfl
  | byt b => obtain ⟨t, e⟩ := (show ∃ t, u = Value.bytes b t from r); cases e; rfl
  | flt b => obtain ⟨t, e⟩ := (show ∃ t, u = Value.float b t from r); cases e; rfl
  | ref a => cases (show u = Value.ref a from r); rfl
  | ty n => cases (show u = Value.type n from r); rfl

section
variable {P : Program} {w : World} {H H' : Hp} {h h' : Heap} {a C dx : Addr} {fs fs' : List (Str × V)}
theorem ins_get (hok : HOk P w H h) (e : H a = some (.ins C dx fs)) : ∃ mA, ObjM h a dx C mA ∧ (∀ f, RelO (fs.lookup f) (mA f)) ∧ PySem.Within mA (fs.map (·.1)) ∧ fs.length ≤ 1000 ∧ H dx = some (.own a) := by
  obtain ⟨d, z, ne, ob, mA, n, r, q⟩ := (show ObjOk P w H h a (.ins C dx fs) from hok a _ e)
  exact ⟨mA, ⟨ob, n, ne⟩, r, q, z, d⟩
end

/-! ### what of the text a class must have -/
structure Cls (K : PySem.W.Frag) (C : Addr) : Prop where
  pg : PySem.W.plainGet K C Str.empty = true
  hd : PySem.W.hasDictIn K C = true
  po : PySem.W.plainOver K C = true
  sa : PySem.W.findIn K (.ref C) "__setattr__" = some (some (.builtin "object.__setattr__"))
theorem Cls.get {K : PySem.W.Frag} {C : Addr} (c : Cls K C) (f : Str) : PySem.W.plainGet K C f = true := c.pg
/-- no class of it has the name -/
def NoAttr (K : PySem.W.Frag) (C : Addr) (f : Str) : Prop := PySem.W.findIn K (.ref C) f = some none
theorem NoAttr.taker {K : PySem.W.Frag} {C : Addr} {f : Str} (n : NoAttr K C f) : PySem.W.takerIn K C f = some none := by
  unfold PySem.W.takerIn
  rw [show PySem.W.findIn K (.ref C) f = some none from n]
  rfl
/-- a constant of the class -/
structure Con (K : PySem.W.Frag) (C : Addr) (f : Str) (v : V) (u : Value) : Prop where
  at_ : PySem.W.findIn K (.ref C) f = some (some u)
  rel : RelV v u
  get : PySem.W.specialIn K u "__get__" = some none
  cp : PySem.W.copiedNames.contains f = false
/-- a method: a plain def of the class or of one above it -/
structure Meth (K : PySem.W.Frag) (C : Addr) (m : Str) (f : Addr) : Prop where
  at_ : PySem.W.findIn K (.ref C) m = some (some (.ref f))
  fn : PySem.W.isFn K (.ref f) = true
  kp : PySem.W.keepIn K (.ref f) = true

section
variable {X : Cx} {pins : List (Addr × Obj)} {σ : St} {H : Hp} {s : Shared} {a C dx : Addr} {fs : List (Str × V)} {f : Str} {v : V} {A : Around} {E : Value → Shared → Prop}

theorem getattr_ok {b : Bool} {Q : Value → Shared → Prop} (I : Inv X pins σ H s) (e : H a = some (.ins C dx fs)) (c : Cls X.K C) (n : NoAttr X.K C f) (l : fs.lookup f = some v)
    (h : ∀ u s', Inv X pins σ H s' → RelV v u → Q u s') : wpAny (model X.prog X.w) A (getAttr (.ref a) f b) Q E s := by
  obtain ⟨mA, O, r, _, _, _⟩ := ins_get I.hok e
  obtain ⟨u, hu, ru⟩ := RelO.some_of (v := v) (o := mA f) (by rw [← l]; exact r f)
  exact get_map I.kIn O (c.get f) c.hd n hu (handed_of ru) (h u _ (I.tok _) ru)

theorem getcon_ok {b : Bool} {u : Value} {Q : Value → Shared → Prop} (I : Inv X pins σ H s) (e : H a = some (.ins C dx fs)) (c : Cls X.K C) (k : Con X.K C f v u) (l : fs.lookup f = none)
    (h : ∀ s', Inv X pins σ H s' → Q u s') : wpAny (model X.prog X.w) A (getAttr (.ref a) f b) Q E s := by
  obtain ⟨mA, O, r, _, _, _⟩ := ins_get I.hok e
  have hn : mA f = none := RelO.none_of (by rw [← l]; exact r f)
  exact get_const I.kIn O (c.get f) c.hd k.at_ k.get k.cp hn (handed_of k.rel) (h _ (I.tok _))

theorem getmeth_ok {m : Str} {g : Addr} {pl : Sem Bool} {Q : Value × List Value → Shared → Prop} (I : Inv X pins σ H s) (e : H a = some (.ins C dx fs)) (c : Cls X.K C) (k : Meth X.K C m g) (l : fs.lookup m = none)
    (h : Q (.ref g, [.ref a]) s) : wpAny (model X.prog X.w) A (getMethod (.ref a) m pl) Q E s := by
  obtain ⟨mA, O, r, _, _, _⟩ := ins_get I.hok e
  have hn : mA m = none := RelO.none_of (by rw [← l]; exact r m)
  exact get_meth I.kIn O (c.get m) k.at_ k.fn hn h

theorem setattr_ok {y : V} {u : Value} {Q : Unit → Shared → Prop} (I : Inv X pins σ H s) (e : H a = some (.ins C dx fs)) (c : Cls X.K C) (n : NoAttr X.K C f) (hl : fs.length < 1000) (ry : RelV y u)
    (h : ∀ s', Inv X pins σ (upd H a (.ins C dx (putF f y fs))) s' → Q () s') : wpAny (model X.prog X.w) A (setAttr (.ref a) f u) Q E s := by
  obtain ⟨mA, O, r, wi, _, ho⟩ := ins_get I.hok e
  have hz : (fs.map (·.1)).length ≤ sizeLine := by rw [List.length_map, sizeLine_eq]; omega
  refine set_map I.kIn O c.sa c.po n.taker c.hd wi hz fun h' O' sb => h _ ?_
  have hd : ∃ o, h'.get? dx = some o := let ⟨o, _, _, e', _⟩ := O'.ns; ⟨o, e'⟩
  refine I.write (x := a) (e := dx) (by rw [e]; exact True.intro) (.inr ho) (fun b q hb z => (sb.2 b hb).trans z) hd ?_
  refine ⟨by rw [upd_ne O.ne]; exact ho, ?_, O.ne, O'.obj, _, O'.ns, fun g => ?_, fun g hg => ?_⟩
  · have := length_putF f y fs; omega
  · show RelO ((putF f y fs).lookup g) (if g = f then some u else mA g)
    rw [lookup_putF]
    by_cases q : g = f
    · rw [if_pos q, if_pos q]; exact ry
    · rw [if_neg q, if_neg q]; exact r g
  · by_cases q : g = f
    · rw [q]; exact (keys_putF f y fs).1
    · refine (keys_putF f y fs).2 g (wi g fun z => hg ?_)
      show (if g = f then some u else mA g) = none
      rw [if_neg q]; exact z

/-- a new instance, tracked, without attributes -/
theorem Inv.made (I : Inv X pins σ H s) : Inv X pins σ (upd (upd H s.heap.objs.size (.own (s.heap.objs.size + 1))) (s.heap.objs.size + 1) (.ins C s.heap.objs.size []))
    { s with heap := (s.heap.push PySem.W.emptyDict).push (PySem.W.instObj C s.heap.objs.size) } := by
  have e1 : (s.heap.push PySem.W.emptyDict).get? s.heap.objs.size = some PySem.W.emptyDict := Heap.get?_push_size s.heap rfl
  have e2 : ((s.heap.push PySem.W.emptyDict).push (PySem.W.instObj C s.heap.objs.size)).get? (s.heap.objs.size + 1) = some (PySem.W.instObj C s.heap.objs.size) := by
    have := Heap.get?_push_size (s.heap.push PySem.W.emptyDict) (o := PySem.W.instObj C s.heap.objs.size) rfl
    rwa [Heap.size_push] at this
  have e3 : (s.heap.push PySem.W.emptyDict).Ns s.heap.objs.size (fun _ => none) := ⟨PySem.W.emptyDict, #[], _, e1, rfl, (fun e he => absurd he (by simp)), fun _ => rfl⟩
  have I1 := I.laid (a := s.heap.objs.size) (o := .own (s.heap.objs.size + 1)) (h' := s.heap.push PySem.W.emptyDict) (t' := s.toks) (fun b u q => Heap.get?_push_of_some _ q) (Nat.le_refl _) ⟨_, e1⟩
  refine I1.laid (a := s.heap.objs.size + 1) (o := .ins C s.heap.objs.size []) (t' := s.toks) (fun b u q => Heap.get?_push_of_some _ q) (Nat.le_of_eq (Heap.size_push _ _)) ?_
  have ne : s.heap.objs.size ≠ s.heap.objs.size + 1 := Nat.ne_of_lt (Nat.lt_succ_self _)
  refine ⟨by rw [upd_ne ne, upd_same], Nat.zero_le _, ne, e2, fun _ => none, (Heap.Ns1.of_empty e3).at fun o q => Heap.get?_push_of_some _ q, fun _ => True.intro, fun y hy => absurd rfl hy⟩

/-- e.f where nothing but the object is asked: through attributeBase (super) and the last hold -/
theorem attr_of {prog : Program} {w : World} {env : Env} {e : Expr} {f : Str} {pos : Pos} {s : Shared} {Q : Value → Shared → Prop} (hb : attributeBase e f env (eval e env) = eval e env)
    (h : wpAny (model prog w) A (eval e env) (fun o s₁ => wpAny (model prog w) A (getAttr o f true) Q E s₁) E s) : wpAny (model prog w) A (eval (.Attribute e f pos) env) Q E s :=
  Attribute_any_ h (by rw [arm_eval_Attribute, hb])
end

/-! ### readings and rules -/
/-- e.f, an attribute of the instance -/
def tFld (K : PySem.W.Frag) (ta : TE) (f : Str) : TE := fun σ H Q => ta σ H fun x H1 => ∃ a C dx fs v, x = .ref a ∧ H1 a = some (.ins C dx fs) ∧ Cls K C ∧ NoAttr K C f ∧ fs.lookup f = some v ∧ Q v H1
/-- e.f, a constant of the class -/
def tCon (K : PySem.W.Frag) (ta : TE) (f : Str) : TE := fun σ H Q => ta σ H fun x H1 => ∃ a C dx fs v u, x = .ref a ∧ H1 a = some (.ins C dx fs) ∧ Cls K C ∧ Con K C f v u ∧ fs.lookup f = none ∧ Q v H1
/-- e.f = value -/
def sFld (K : PySem.W.Frag) (ta tv : TE) (f : Str) : TS := fun D σ H => tv σ H fun y H1 => ta σ H1 fun x H2 => ∃ a C dx fs, x = .ref a ∧ H2 a = some (.ins C dx fs) ∧ Cls K C ∧ NoAttr K C f ∧ fs.length < 1000 ∧
  D.nx σ (upd H2 a (.ins C dx (putF f y fs)))
/-- an augmented operator on two values -/
def InOp (X : Cx) (op : Operator) (rd : V → V → Hp → VK → Prop) : Prop :=
  ∀ (pins : List (Addr × Obj)) (s : Shared) (σ : St) (H : Hp) (x y : V) (u v : Value) (Q : VK), Inv X pins σ H s → RelV x u → RelV y v → rd x y H Q → wpAny (model X.prog X.w) X.A (inplaceOp op u v) (EP X pins σ Q) X.xe s
/-- e.f op= value -/
def sFldAug (K : PySem.W.Frag) (ta tv : TE) (rd : V → V → Hp → VK → Prop) (f : Str) : TS := fun D σ H => ta σ H fun x H1 => ∃ a C dx fs v, x = .ref a ∧ H1 a = some (.ins C dx fs) ∧ Cls K C ∧ NoAttr K C f ∧ fs.lookup f = some v ∧
  tv σ H1 fun y H2 => rd v y H2 fun z H3 => ∃ dx' fs', H3 a = some (.ins C dx' fs') ∧ fs'.length < 1000 ∧ D.nx σ (upd H3 a (.ins C dx' (putF f z fs')))

section
variable {X : Cx} {o e value : Expr} {f : Str} {pos pos' tpos : Pos} {ta tv : TE}
theorem pe_fld (he : PE X e ta) (hb : attributeBase e f X.env (eval e X.env) = eval e X.env) : PE X (.Attribute e f pos) (tFld X.K ta f) := by
  refine .mk ?_
  intro pins s σ H Q I h
  refine attr_of hb (thn (he pins s σ H _ I h) fun u s1 ⟨x, H1, I1, rx, a, C, dx, fs, v, ex, ea, c, n, l, q⟩ => ?_)
  subst ex
  obtain rfl : u = Value.ref a := rx
  exact getattr_ok I1 ea c n l fun u' s2 I2 ru => ⟨v, H1, I2, ru, q⟩
theorem pe_con (he : PE X e ta) (hb : attributeBase e f X.env (eval e X.env) = eval e X.env) : PE X (.Attribute e f pos) (tCon X.K ta f) := by
  refine .mk ?_
  intro pins s σ H Q I h
  refine attr_of hb (thn (he pins s σ H _ I h) fun u s1 ⟨x, H1, I1, rx, a, C, dx, fs, v, u0, ex, ea, c, k, l, q⟩ => ?_)
  subst ex
  obtain rfl : u = Value.ref a := rx
  exact getcon_ok I1 ea c k l fun s2 I2 => ⟨v, H1, I2, k.rel, q⟩
theorem ps_fld (ha : PE X o ta) (hv : PE X value tv) (hs : swapsWith value (some (.Attribute o f pos')) pos.line X.env = pure false) : PS X (.Assign [.Attribute o f pos'] value pos) (sFld X.K ta tv f) := by
  refine .mk ?_
  intro pins s σ H D I h
  refine plainObj_wpAny_Assign_Attribute (thn (hv pins s σ H _ I h) fun u s1 ⟨y, H1, I1, ry, q⟩ => thn (ha pins s1 σ H1 _ I1 q) fun ov s2 ⟨x, H2, I2, rx, a, C, dx, fs, ex, ea, c, n, l, q2⟩ => ?_) hs
  subst ex
  obtain rfl : ov = Value.ref a := rx
  exact setattr_ok I2 ea c n l ry fun s3 I3 => ⟨σ, _, I3, q2⟩
theorem ps_fldaug {op : Operator} {rd : V → V → Hp → VK → Prop} (ha : PE X o ta) (hv : PE X value tv) (hop : InOp X op rd) : PS X (.AugAssign (.Attribute o f tpos) op value pos) (sFldAug X.K ta tv rd f) := by
  refine .mk ?_
  intro pins s σ H D I h
  refine wpAny_AugAssign_AttributeAny (thn (ha pins s σ H _ I h) fun ov s1 ⟨x, H1, I1, rx, a, C, dx, fs, v, ex, ea, c, n, l, q⟩ => ?_)
  subst ex
  obtain rfl : ov = Value.ref a := rx
  refine getattr_ok I1 ea c n l fun u s2 I2 ru => thn (hv pins s2 σ H1 _ I2 q) fun w3 s3 ⟨y, H2, I3, ry, q3⟩ => thn (hop pins s3 σ H2 v y u w3 _ I3 ru ry q3) fun w4 s4 ⟨z, H3, I4, rz, dx', fs', ea', l', q4⟩ => ?_
  exact setattr_ok I4 ea' c n l' rz fun s5 I5 => ⟨σ, _, I5, q4⟩
def rAdd : V → V → Hp → VK → Prop := fun x y H Q => ∃ i j, x = .int i ∧ y = .int j ∧ Q (.int (i + j)) H
def rSub : V → V → Hp → VK → Prop := fun x y H Q => ∃ i j, x = .int i ∧ y = .int j ∧ Q (.int (i - j)) H
theorem in_add : InOp X .Add rAdd := by
  rintro pins s σ H x y u v Q I rx ry ⟨i, j, rfl, rfl, q⟩
  obtain ⟨t, rfl⟩ := (show ∃ t, u = Value.int i t from rx)
  obtain ⟨t', rfl⟩ := (show ∃ t', v = Value.int j t' from ry)
  exact PyProof.Rows.iadd_int ⟨.int (i + j), H, I.tok _, ⟨_, rfl⟩, q⟩
theorem in_sub : InOp X .Sub rSub := by
  rintro pins s σ H x y u v Q I rx ry ⟨i, j, rfl, rfl, q⟩
  obtain ⟨t, rfl⟩ := (show ∃ t, u = Value.int i t from rx)
  obtain ⟨t', rfl⟩ := (show ∃ t', v = Value.int j t' from ry)
  exact PyProof.Rows.isub_int ⟨.int (i - j), H, I.tok _, ⟨_, rfl⟩, q⟩

/-- what is between an instance and its method: the tree of a method call -/
theorem methcall_of {pl : Sem Bool} {m : Str} {apos : Pos} {args : List Expr} {pins : List (Addr × Obj)} {s : Shared} {σ : St} {H : Hp} {Q : Value → Shared → Prop} {te : TE} (he : PE X e te) (I : Inv X pins σ H s)
    (h : te σ H fun x H1 => ∃ a C dx fs g, x = .ref a ∧ H1 a = some (.ins C dx fs) ∧ Cls X.K C ∧ Meth X.K C m g ∧ fs.lookup m = none ∧
      ∀ s1, Inv X pins σ H1 s1 → wpAny (model X.prog X.w) X.A (callWith pos (.ref g) [.ref a] (backTo pos (starEach args X.env)) (backToKw pos (keywordEach [] X.env))) Q X.xe s1)
    (ht : eval (.Call (.Attribute e m apos) args [] pos) X.env = (do
      let ov ← eval e X.env
      standAt apos.atName
      let (f, first) ← holding [ov] (getMethod ov m pl)
      callWith pos f first (backTo pos (starEach args X.env)) (backToKw pos (keywordEach [] X.env)))) :
    wpAny (model X.prog X.w) X.A (eval (.Call (.Attribute e m apos) args [] pos) X.env) Q X.xe s := by
  refine PySem.W.methodCall_KW (pl := pl) (thn (he pins s σ H _ I h) fun u s1 ⟨x, H1, I1, rx, a, C, dx, fs, g, ex, ea, c, k, l, q⟩ => ?_) ht
  subst ex
  obtain rfl : u = Value.ref a := rx
  exact getmeth_ok I1 ea c k l (q s1 I1)
end

/-! ### isinstance -/
section
variable {X : Cx} {pins : List (Addr × Obj)} {σ : St} {H : Hp} {s : Shared} {A : Around} {E : Value → Shared → Prop} {Q : Value → Shared → Prop} {c : Value} {b : Bool}
/-- the type of a value, as the fragment's deciders take it; for an instance its class -/
inductive TyOf (K : PySem.W.Frag) (H : Hp) : V → Value → Prop where
  | non : TyOf K H .non (.type "NoneType")
  | bl (x : Bool) : TyOf K H (.bl x) (.type "bool")
  | int (i : Int) : TyOf K H (.int i) (.type "int")
  | str (x : Str) : TyOf K H (.str x) (.type "str")
  | flt (x : UInt64) : TyOf K H (.flt x) (.type "float")
  | lst {a : Addr} {xs : List V} (e : H a = some (.lst xs)) : TyOf K H (.ref a) (.type "list")
  | frz {a : Addr} {o : Obj} {xs : List V} (e : H a = some (.frz o (.lst xs))) : TyOf K H (.ref a) (.type "list")
  | tup {a : Addr} {xs : List V} (e : H a = some (.tup xs)) : TyOf K H (.ref a) (.type "tuple")
  | dK {a : Addr} {kvs : List (Key × V)} (e : H a = some (.dK kvs)) : TyOf K H (.ref a) (.type "dict")
  | dT {a : Addr} {kvs : List (List Key × V)} (e : H a = some (.dT kvs)) : TyOf K H (.ref a) (.type "dict")
  | ins {a C dx : Addr} {fs : List (Str × V)} (e : H a = some (.ins C dx fs)) (cl : Cls K C) (ha : PySem.W.findIn K (.ref C) "__class__" = some (some (.builtin "object.__class__")))
      (hn : PySem.W.specialIn K (.builtin "object.__class__") "__get__" = some (some (.builtin "getset_descriptor.__get__"))) (htk : PySem.W.takesIn K (.builtin "object.__class__") = some true)
      (hm : PySem.W.mroIn K C (.type "object") = some true) : TyOf K H (.ref a) (.ref C)
/-- isinstance(x, c) for one class c, a built-in or an own one: kitOne's answer -/
theorem isinst_ok {x : V} {u t : Value} (I : Inv X pins σ H s) (rx : RelV x u) (ty : TyOf X.K H x t) (e : PySem.W.kitOne X.K t c = some b) (h : ∀ tk, Q (.bool b) { s with toks := tk }) :
    wpAny (model X.prog X.w) A (call (.builtin "isinstance") [u, c]) Q E s := by
  cases ty with
  | non => cases (show u = Value.none from rx); exact PySem.W.kia_one PySem.W.kitx_none I.kIn True.intro e (fun z => nomatch z) h
  | bl y => cases (show u = Value.bool y from rx); exact PySem.W.kia_one PySem.W.kitx_bool I.kIn True.intro e (fun z => nomatch z) h
  | int i => obtain ⟨t, q⟩ := (show ∃ t, u = Value.int i t from rx); cases q; exact PySem.W.kia_one PySem.W.kitx_int I.kIn True.intro e (fun z => nomatch z) h
  | str y => obtain ⟨t, q⟩ := (show ∃ t, u = Value.str y t from rx); cases q; exact PySem.W.kia_one PySem.W.kitx_str I.kIn True.intro e (fun z => nomatch z) h
  | flt y => obtain ⟨t, q⟩ := (show ∃ t, u = Value.float y t from rx); cases q; exact PySem.W.kia_one PySem.W.kitx_float I.kIn True.intro e (fun z => nomatch z) h
  | @lst a xs ea =>
    cases (show u = Value.ref a from rx)
    obtain ⟨_, _, n, _, h1⟩ := (show ObjOk X.prog X.w H s.heap a (.lst xs) from I.hok a _ ea)
    exact PySem.W.kia_one PySem.W.kitx_list I.kIn ⟨_, h1, rfl⟩ e (fun z => nomatch z) h
  | @frz a ob xs ea =>
    cases (show u = Value.ref a from rx)
    obtain ⟨_, _, _, n, _, h1⟩ := (show ObjOk X.prog X.w H s.heap a (.frz ob (.lst xs)) from I.hok a _ ea)
    exact PySem.W.kia_one PySem.W.kitx_list I.kIn ⟨_, h1, rfl⟩ e (fun z => nomatch z) h
  | @tup a xs ea =>
    cases (show u = Value.ref a from rx)
    obtain ⟨_, _, _, p⟩ := (show ObjOk X.prog X.w H s.heap a (.tup xs) from I.hok a _ ea)
    obtain ⟨o, h1, h2, _⟩ := p
    exact PySem.W.kia_one PySem.W.kitx_tuple I.kIn ⟨o, h1, h2⟩ e (fun z => nomatch z) h
  | @dK a kvs ea =>
    cases (show u = Value.ref a from rx)
    obtain ⟨_, _, vs, _, p⟩ := (show ObjOk X.prog X.w H s.heap a (.dK kvs) from I.hok a _ ea)
    obtain ⟨o, es, ep, h1, h2, _⟩ := p
    exact PySem.W.kia_one PySem.W.kitx_dict I.kIn ⟨o, h1, h2.1⟩ e (fun z => nomatch z) h
  | @dT a kvs ea =>
    cases (show u = Value.ref a from rx)
    obtain ⟨_, _, xs, _, o, es, ep, h1, h2, _⟩ := (show ObjOk X.prog X.w H s.heap a (.dT kvs) from I.hok a _ ea)
    exact PySem.W.kia_one PySem.W.kitx_dict I.kIn ⟨o, h1, h2.1⟩ e (fun z => nomatch z) h
  | @ins a C dx fs ea cl ha hn htk hm =>
    cases (show u = Value.ref a from rx)
    obtain ⟨mA, O, _⟩ := ins_get I.hok ea
    obtain ⟨od, J, _⟩ := O.look
    exact PySem.W.kia_one (PySem.W.kitx_own (cl.get _) cl.hd ha hn htk hm) I.kIn J e (fun z => nomatch z) h
end
end L2

namespace L2
open PySem PySem.Spec PyProof.Rows

/-! ### room -/
structure Room (k : Nat) (A : Around) : Prop where
  hd : A.handled = none
  dp : A.depth + 3 * k + 5 < recursionLimit
  un : A.units + 16 * k + 200 < cLine
  gd : A.guards = some []
theorem Room.mono {j k : Nat} {A : Around} (r : Room k A) (h : j ≤ k) : Room j A := ⟨r.hd, by have := r.dp; omega, by have := r.un; omega, r.gd⟩
theorem Room.deeper {k : Nat} {A : Around} (r : Room (k + 1) A) (env : Env) : Room k (A.deeper env) :=
  ⟨r.hd, by have := r.dp; show A.depth + 1 + 3 * k + 5 < _; omega, by have := r.un; show A.units + 3 + 16 * k + 200 < _; omega, by first | exact r.gd | (simpa [Around.deeper, Around.under, Code.guards, Code.isGuard, guardIds, pushGuards] using r.gd)⟩
theorem Room.in1 {k : Nat} {A : Around} (r : Room (k + 1) A) : Room k A.in1 :=
  ⟨r.hd, by have := r.dp; show A.depth + 3 * k + 5 < _; omega, by have := r.un; show A.units + 1 + 16 * k + 200 < _; omega, r.gd⟩
theorem make_depth {A : Around} {C : Addr} {us : List Value} {kw : List (Str × Value)} : (A.under (.builtin "type.__call__" ⟨.ref C :: us, kw⟩)).depth = A.depth + 1 := by
  first | rfl | simp [Around.under, Code.weight, Code.isCreation, Code.isGuard, Code.isCaller, Code.frames, Code.isFrame, guardIds]
theorem make_units {A : Around} {C : Addr} {us : List Value} {kw : List (Str × Value)} : (A.under (.builtin "type.__call__" ⟨.ref C :: us, kw⟩)).units = A.units + 1 := by
  first | rfl | simp [Around.under, Code.cUnits, Code.frames, Code.isFrame]
theorem Room.make {k : Nat} {A : Around} (r : Room (k + 1) A) (C : Addr) (us : List Value) (kw : List (Str × Value)) : Room k (A.under (.builtin "type.__call__" ⟨.ref C :: us, kw⟩)) :=
  ⟨r.hd, by have := r.dp; rw [make_depth]; omega, by have := r.un; rw [make_units]; omega, by first | exact r.gd | (simpa [Around.deeper, Around.under, Code.guards, Code.isGuard, guardIds, pushGuards] using r.gd)⟩
theorem Room.depth {k : Nat} {A : Around} (r : Room k A) : A.depth < recursionLimit := by have := r.dp; omega
theorem Room.units {k : Nat} {A : Around} (r : Room k A) : A.units + 64 < cLine := by have := r.un; omega
theorem Room.units0 {k : Nat} {A : Around} (r : Room k A) : A.units < cLine := by have := r.un; omega

/-! ### argument lists and displays -/
def tNil : TA := fun _ H Q => Q [] H
def tCons (ta : TE) (tr : TA) : TA := fun σ H Q => ta σ H fun x H1 => tr σ H1 fun xs H2 => Q (x :: xs) H2
section
variable {X : Cx} {e : Expr} {es : List Expr} {te : TE} {t : TA} {pos : Pos}
theorem pa_nil : PA X [] tNil := .mk <| fun _ _ _ _ H Q I h => Calls.spliced_nil ⟨[], H, I, .nil, h⟩
theorem pa_cons (ha : PE X e te) (hr : PA X es t) (hs : starEach (e :: es) X.env = (false, eval e X.env) :: starEach es X.env := by rfl) : PA X (e :: es) (tCons te t) := by
  refine .mk ?_
  intro pos pins s σ H Q I h
  rw [hs]
  show wpAny _ _ (spliced ((false, eval e X.env) :: backTo pos (starEach es X.env))) _ _ s
  refine Calls.spliced_cons (thn (ha pins s σ H _ I h) fun u s1 ⟨x, H1, I1, r1, q1⟩ => ?_)
  exact thn (hr pos pins s1 σ H1 _ I1 q1) fun us s2 ⟨xs, H2, I2, r2, q2⟩ => ⟨x :: xs, H2, I2, .cons r1 r2, q2⟩

/-- a tuple, a list of written items -/
def tTup (t : TA) : TE := fun σ H Q => t σ H fun xs H1 => xs.length ≤ sizeLine ∧ ∀ p, H1 p = none → Q (.ref p) (upd H1 p (.tup xs))
def tLst (t : TA) : TE := fun σ H Q => t σ H fun xs H1 => xs.length ≤ sizeLine ∧ ∀ p, H1 p = none → Q (.ref p) (upd H1 p (.lst xs))
theorem pe_tup {x1} (h : PA X es t) : PE X (.Tuple es x1 pos) (tTup t) := by
  refine .mk ?_
  intro pins s σ H Q I hq
  refine wpAny_Tuple_spliced (thn (h pos pins s σ H _ I hq) fun us s1 ⟨xs, H1, I1, r, z, q⟩ => ⟨by rw [← r.length]; exact z, ?_⟩)
  have hf : H1 s1.heap.objs.size = none := I1.hok.fresh (Nat.le_refl _)
  refine ⟨.ref s1.heap.objs.size, upd H1 s1.heap.objs.size (.tup xs), I1.laid (t' := s1.toks) (fun b u e => Heap.get?_push_of_some _ e) (Nat.le_refl _) ?_, rfl, q _ hf⟩
  exact ⟨z, us, r, ⟨_, Heap.get?_push_size _ rfl, rfl, _, rfl⟩⟩
theorem pe_lst (h : PA X es t) : PE X (.List es pos) (tLst t) := by
  refine .mk ?_
  intro pins s σ H Q I hq
  refine wpAny_List_spliced (thn (h pos pins s σ H _ I hq) fun us s1 ⟨xs, H1, I1, r, z, q⟩ => ⟨by rw [← r.length]; exact z, ?_⟩)
  have hf : H1 s1.heap.objs.size = none := I1.hok.fresh (Nat.le_refl _)
  refine ⟨.ref s1.heap.objs.size, upd H1 s1.heap.objs.size (.lst xs), I1.laid (t' := s1.toks) (fun b u e => Heap.get?_push_of_some _ e) (Nat.le_refl _) ?_, rfl, q _ hf⟩
  exact ⟨z, us, 0, r, Heap.get?_push_size _ rfl⟩
end

/-! ### what a def promises -/
/-- a def's promise: the bound arguments in the parameters' order, the heap, the wanted end, the wanted exception -/
abbrev Sp := List V → Hp → VK → XK → Prop
/-- how an exception lies behind a call (file 08 gives it): the callers' frames, abstract heap and state ahead of the call, the wish, the exception, the state -/
abbrev CXT := List Env → Hp → Shared → XK → Value → Shared → Prop

/-- the state at a call -/
structure Env0 (P : Program) (w : World) (K : PySem.W.Frag) (mg : Str → Option Value) (base : Heap) (A : Around) (outer : List Env) (s : Shared) (H : Hp) : Prop where
  frames : A.frames = some outer
  mod : Mod K mg base
  bs : ∀ b o, base.get? b = some o → s.heap.get? b = some o ∧ H b = none
  bsz : base.objs.size ≤ s.heap.objs.size
  funs : s.heap.FunFrames base outer
  frf : ∀ b ∈ frs outer, H b = none
  hok : HOk P w H s.heap
  bare : AllBare s.gens
/-- a call's end -/
def CE (outer : List Env) (P : Program) (w : World) (H : Hp) (s : Shared) (Q : VK) (u : Value) (s' : Shared) : Prop :=
  ∃ v H', s'.os = s.os ∧ AllBare s'.gens ∧ Un (frs outer) [] H H' s.heap s'.heap ∧ HOk P w H' s'.heap ∧ RelV v u ∧ Q v H'
def CR (CX : CXT) (outer : List Env) (P : Program) (w : World) (H : Hp) (s : Shared) (Q : VK) (E : XK) (r : Result) (s' : Shared) : Prop :=
  match r with
  | .ok (.ret u) => CE outer P w H s Q u s'
  | .ok _ => False
  | .error e => CX outer H s E e s'
structure FnOk (P : Program) (w : World) (K : PySem.W.Frag) (mg : Str → Option Value) (base : Heap) (CX : CXT) (k : Nat) (f : Addr) (fd : FuncData) (ps : List Str) (sp : Sp) : Prop where
  len : ∀ vs H Q E, sp vs H Q E → vs.length = ps.length
  run : ∀ (A : Around) (outer : List Env) (s : Shared) (H : Hp) (args : Args) (us : List Value) (vs : List V) (Q : VK) (E : XK), Room k A → Env0 P w K mg base A outer s H → BindsTo s fd args (ps.zip us) → Vals vs us → sp vs H Q E →
    codeAny (model P w) A (.call (.ref f) args) (CR CX outer P w H s Q E) s
theorem FnOk.mono {P : Program} {w : World} {K : PySem.W.Frag} {mg : Str → Option Value} {base : Heap} {CX : CXT} {j k : Nat} {f : Addr} {fd : FuncData} {ps : List Str} {sp : Sp} (F : FnOk P w K mg base CX j f fd ps sp) (h : j ≤ k) :
    FnOk P w K mg base CX k f fd ps sp := ⟨F.len, fun A outer s H args us vs Q E hr => F.run A outer s H args us vs Q E (hr.mono h)⟩
/-- a weaker promise -/
theorem FnOk.imp {P : Program} {w : World} {K : PySem.W.Frag} {mg : Str → Option Value} {base : Heap} {CX : CXT} {k : Nat} {f : Addr} {fd : FuncData} {ps : List Str} {sp sp' : Sp} (F : FnOk P w K mg base CX k f fd ps sp)
    (h : ∀ vs H Q E, sp' vs H Q E → sp vs H Q E) : FnOk P w K mg base CX k f fd ps sp' :=
  ⟨fun vs H Q E q => F.len vs H Q E (h _ _ _ _ q), fun A outer s H args us vs Q E hr he hb hv hs => F.run A outer s H args us vs Q E hr he hb hv (h _ _ _ _ hs)⟩

theorem Env0.make {P : Program} {w : World} {K : PySem.W.Frag} {mg : Str → Option Value} {base : Heap} {A : Around} {outer : List Env} {s : Shared} {H : Hp} (e : Env0 P w K mg base A outer s H) (C : Addr) (us : List Value) (kw : List (Str × Value)) :
    Env0 P w K mg base (A.under (.builtin "type.__call__" ⟨.ref C :: us, kw⟩)) outer s H := ⟨by first | exact e.frames | (simpa [Around.under, Code.envs, Code.isFrame, pushEnvs] using e.frames), e.mod, e.bs, e.bsz, e.funs, e.frf, e.hok, e.bare⟩
theorem Env0.in1 {P : Program} {w : World} {K : PySem.W.Frag} {mg : Str → Option Value} {base : Heap} {A : Around} {outer : List Env} {s : Shared} {H : Hp} (e : Env0 P w K mg base A outer s H) :
    Env0 P w K mg base A.in1 outer s H := ⟨e.frames, e.mod, e.bs, e.bsz, e.funs, e.frf, e.hok, e.bare⟩

section
variable {X : Cx} {pins : List (Addr × Obj)} {σ : St} {H : Hp} {s s' : Shared}
/-- from a body: what a callee wants -/
theorem Inv.env0 (I : Inv X pins σ H s) : Env0 X.prog X.w X.K X.mg X.base X.A X.stack s H :=
  ⟨I.ok.frames, I.ok.mod, I.bs, Nat.le_trans I.ok.bsz I.sz, I.stack, I.stkFree, I.hok, I.bare⟩
/-- behind a call -/
theorem Inv.after {Q : VK} {u : Value} (I : Inv X pins σ H s) (h : CE X.stack X.prog X.w H s Q u s') : EP X pins σ Q u s' := by
  obtain ⟨v, H', os, bare, un, hok, r, q⟩ := h
  obtain ⟨hh, g, d, t, os'⟩ := s'
  obtain rfl : os' = s.os := os
  exact ⟨v, H', I.call (h' := hh) (g' := g) (d' := d) (t' := t) (ch := []) un hok bare (fun b z => absurd z (by simp)), r, q⟩
end

/-! ### calls -/
/-- f(..): the written arguments, then the defaults dvs; E: what is wanted of an exception -/
def tCall (sp : Sp) (dvs : List V) (E : XK) (t : TA) : TE := fun σ H Q => t σ H fun vs H1 => sp (vs ++ dvs) H1 Q E
/-- o.m(..) of an instance of the class at C -/
def tMeth (C : Addr) (m : Str) (sp : Sp) (dvs : List V) (E : XK) (ta : TE) (t : TA) : TE := fun σ H Q => ta σ H fun x H1 => ∃ a dx fs, x = .ref a ∧ H1 a = some (.ins C dx fs) ∧ fs.lookup m = none ∧
  t σ H1 fun vs H2 => sp (x :: (vs ++ dvs)) H2 Q E
/-- C(..): a new instance and its dict, then __init__ -/
def tMake (C : Addr) (sp : Sp) (dvs : List V) (E : XK) (t : TA) : TE := fun σ H Q => t σ H fun vs H1 => ∀ x dx, H1 x = none → H1 dx = none → dx ≠ x →
  sp (.ref x :: (vs ++ dvs)) (upd (upd H1 dx (.own x)) x (.ins C dx [])) (fun v H2 => v = .non ∧ Q (.ref x) H2) E

/-- how the parameters are bound: us the positional arguments, kw the keywords' values by name, ds the defaults that fill up -/
def Binds (K : PySem.W.Frag) (fd : FuncData) (ps : List Str) (ds : List Value) : Prop :=
  ∀ (s : Shared) (us : List Value), K.In s.heap → (us ++ ds).length = ps.length → BindsTo s fd ⟨us, []⟩ (ps.zip (us ++ ds))
/-- every parameter is given -/
theorem Binds.all {K : PySem.W.Frag} {fd : FuncData} {ps : List Str} (h : ∀ us : List Value, us.length = ps.length → bindArgs fd ⟨us, []⟩ = pure (ps.zip us)) : Binds K fd ps [] := fun s us _ hl => by
  rw [List.append_nil] at hl ⊢
  exact .of_eq (h us hl)

/-- an exception of a callee reaches what this body wants of exceptions -/
def Passes (CX : CXT) (X : Cx) (E : XK) : Prop := ∀ (pins : List (Addr × Obj)) (σ : St) (H : Hp) (s : Shared) (e : Value) (s' : Shared), Inv X pins σ H s → CX X.stack H s E e s' → X.xe e s'

section
variable {X : Cx} {CX : CXT} {k : Nat} {f C : Addr} {fd : FuncData} {ps : List Str} {sp : Sp} {dvs : List V} {ds : List Value} {E : XK} {x m : Str} {p pos apos : Pos} {e o : Expr} {es : List Expr} {ta : TE} {t : TA}

/-- the callee runs -/
theorem run_fn {pins : List (Addr × Obj)} {σ : St} {H : Hp} {s : Shared} {Q : VK} {us : List Value} {vs : List V} (F : FnOk X.prog X.w X.K X.mg X.base CX k f fd ps sp) (hr : Room k X.A) (hb : Binds X.K fd ps ds) (hd : Vals dvs ds) (hx : Passes CX X E)
    (I : Inv X pins σ H s) (r : Vals vs us) (h : sp (vs ++ dvs) H Q E) : wpAny (model X.prog X.w) X.A (call (.ref f) us) (EP X pins σ Q) X.xe s := by
  have r2 : Vals (vs ++ dvs) (us ++ ds) := r.append hd
  have hl : (us ++ ds).length = ps.length := by rw [← r2.length]; exact F.len _ _ _ _ h
  refine wpAny_call (codeAny_mono (F.run X.A X.stack s H ⟨us, []⟩ (us ++ ds) (vs ++ dvs) Q E hr I.env0 (hb s us I.kIn hl) r2 h) fun r s' hq => ?_)
  cases r with
  | error e => exact hx pins σ H s e s' I hq
  | ok fl =>
    cases fl with
    | ret u => exact I.after hq
    | next => exact False.elim hq
    | brk => exact False.elim hq
    | cont => exact False.elim hq

theorem pe_call (F : FnOk X.prog X.w X.K X.mg X.base CX k f fd ps sp) (hr : Room k X.A) (hg : Gl X x) (hm : X.mg x = some (.ref f)) (hk : PySem.W.keepIn X.K (.ref f) = true) (hb : Binds X.K fd ps ds) (hd : Vals dvs ds) (hx : Passes CX X E)
    (ha : PA X (e :: es) t) (hdb : (x == ("__debug__" : Str)) = false := by decide) (he : starEach (e :: es) X.env = (false, eval e X.env) :: starEach es X.env := by rfl) (hpl : (backTo pos (starEach es X.env)).any (·.1) = false := by rfl) :
    PE X (.Call (.Name x p) (e :: es) [] pos) (tCall sp dvs E t) := by
  refine .mk ?_
  intro pins s σ H Q I h
  refine wpAny_Call_Name_kw (ld_glob I hg hm ?_ hdb)
  refine PySem.W.callWith_K (h₀ := X.base) I.ok.mod.kin hk (thn (ha pos pins s σ H _ I h) fun us s1 ⟨vs, H1, I1, r, q⟩ => ⟨I1.kIn, ?_⟩) he hpl
  exact run_fn F hr hb hd hx I1 r q
theorem pe_call0 (F : FnOk X.prog X.w X.K X.mg X.base CX k f fd ps sp) (hr : Room k X.A) (hg : Gl X x) (hm : X.mg x = some (.ref f)) (hk : PySem.W.keepIn X.K (.ref f) = true) (hb : Binds X.K fd ps ds) (hd : Vals dvs ds) (hx : Passes CX X E)
    (hdb : (x == ("__debug__" : Str)) = false := by decide) : PE X (.Call (.Name x p) [] [] pos) (tCall sp dvs E tNil) := by
  refine .mk ?_
  intro pins s σ H Q I h
  refine wpAny_Call_Name_kw (ld_glob I hg hm ?_ hdb)
  exact PySem.W.callWith_K0 I.kIn hk (run_fn (us := []) F hr hb hd hx I .nil h)

/-- o.m(e, ..) -/
theorem pe_meth {pl : Sem Bool} (he : PE X o ta) (c : Cls X.K C) (hm : Meth X.K C m f) (F : FnOk X.prog X.w X.K X.mg X.base CX k f fd ps sp) (hr : Room k X.A) (hb : Binds X.K fd ps ds) (hd : Vals dvs ds) (hx : Passes CX X E) (ha : PA X (e :: es) t)
    (hst : starEach (e :: es) X.env = (false, eval e X.env) :: starEach es X.env := by rfl) (hpl : (backTo pos (starEach es X.env)).any (·.1) = false := by rfl)
    (ht : eval (.Call (.Attribute o m apos) (e :: es) [] pos) X.env = (do
      let ov ← eval o X.env
      standAt apos.atName
      let (f, first) ← holding [ov] (getMethod ov m pl)
      callWith pos f first (backTo pos (starEach (e :: es) X.env)) (backToKw pos (keywordEach [] X.env))) := by rfl) :
    PE X (.Call (.Attribute o m apos) (e :: es) [] pos) (tMeth C m sp dvs E ta t) := by
  refine .mk ?_
  intro pins s σ H Q I h
  refine PySem.W.methodCall_KW (pl := pl) (thn (he pins s σ H _ I h) fun u s1 ⟨x, H1, I1, rx, a, dx, fs, ex, ea, l, q⟩ => ?_) ht
  subst ex
  obtain rfl : u = Value.ref a := rx
  refine getmeth_ok I1 ea c hm l ?_
  refine PySem.W.callWith_K (first := [.ref a]) (h₀ := X.base) I.ok.mod.kin hm.kp (thn (ha pos pins s1 σ H1 _ I1 q) fun us s2 ⟨vs, H2, I2, r, q2⟩ => ⟨I2.kIn, ?_⟩) hst hpl
  exact run_fn (us := .ref a :: us) (vs := .ref a :: vs) F hr hb hd hx I2 (.cons rfl r) q2
/-- o.m() -/
theorem pe_meth0 {pl : Sem Bool} (he : PE X o ta) (c : Cls X.K C) (hm : Meth X.K C m f) (F : FnOk X.prog X.w X.K X.mg X.base CX k f fd ps sp) (hr : Room k X.A) (hb : Binds X.K fd ps ds) (hd : Vals dvs ds) (hx : Passes CX X E)
    (ht : eval (.Call (.Attribute o m apos) [] [] pos) X.env = (do
      let ov ← eval o X.env
      standAt apos.atName
      let (f, first) ← holding [ov] (getMethod ov m pl)
      callWith pos f first (backTo pos (starEach [] X.env)) (backToKw pos (keywordEach [] X.env))) := by rfl) :
    PE X (.Call (.Attribute o m apos) [] [] pos) (tMeth C m sp dvs E ta tNil) := by
  refine .mk ?_
  intro pins s σ H Q I h
  refine PySem.W.methodCall_KW (pl := pl) (thn (he pins s σ H _ I h) fun u s1 ⟨x, H1, I1, rx, a, dx, fs, ex, ea, l, q⟩ => ?_) ht
  subst ex
  obtain rfl : u = Value.ref a := rx
  refine getmeth_ok I1 ea c hm l ?_
  exact PySem.W.callWith_K0 (first := [.ref a]) I1.kIn hm.kp (run_fn (us := [.ref a]) (vs := [.ref a]) F hr hb hd hx I1 (.cons rfl .nil) q)

/-- what a class must have to be made -/
structure Mk (K : PySem.W.Frag) (C f : Addr) : Prop where
  makes : PySem.W.makesIn K C = true
  init : PySem.W.findIn K (.ref C) "__init__" = some (some (.ref f))
  fn : PySem.W.isFn K (.ref f) = true
  kp : PySem.W.keepIn K (.ref C) = true

theorem run_make {pins : List (Addr × Obj)} {σ : St} {H : Hp} {s : Shared} {Q : VK} {us : List Value} {vs : List V} (M : Mk X.K C f) (F : FnOk X.prog X.w X.K X.mg X.base CX k f fd ps sp) (hr : Room (k + 1) X.A) (hb : Binds X.K fd ps ds) (hd : Vals dvs ds)
    (hx : Passes CX X E) (I : Inv X pins σ H s) (r : Vals vs us)
    (h : ∀ x dx, H x = none → H dx = none → dx ≠ x → sp (.ref x :: (vs ++ dvs)) (upd (upd H dx (.own x)) x (.ins C dx [])) (fun v H2 => v = .non ∧ Q (.ref x) H2) E) :
    wpAny (model X.prog X.w) X.A (call (.ref C) us) (EP X pins σ Q) X.xe s := by
  have hq := h (s.heap.objs.size + 1) s.heap.objs.size (I.hok.fresh (Nat.le_succ _)) (I.hok.fresh (Nat.le_refl _)) (Nat.ne_of_lt (Nat.lt_succ_self _))
  have I2 := Inv.made (C := C) I
  have r2 : Vals (V.ref (s.heap.objs.size + 1) :: (vs ++ dvs)) (Value.ref (s.heap.objs.size + 1) :: (us ++ ds)) := .cons rfl (r.append hd)
  have hl : (Value.ref (s.heap.objs.size + 1) :: us ++ ds).length = ps.length := by
    have e := r2.length
    rw [F.len _ _ _ _ hq] at e
    exact e.symm
  refine wpAny_call (make_map (f := f) I.kIn M.makes M.init (beq_iff_eq.mp M.fn) (codeAny_mono (F.run _ X.stack _ _ ⟨Value.ref (s.heap.objs.size + 1) :: us, []⟩ (Value.ref (s.heap.objs.size + 1) :: (us ++ ds)) _ _ E (hr.make C us [])
    (I2.env0.make C us []) (hb _ (Value.ref (s.heap.objs.size + 1) :: us) I2.kIn hl) r2 hq) fun r s' hq' => ?_))
  cases r with
  | error e => exact hx pins σ _ _ e s' I2 hq'
  | ok fl =>
    cases fl with
    | ret u =>
      obtain ⟨v, H', I3, rv, ev, q3⟩ := I2.after hq'
      subst ev
      exact ⟨rv, ⟨V.ref (s.heap.objs.size + 1), H', I3, rfl, q3⟩⟩
    | next => exact False.elim hq'
    | brk => exact False.elim hq'
    | cont => exact False.elim hq'
theorem pe_make (M : Mk X.K C f) (F : FnOk X.prog X.w X.K X.mg X.base CX k f fd ps sp) (hr : Room (k + 1) X.A) (hg : Gl X x) (hm : X.mg x = some (.ref C)) (hb : Binds X.K fd ps ds) (hd : Vals dvs ds) (hx : Passes CX X E)
    (ha : PA X (e :: es) t) (hdb : (x == ("__debug__" : Str)) = false := by decide) (he : starEach (e :: es) X.env = (false, eval e X.env) :: starEach es X.env := by rfl) (hpl : (backTo pos (starEach es X.env)).any (·.1) = false := by rfl) :
    PE X (.Call (.Name x p) (e :: es) [] pos) (tMake C sp dvs E t) := by
  refine .mk ?_
  intro pins s σ H Q I h
  refine wpAny_Call_Name_kw (ld_glob I hg hm ?_ hdb)
  refine PySem.W.callWith_K (h₀ := X.base) I.ok.mod.kin M.kp (thn (ha pos pins s σ H _ I h) fun us s1 ⟨vs, H1, I1, r, q⟩ => ⟨I1.kIn, ?_⟩) he hpl
  exact run_make M F hr hb hd hx I1 r q
theorem pe_make0 (M : Mk X.K C f) (F : FnOk X.prog X.w X.K X.mg X.base CX k f fd ps sp) (hr : Room (k + 1) X.A) (hg : Gl X x) (hm : X.mg x = some (.ref C)) (hb : Binds X.K fd ps ds) (hd : Vals dvs ds) (hx : Passes CX X E)
    (hdb : (x == ("__debug__" : Str)) = false := by decide) : PE X (.Call (.Name x p) [] [] pos) (tMake C sp dvs E tNil) := by
  refine .mk ?_
  intro pins s σ H Q I h
  refine wpAny_Call_Name_kw (ld_glob I hg hm ?_ hdb)
  exact PySem.W.callWith_K0 I.kIn M.kp (run_make (us := []) M F hr hb hd hx I .nil h)
end

/-! ### keywords -/
/-- the values of the keywords, from the left -/
def PK (X : Cx) (kws : List Keyword) (t : TA) : Prop :=
  ∀ (pos : Pos) (pins : List (Addr × Obj)) (s : Shared) (σ : St) (H : Hp) (Q : List V → Hp → Prop), Inv X pins σ H s → t σ H Q → wpAny (model X.prog X.w) X.A (evalAll ((backToKw pos (keywordEach kws X.env)).map (·.2))) (AP X pins σ Q) X.xe s
section
variable {X : Cx} {CX : CXT} {k : Nat} {f C : Addr} {fd : FuncData} {ps ks : List Str} {sp : Sp} {E : XK} {x m : Str} {p pos apos kpos : Pos} {e o : Expr} {es : List Expr} {kws : List Keyword} {te ta : TE} {t tk : TA} {nm : Option Str}
theorem pk_nil : PK X [] tNil := fun _ _ _ _ H Q I h => wpAny_evalAll_nil ⟨[], H, I, .nil, h⟩
theorem pk_cons (ha : PE X e te) (hr : PK X kws t) : PK X (⟨nm, e, kpos⟩ :: kws) (tCons te t) := by
  intro pos pins s σ H Q I h
  show wpAny _ _ (evalAll ((do let v ← eval e X.env; standAt pos; pure v) :: (backToKw pos (keywordEach kws X.env)).map (·.2))) _ _ s
  refine wpAny_evalAll_cons (wpAny_bind (thn (ha pins s σ H _ I h) fun u s1 ⟨x, H1, I1, r1, q1⟩ => wpAny_bind (wpAny_standAt (wpAny_pure ?_))))
  exact thn (hr pos pins s1 σ H1 _ I1 q1) fun us s2 ⟨xs, H2, I2, r2, q2⟩ => ⟨x :: xs, H2, I2, .cons r1 r2, q2⟩

/-- how a call with keywords binds: g puts the positional values us and the keywords' values ws (names ks) in the parameters' order, defaults among them -/
structure KBinds (K : PySem.W.Frag) (fd : FuncData) (ps ks : List Str) (g : List Value → List Value → List Value) (gV : List V → List V → List V) : Prop where
  to : ∀ (s : Shared) (us ws : List Value), K.In s.heap → (g us ws).length = ps.length → BindsTo s fd ⟨us, ks.zip ws⟩ (ps.zip (g us ws))
  rel : ∀ {vs : List V} {us : List Value} {zs : List V} {ws : List Value}, Vals vs us → Vals zs ws → Vals (gV vs zs) (g us ws)
def tCallK (sp : Sp) (gV : List V → List V → List V) (E : XK) (t tk : TA) : TE := fun σ H Q => t σ H fun vs H1 => tk σ H1 fun zs H2 => sp (gV vs zs) H2 Q E
variable {g : List Value → List Value → List Value} {gV : List V → List V → List V}
theorem run_fnk {pins : List (Addr × Obj)} {σ : St} {H : Hp} {s : Shared} {Q : VK} {us ws : List Value} {vs zs : List V} (F : FnOk X.prog X.w X.K X.mg X.base CX k f fd ps sp) (hr : Room k X.A) (hb : KBinds X.K fd ps ks g gV) (hx : Passes CX X E)
    (I : Inv X pins σ H s) (r : Vals vs us) (rz : Vals zs ws) (h : sp (gV vs zs) H Q E) : wpAny (model X.prog X.w) X.A (call (.ref f) us (ks.zip ws)) (EP X pins σ Q) X.xe s := by
  have r2 := hb.rel r rz
  have hl : (g us ws).length = ps.length := by rw [← r2.length]; exact F.len _ _ _ _ h
  refine wpAny_call (codeAny_mono (F.run X.A X.stack s H ⟨us, ks.zip ws⟩ (g us ws) (gV vs zs) Q E hr I.env0 (hb.to s us ws I.kIn hl) r2 h) fun r s' hq => ?_)
  cases r with
  | error e => exact hx pins σ H s e s' I hq
  | ok fl =>
    cases fl with
    | ret u => exact I.after hq
    | next => exact False.elim hq
    | brk => exact False.elim hq
    | cont => exact False.elim hq
/-- f(e, .., k = v, ..) -/
theorem pe_callK (F : FnOk X.prog X.w X.K X.mg X.base CX k f fd ps sp) (hr : Room k X.A) (hg : Gl X x) (hm : X.mg x = some (.ref f)) (hk : PySem.W.keepIn X.K (.ref f) = true) (hb : KBinds X.K fd ps ks g gV) (hx : Passes CX X E)
    (ha : PA X (e :: es) t) (hkw : PK X kws tk) (hall : (backToKw pos (keywordEach kws X.env)).all (·.1.isSome) = true := by rfl) (hks : (backToKw pos (keywordEach kws X.env)).filterMap (·.1) = ks := by rfl)
    (hdb : (x == ("__debug__" : Str)) = false := by decide) (he : starEach (e :: es) X.env = (false, eval e X.env) :: starEach es X.env := by rfl)
    (hpl : ((backTo pos (starEach (e :: es) X.env)).any (·.1) || (backToKw pos (keywordEach kws X.env)).any (·.1.isNone)) = false := by rfl) :
    PE X (.Call (.Name x p) (e :: es) kws pos) (tCallK sp gV E t tk) := by
  refine .mk ?_
  intro pins s σ H Q I h
  refine wpAny_Call_Name_kw (ld_glob I hg hm ?_ hdb)
  refine PySem.W.callWith_KW (h₀ := X.base) I.ok.mod.kin hk hall (thn (ha pos pins s σ H _ I h) fun us s1 ⟨vs, H1, I1, r, q⟩ => ?_) hpl he
  refine thn (hkw pos pins s1 σ H1 _ I1 q) fun ws s2 ⟨zs, H2, I2, rz, q2⟩ => ⟨I2.kIn, ?_⟩
  rw [hks]
  exact run_fnk F hr hb hx I2 r rz q2
end

/-! ### a def's body keeps its promise -/
/-- names: the parameters first -/
structure FnScope (N P : List Str) (sc : Scope) : Prop where
  kind : sc.kind = .function
  co : sc.isCoroutine = false
  gen : sc.isGenerator = false
  nd : N.Nodup
  pre : N.take P.length = P
  par : ∀ x ∈ P, sc.names.lookup x = some .local ∨ sc.names.lookup x = some .cell
  nofree : ∀ y ∈ sc.names, y.2 ≠ .free

theorem bindL_out {kindOf : Str → Option NameKind} {x : Str} : ∀ {binds : List (Str × Value)} {m : Str → Option Value}, (∀ v, (x, v) ∉ binds) → bindL kindOf binds m x = m x
  | [], _, _ => rfl
  | (n, v) :: r, m, h => by
    unfold bindL
    rw [bindL_out fun w hw => h w (List.mem_cons_of_mem _ hw)]
    split
    · have : x ≠ n := by rintro rfl; exact h v List.mem_cons_self
      simp [this]
    · rfl
theorem bindC_out {kindOf : Str → Option NameKind} {x : Str} : ∀ {binds : List (Str × Value)} {m : Str → Option Value}, (∀ v, (x, v) ∉ binds) → bindC kindOf binds m x = m x
  | [], _, _ => rfl
  | (n, v) :: r, m, h => by
    unfold bindC
    rw [bindC_out fun w hw => h w (List.mem_cons_of_mem _ hw)]
    split
    · rfl
    · have : x ≠ n := by rintro rfl; exact h v List.mem_cons_self
      simp [this]
theorem bindL_get {kindOf : Str → Option NameKind} {x : Str} {v : Value} : ∀ {P : List Str} {vs : List Value} {i : Nat} {m : Str → Option Value}, P.Nodup → P[i]? = some x → vs[i]? = some v → kindOf x = some .local →
    bindL kindOf (P.zip vs) m x = some v
  | [], _, _, _, _, h, _, _ => by simp at h
  | _ :: _, [], _, _, _, _, h, _ => by simp at h
  | p :: P, w :: vs, 0, m, nd, h1, h2, hk => by
    simp at h1 h2; subst h1; subst h2
    show bindL kindOf ((p, w) :: P.zip vs) m p = _
    unfold bindL
    rw [bindL_out fun v hv => (List.nodup_cons.mp nd).1 (List.of_mem_zip hv).1, if_pos hk]
    simp
  | p :: P, w :: vs, i + 1, m, nd, h1, h2, hk => by
    show bindL kindOf ((p, w) :: P.zip vs) m x = _
    unfold bindL
    exact bindL_get (i := i) (List.nodup_cons.mp nd).2 (by simpa using h1) (by simpa using h2) hk
theorem bindC_get {kindOf : Str → Option NameKind} {x : Str} {v : Value} : ∀ {P : List Str} {vs : List Value} {i : Nat} {m : Str → Option Value}, P.Nodup → P[i]? = some x → vs[i]? = some v → kindOf x ≠ some .local →
    bindC kindOf (P.zip vs) m x = some v
  | [], _, _, _, _, h, _, _ => by simp at h
  | _ :: _, [], _, _, _, _, h, _ => by simp at h
  | p :: P, w :: vs, 0, m, nd, h1, h2, hk => by
    simp at h1 h2; subst h1; subst h2
    show bindC kindOf ((p, w) :: P.zip vs) m p = _
    unfold bindC
    rw [bindC_out fun v hv => (List.nodup_cons.mp nd).1 (List.of_mem_zip hv).1, if_neg hk]
    simp
  | p :: P, w :: vs, i + 1, m, nd, h1, h2, hk => by
    show bindC kindOf ((p, w) :: P.zip vs) m x = _
    unfold bindC
    exact bindC_get (i := i) (List.nodup_cons.mp nd).2 (by simpa using h1) (by simpa using h2) hk

/-- the names' values at the entry -/
def start (N : List Str) (vs : List V) : St := vs.map some ++ List.replicate (N.length - vs.length) none

/-- the context of a def's body, at its entry; an exception leaves the frame, then lies as CX says -/
def cxOf (CX : CXT) (P : Program) (w : World) (K : PySem.W.Frag) (mg : Str → Option Value) (base : Heap) (N : List Str) (qual : Str) (scope : Scope) (f : Addr) (cd : Value) (A : Around) (outer : List Env) (s : Shared) (H : Hp) (E : XK) : Cx where
  prog := P
  w := w
  K := K
  mg := mg
  base := base
  A := A.deeper (envOfC qual scope s.heap.objs.size f cd)
  N := N
  s₀ := s
  H₀ := H
  env := envOfC qual scope s.heap.objs.size f cd
  outer := outer
  stack := envOfC qual scope s.heap.objs.size f cd :: outer
  ex := []
  calm := true
  fn := fun _ => true
  pn := []
  xe := fun e s' => wpAny (model P w) (A.deeper (envOfC qual scope s.heap.objs.size f cd)) (leaving (envOfC qual scope s.heap.objs.size f cd) e) (fun _ s'' => CX outer H s E e s'') (fun e' s'' => CX outer H s E e' s'') s'

theorem cell_has {sc : Scope} {n : Nat} {x : Str} (h : sc.names.lookup x = some .cell) : ∃ c, (cellsFrom n sc.names []).lookup x = some c := by
  have q := PySem.W.cellsFrom_some sc.names n [] (.inl h)
  exact Option.isSome_iff_exists.mp q

theorem inv_start {CX : CXT} {P : Program} {w : World} {K : PySem.W.Frag} {mg : Str → Option Value} {base : Heap} {N ps : List Str} {qual : Str} {scope : Scope} {f : Addr} {cd : Value} {A : Around} {outer : List Env} {s s1 : Shared} {H : Hp} {E : XK} {us : List Value} {vs : List V}
    (S : FnScope N ps scope) (hd : A.handled = none) (e0 : Env0 P w K mg base A outer s H) (hl : vs.length = ps.length) (r : Vals vs us)
    (x : InCallC s s.heap.objs.size (bindL (envOfC qual scope s.heap.objs.size f cd).kindOf (ps.zip us) fun _ => none) (cellsFrom (s.heap.objs.size + 1) scope.names []) (bindC (envOfC qual scope s.heap.objs.size f cd).kindOf (ps.zip us) fun _ => none) s1) :
    Inv (cxOf CX P w K mg base N qual scope f cd A outer s H E) [] (start N vs) H s1 := by
  have hpl : ps.length ≤ N.length := by have := congrArg List.length S.pre; rw [List.length_take] at this; omega
  obtain ⟨h1, tk, rfl, hk⟩ := x.done
  have noA : ∀ b : Addr, b ∉ (cxOf CX P w K mg base N qual scope f cd A outer s H E).ex := fun b z => absurd (show b ∈ ([] : List Addr) from z) (by simp)
  refine ⟨⟨e0.mod, S.kind, rfl, rfl, Nat.le_refl _, fun y z c h1 h2 => ?_, fun y hy => ?_, fun y c _ h => ?_, fun _ => hd, Around.frames_deeper e0.frames, .inr ⟨rfl, rfl⟩, fun b z => absurd z (noA b), e0.bs, e0.bsz, fun b _ _ => noA b, fun b z => absurd z (noA b), e0.funs, e0.frf⟩,
    rfl, e0.bare, Un.kept hk, ⟨_, x.toInCall.ns, fun i y v h1 h2 h3 => ?_⟩, fun y c h => ⟨_, x.cell y c h⟩, e0.hok.fresh (Nat.le_refl _), fun y c h => ?_, fun p hp => absurd (show p ∈ ([] : List (Addr × Obj)) from hp) (by simp), e0.hok.kept hk, ?_⟩
  · exact name_of_addr x.apart (PySem.mem_of_lookup h1) (PySem.mem_of_lookup h2)
  · have hy : scope.names.lookup y = some .cell ∨ scope.names.lookup y = some .free := hy
    rcases hy with hy | hy
    · exact cell_has hy
    · exact absurd rfl (S.nofree _ (PySem.mem_of_lookup hy))
  · exact Nat.le_of_lt (x.above y c (PySem.mem_of_lookup h))
  · have hi : i < vs.length := by
      unfold start at h2
      by_cases hi : i < vs.length
      · exact hi
      · rw [List.getElem?_append_right (by simpa using hi)] at h2
        rw [List.getElem?_replicate] at h2
        split at h2 <;> cases h2
    have ha : vs[i]? = some v := by
      unfold start at h2
      rw [List.getElem?_append_left (by simpa using hi), List.getElem?_map] at h2
      cases e : vs[i]? with
      | none => rw [e] at h2; cases h2
      | some a => rw [e] at h2; cases h2; rfl
    obtain ⟨u, hu, rv⟩ := r.get ha
    have hp : ps[i]? = some y := by
      rw [← S.pre, List.getElem?_take_of_lt (by omega)]; exact h1
    have ndP : ps.Nodup := by rw [← S.pre]; exact S.nd.sublist (List.take_sublist _ _)
    refine ⟨u, rv, ?_⟩
    rcases S.par y (List.mem_of_getElem? hp) with k | k
    · exact .inl ⟨k, bindL_get ndP hp hu k⟩
    · obtain ⟨c, e⟩ := cell_has (n := s.heap.objs.size + 1) k
      refine .inr ⟨.inl k, c, e, ?_⟩
      have q := x.cell y c e
      rw [bindC_get ndP hp hu (by show scope.names.lookup y ≠ _; rw [k]; decide)] at q
      exact q
  · exact e0.hok.fresh (Nat.le_of_lt (x.above y c (PySem.mem_of_lookup h)))
  · unfold start
    show _ = N.length
    rw [List.length_append, List.length_map, List.length_replicate]
    omega

/-- THE RULE: a def (or a method) of the text, by its body. The body's reading t is chosen for each entry; it is run at the parameters' values -/
theorem fn_of {CX : CXT} {P : Program} {w : World} {K : PySem.W.Frag} {mg : Str → Option Value} {base : Heap} {k : Nat} {f : Addr} {name qual : Str} {params : Arguments} {body : List Stmt} {scope : Scope} {dV kV doc pm cdv ct oc : Value} {an od : Option Addr}
    {osl : Array (Option Value)} {N ps : List Str} {sp : Sp} (lk : K.lookup f = some ⟨oc, od, .func (PySem.W.fnOf name qual params body scope dV kV doc pm an cdv ct), osl⟩) (hcd : PySem.W.codeIn K cdv qual = true) (S : FnScope N ps scope)
    (len : ∀ vs H Q E, sp vs H Q E → vs.length = ps.length)
    (hbody : ∀ (A : Around) (outer : List Env) (s : Shared) (H : Hp) (vs : List V) (Q : VK) (E : XK), Room k (A.deeper (envOfC qual scope s.heap.objs.size f cdv)) → sp vs H Q E →
      ∃ t, PSs (cxOf CX P w K mg base N qual scope f cdv A outer s H E) body t ∧ t { nx := fun _ H' => Q .non H', rt := Q } (start N vs) H) :
    FnOk P w K mg base CX (k + 1) f (PySem.W.fnOf name qual params body scope dV kV doc pm an cdv ct) ps sp := by
  refine ⟨len, fun A outer s H args us vs Q E hr e0 hb r hsp => ?_⟩
  have hl := len _ _ _ _ hsp
  have KX : K.In s.heap := e0.mod.kin.keeps fun b o e => (e0.bs b o e).1
  have lim : s.heap.NoLimit := e0.mod.nolimit.keeps fun b o e => (e0.bs b o e).1
  have hkind : ∀ y ∈ ps.zip us, scope.names.lookup y.1 = some .local ∨ (scope.names.lookup y.1 = some .cell ∧ ((cellsFrom (s.heap.objs.size + 1) scope.names []).lookup y.1).isSome = true) := fun ⟨n, v⟩ hy => by
    rcases S.par n (List.of_mem_zip hy).1 with q | q
    · exact .inl q
    · exact .inr ⟨q, PySem.W.cellsFrom_some _ _ _ (.inl q)⟩
  refine codeAny_call_function hr.depth (KX _ _ lk) rfl S.co S.gen rfl (PySem.W.codeRec_of KX hcd) (hb _ _ _ _ ?_)
  refine wpAny_newFunctionEnv_cells S.kind hkind fun env he s1 x => ?_
  subst he
  refine ⟨lim.keeps x.toInCall.keep, codeAny_func ?_⟩
  obtain ⟨t, ht, hq⟩ := hbody A outer s H vs Q E (hr.deeper _) hsp
  have I : Inv (cxOf CX P w K mg base N qual scope f cdv A outer s H E) [] (start N vs) H s1 := inv_start S hr.hd e0 hl r x
  refine wpAny_mono (ht [] s1 (start N vs) H _ I hq) (fun fl s' hs => ?_) fun e s' hs => hs
  have fin : ∀ {σ' : St} {H' : Hp} {v : V} {u : Value}, Inv (cxOf CX P w K mg base N qual scope f cdv A outer s H E) [] σ' H' s' → RelV v u → Q v H' → CE outer P w H s Q u s' :=
    fun {σ' H' v u} J rv q => ⟨v, H', J.os, J.bare, J.base, J.hok, rv, q⟩
  cases fl with
  | ret u =>
    obtain ⟨v, σ', H', J, rv, q⟩ := hs
    exact fin J rv q
  | next =>
    obtain ⟨σ', H', J, q⟩ := hs
    exact fin (v := V.non) (u := Value.none) J rfl q
  | brk =>
    obtain ⟨_, _, _, q⟩ := hs
    exact False.elim q
  | cont =>
    obtain ⟨_, _, _, q⟩ := hs
    exact False.elim q
end L2

namespace L2
open PySem PySem.Spec PyProof.Rows
section
variable {X : Cx} {x : Str} {p pos : Pos} {e : Expr} {es : List Expr} {t : TA} {id T : String} {r : List V → Hp → VK → Prop}

def tCB (r : List V → Hp → VK → Prop) (t : TA) : TE := fun σ H Q => t σ H fun vs H1 => r vs H1 Q
/-- f(e, ..), f a built-in function -/
theorem pe_callB (hc : CallR X (.builtin id) r) (hg : Gl X x) (hm : X.mg x = none) (hv : bootBuiltins x = some (.builtin id)) (ha : PA X (e :: es) t) (hn : x ≠ "__name__" := by decide) (hdb : (x == ("__debug__" : Str)) = false := by decide)
    (he : starEach (e :: es) X.env = (false, eval e X.env) :: starEach es X.env := by rfl) (hpl : (backTo pos (starEach es X.env)).any (·.1) = false := by rfl) : PE X (.Call (.Name x p) (e :: es) [] pos) (tCB r t) := by
  refine .mk ?_
  intro pins s σ H Q I h
  refine wpAny_Call_Name_kw (ld_blt I hg hm hv ?_ hn hdb)
  exact PyProof.Rows.callWith_builtin1 (thn (ha pos pins s σ H _ I h) fun us s1 ⟨vs, H1, I1, r1, q1⟩ => hc pins s1 σ H1 vs us Q I1 r1 q1) he hpl
/-- T(e, ..), T a built-in type -/
theorem pe_callTy (hc : CallR X (.type T) r) (hg : Gl X x) (hm : X.mg x = none) (hv : bootBuiltins x = some (.type T)) (ha : PA X (e :: es) t) (hn : x ≠ "__name__" := by decide) (hdb : (x == ("__debug__" : Str)) = false := by decide)
    (he : starEach (e :: es) X.env = (false, eval e X.env) :: starEach es X.env := by rfl) (hpl : (backTo pos (starEach es X.env)).any (·.1) = false := by rfl) : PE X (.Call (.Name x p) (e :: es) [] pos) (tCB r t) := by
  refine .mk ?_
  intro pins s σ H Q I h
  refine wpAny_Call_Name_kw (ld_blt I hg hm hv ?_ hn hdb)
  exact PyProof.Rows.callWith_type1 (thn (ha pos pins s σ H _ I h) fun us s1 ⟨vs, H1, I1, r1, q1⟩ => hc pins s1 σ H1 vs us Q I1 r1 q1) he hpl
/-- T() -/
theorem pe_callTy0 (hc : CallR X (.type T) r) (hg : Gl X x) (hm : X.mg x = none) (hv : bootBuiltins x = some (.type T)) (hn : x ≠ "__name__" := by decide) (hdb : (x == ("__debug__" : Str)) = false := by decide) :
    PE X (.Call (.Name x p) [] [] pos) (tCB r tNil) := by
  refine .mk ?_
  intro pins s σ H Q I h
  refine wpAny_Call_Name_kw (ld_blt I hg hm hv ?_ hn hdb)
  exact PyProof.Rows.callWith_type0 (hc pins s σ H [] [] Q I .nil h)
end
end L2

namespace HT
open PySem PyProof.Rows

/-- t < u of tuples of ints -/
def lexLt : List Int → List Int → Bool
  | [], [] => false
  | [], _ :: _ => true
  | _ :: _, [] => false
  | x :: xs, y :: ys => if x = y then lexLt xs ys else decide (x < y)
theorem lexLt_cons (x y : Int) (xs ys : List Int) : lexLt (x :: xs) (y :: ys) = if x = y then lexLt xs ys else decide (x < y) := rfl
theorem lexLt_nil_nil : lexLt [] [] = false := rfl
theorem lexLt_nil_cons (y : Int) (ys : List Int) : lexLt [] (y :: ys) = true := rfl
theorem lexLt_cons_nil (x : Int) (xs : List Int) : lexLt (x :: xs) [] = false := rfl

theorem eqAt_int (A : Around) (s : Shared) (a : Int) (t : Tok) (c : Int) (u : Tok) : ∃ e, SeqAt.EqAt A s (.int a t) (.int c u) e ∧ (e = true ↔ a = c) :=
  ⟨(a == c), SeqAt.EqAt.int_int a t c u, by simp⟩
theorem rcLt_int (A : Around) (s : Shared) (a : Int) (t : Tok) (c : Int) (u : Tok) (prog : Program) (w : World) (E : Value → Shared → Prop) (Q : Value → Shared → Prop) (h : Q (.bool (decide (a < c))) s) :
    wpAny (model prog w) A (richCompare .Lt (.int a t) (.int c u)) Q E s :=
  (PyProof.Rows.lt_int h : wpAny (model prog w) A (compareOp .Lt (.int a t) (.int c u)) Q E s)

section
open PySem.SeqAt
open PySem.AutoSeq1 (wpAny_loadPart')
open PySem.MeetsSeq PySem.MeetsSeq2 PySem.MeetsSeq3

theorem tuple_lt_ints (l b : Addr) (items items2 : Array Value) (n n2 : Nat) (dd dd2 : Option Addr) (sl sl2 : Array (Option Value)) (ns ms : List Int) (hi : IntsAre items.toList ns) (hj : IntsAre items2.toList ms) :
    Meets (Builtin.«tuple.__lt__» ⟨[.ref l, .ref b], []⟩)
      (fun _ R s => s.heap.get? l = some { cls := .type "tuple", dict := dd, data := .seq items n, slots := sl } ∧ s.heap.get? b = some { cls := .type "tuple", dict := dd2, data := .seq items2 n2, slots := sl2 } ∧
        R (.ok (.ret (.bool (lexLt ns ms)))) s) :=
  .of_wp fun prog w A R s h => by
    obtain ⟨hp, g, d, tk, os⟩ := s; obtain ⟨hl, hb, h⟩ := h
    have f2 := AutoSeq1.sub_tuple_tuple
    have z1 : items.size = ns.length := by rw [← hi.length]; simp
    have z2 : items2.size = ms.length := by rw [← hj.length]; simp
    wp_walk using wpAny_loadPart' hl, wpAny_loadPart' hb, wpAny_forIn_list _ (fun rest b s' => b.1 = none ∧ s' = ⟨hp, g, d, tk, os⟩ ∧ ∃ (vs ws : List Value) (ns' ms' : List Int), rest = vs.zip ws ∧
      IntsAre vs ns' ∧ IntsAre ws ms' ∧ ns'.length + items2.size = ms'.length + items.size ∧ R (.ok (.ret (.bool (lexLt ns' ms')))) ⟨hp, g, d, tk, os⟩) _
    case turn =>
      rintro ⟨y, x⟩ rest b s' ⟨hb', rfl, vs, ws, ns', ms', hz, hvi, hwi, hlen, hR⟩
      cases hvi with
      | nil => rw [List.zip_nil_left] at hz; cases hz
      | cons a t hvi' =>
        cases hwi with
        | nil => rw [List.zip_nil_right] at hz; cases hz
        | cons c u hwi' =>
          rw [List.zip_cons_cons] at hz
          injection hz with hyx hrest
          injection hyx with hy hx
          subst hy hx
          rw [lexLt_cons] at hR
          simp only [List.length_cons] at hlen
          obtain ⟨e, he, hiff⟩ := eqAt_int A.in1 ⟨hp, g, d, tk, os⟩ a t c u
          refine wpAny_bind (he prog w _ _ ?_)
          cases e with
          | true =>
            rw [if_pos (hiff.mp rfl)] at hR
            wp_walk
            exact ⟨rfl, rfl, _, _, _, _, hrest, hvi', hwi', by omega, hR⟩
          | false =>
            rw [if_neg (fun q => absurd (hiff.mpr q) Bool.false_ne_true)] at hR
            have hri := rcLt_int A.in1 ⟨hp, g, d, tk, os⟩ a t c u prog w
            wp_walk using hri
            exact ⟨_, rfl, by simpa using hR⟩
    case fin =>
      rintro ⟨b1, b2⟩ s' ⟨hb', rfl, vs, ws, ns', ms', hz, hvi, hwi, hlen, hR⟩
      simp only at hb'
      subst hb'
      have hv : lexLt ns' ms' = decide (items.size < items2.size) := by
        cases hvi with
        | nil =>
          cases hwi with
          | nil =>
            simp only [List.length_nil] at hlen
            rw [lexLt_nil_nil]
            exact (decide_eq_false (by omega)).symm
          | cons c u hw =>
            simp only [List.length_nil, List.length_cons] at hlen
            rw [lexLt_nil_cons]
            exact (decide_eq_true (by omega)).symm
        | cons a t hv =>
          cases hwi with
          | nil =>
            simp only [List.length_nil, List.length_cons] at hlen
            rw [lexLt_cons_nil]
            exact (decide_eq_false (by omega)).symm
          | cons c u hw =>
            rw [List.zip_cons_cons] at hz
            cases hz
      rw [hv] at hR
      wp_walk
      exact ⟨_, rfl, by simpa [Builtin.Tuple.tupleCompareSizes] using hR⟩
    case h =>
      exact ⟨rfl, rfl, items.toList, items2.toList, ns, ms, rfl, hi, hj, by omega, h⟩
end

section
variable {prog : Program} {w : World} {A : Around} {E : Value → Shared → Prop} {s : Shared}

theorem lt_tupInts {l b : Addr} {items items2 : Array Value} {ns ms : List Int} {Q : Value → Shared → Prop} (hl : IsTup s.heap l items) (hb : IsTup s.heap b items2) (hi : IntsAre items.toList ns) (hj : IntsAre items2.toList ms)
    (hu : A.units < cLine) (h : Q (.bool (lexLt ns ms)) s) : wpAny (model prog w) A (compareOp .Lt (.ref l) (.ref b)) Q E s := by
  obtain ⟨⟨cls, dd, data, sl⟩, ho, hc, n, hd⟩ := id hl
  obtain ⟨⟨cls2, dd2, data2, sl2⟩, ho2, hc2, n2, hd2⟩ := id hb
  simp only at hc hd hc2 hd2
  subst hc hd hc2 hd2
  exact richCompare_meets_room (op := .Lt) ⟨_, ho, rfl⟩ ⟨_, ho2, rfl⟩ PySem.F.slot_tuple_lt PySem.F.entry_tuple_lt (PySem.F.args_tuple_lt_2 _ _) (tuple_lt_ints l b items items2 n n2 dd dd2 sl sl2 ns ms hi hj)
    ⟨ho, ho2, show Value.bool (lexLt ns ms) ≠ Value.notImplemented ∧ Q (.bool (lexLt ns ms)) s from ⟨(fun x => nomatch x), h⟩⟩ hu

/-- t + u, t not empty -/
theorem cat_tup {t b : Addr} {vs ws : List Value} {Q : Value → Shared → Prop} (ht : IsTup s.heap t vs.toArray) (hb : IsTup s.heap b ws.toArray) (hv : vs ≠ [])
    (h1 : ws = [] → Q (.ref t) s) (h2 : ws ≠ [] → Q (.ref s.heap.objs.size) { s with heap := s.heap.push { cls := .type "tuple", data := .seq (vs ++ ws).toArray } })
    (hsz : vs.length + ws.length ≤ sizeLine) : wpAny (model prog w) A (binaryOp .Add (.ref t) (.ref b)) Q E s := by
  obtain ⟨⟨cls, dd, data, sl⟩, ho, hc, n, hd⟩ := id ht
  obtain ⟨⟨cls2, dd2, data2, sl2⟩, ho2, hc2, n2, hd2⟩ := id hb
  simp only at hc hd hc2 hd2
  subst hc hd hc2 hd2
  have e : vs.toArray ++ ws.toArray = (vs ++ ws).toArray := by simp
  by_cases hw : ws = []
  · exact concat_meets ⟨_, ho, rfl⟩ ⟨_, ho2, rfl⟩ noFill_tuple_add seq_tuple_add PySem.F.slot_tuple_add PySem.F.entry_tuple_add (PySem.F.args_tuple_add_2 _ _)
      (tuple_addW1 t b vs.toArray ws.toArray n n2 dd dd2 sl sl2 (by simpa using hv) (by simp [hw])) ⟨ho, ho2, h1 hw⟩
  · refine concat_meets ⟨_, ho, rfl⟩ ⟨_, ho2, rfl⟩ noFill_tuple_add seq_tuple_add PySem.F.slot_tuple_add PySem.F.entry_tuple_add (PySem.F.args_tuple_add_2 _ _)
      (tuple_addW2 t b vs.toArray ws.toArray n n2 dd dd2 sl sl2 (by simpa using hv) (by simpa using hw) (by rw [List.size_toArray, List.size_toArray]; exact hsz)) ⟨ho, ho2, ?_⟩
    rw [e]
    exact h2 hw

/-! ### t[a:b], not the whole -/
/-- a slice's bound as a place among n (d where it is left out) -/
def sIx (n d : Nat) : Option Int → Nat
  | none => d
  | some v => if v < 0 then (v + (n : Int)).toNat else min v.toNat n
theorem sIx_none (n d : Nat) : sIx n d none = d := rfl
theorem sIx_nat (n d k : Nat) : sIx n d (some (k : Int)) = min k n := by
  show (if (k : Int) < 0 then ((k : Int) + (n : Int)).toNat else min (k : Int).toNat n) = min k n
  rw [if_neg (by omega), Int.toNat_natCast]
theorem sIx_le (n d : Nat) (hd : d ≤ n) (o : Option Int) : sIx n d o ≤ n := by
  cases o with
  | none => exact hd
  | some v =>
    show (if v < 0 then (v + (n : Int)).toNat else min v.toNat n) ≤ n
    by_cases hv : v < 0
    · rw [if_pos hv]; omega
    · rw [if_neg hv]; exact Nat.min_le_right _ _
theorem clip_eq (v : Int) (n d : Nat) : (if v < 0 then max (v + (n : Int)) 0 else min v (n : Int)) = ((sIx n d (some v) : Nat) : Int) := by
  show (if v < 0 then max (v + (n : Int)) 0 else min v (n : Int)) = (((if v < 0 then (v + (n : Int)).toNat else min v.toNat n) : Nat) : Int)
  by_cases hv : v < 0
  · simp only [if_pos hv]; omega
  · simp only [if_neg hv]; omega
theorem adjust_gen (lo hi : Option Int) (n : Nat) : Builtin.Slice.sliceAdjust lo hi 1 (n : Int) = (((sIx n 0 lo : Nat) : Int), ((sIx n n hi : Nat) : Int)) := by
  have h1 : ¬ ((1 : Int) < 0) := by omega
  unfold Builtin.Slice.sliceAdjust
  simp only [h1, if_false]
  refine Prod.ext ?_ ?_
  · cases lo with
    | none => rfl
    | some v => exact clip_eq v n 0
  · cases hi with
    | none => rfl
    | some v => exact clip_eq v n n
theorem places_gen (i j : Nat) : Builtin.Slice.slicePlaces (i : Int) (j : Int) 1 = j - i := by
  unfold Builtin.Slice.slicePlaces
  have h1 : (1 : Int) > 0 := by omega
  simp only [h1, if_true, Int.ediv_one]
  split <;> omega
theorem slicePart_ {v : Value} {o : Option Int} {Q : Option Int → Shared → Prop} (p : IsPart v o) (h : Q o s) : wpAny (model prog w) A (Builtin.Slice.slicePartIndex v) Q E s := by
  cases p with
  | none => exact slicePart_none h
  | int i t => exact slicePart_int h
theorem sliceApplied_gen {sl : Addr} {vl vu : Value} {lo hi : Option Int} {n : Nat} {Q : Int × Int × Nat → Shared → Prop} (hs : s.heap.IsSliceOf sl vl vu .none) (pl : IsPart vl lo) (pu : IsPart vu hi)
    (h : Q (((sIx n 0 lo : Nat) : Int), 1, sIx n n hi - sIx n 0 lo) s) : wpAny (model prog w) A (Builtin.Slice.sliceApplied (.ref sl) (pure (n : Int))) Q E s := by
  obtain ⟨os, hos, hcs, hds⟩ := id hs
  unfold Builtin.Slice.sliceApplied Builtin.Slice.sliceFields
  refine wpAny_bind (wpAny_bind (wpAny_field hos hds (x := vl) rfl (wpAny_bind (wpAny_field hos hds (x := vu) rfl (wpAny_bind (wpAny_field hos hds (x := .none) rfl (wpAny_pure ?_)))))))
  refine wpAny_bind (slicePart_none ?_)
  show wpAny _ _ (if ((1 : Int) == 0) = true then _ else _) _ _ s
  rw [if_neg (by decide)]
  refine wpAny_bind (slicePart_ pl (wpAny_bind (slicePart_ pu (wpAny_bind (wpAny_pure ?_)))))
  show wpAny _ _ (match Builtin.Slice.sliceAdjust lo hi 1 (n : Int) with | (lo, hi) => pure (lo, (1 : Int), Builtin.Slice.slicePlaces lo hi 1)) _ _ s
  rw [adjust_gen lo hi n]
  show wpAny _ _ (pure (((sIx n 0 lo : Nat) : Int), (1 : Int), Builtin.Slice.slicePlaces ((sIx n 0 lo : Nat) : Int) ((sIx n n hi : Nat) : Int) 1)) _ _ s
  rw [places_gen]
  exact wpAny_pure h
theorem pick_gen (xs : Array Value) (i k : Nat) : ((List.range k).filterMap fun (m : Nat) => xs[((i : Int) + (m : Int) * 1).toNat]?).toArray = ((xs.toList.drop i).take k).toArray := by
  have e : (fun (m : Nat) => xs[((i : Int) + (m : Int) * 1).toNat]?) = fun m => xs[i + m]? := by
    funext m
    have : ((i : Int) + (m : Int) * 1).toNat = i + m := by omega
    rw [this]
  rw [e]
  have := pick_run xs i k
  rw [List.filterMap_map] at this
  have e2 : ((fun x => xs[x]?) ∘ fun x => i + x) = fun m => xs[i + m]? := rfl
  rw [e2] at this
  rw [this]

theorem getItem_tuple_cut {t sl : Addr} {items : Array Value} {vl vu : Value} {lo hi : Option Int} {Q : Value → Shared → Prop} (ht : IsTup s.heap t items) (hs : s.heap.IsSliceOf sl vl vu .none) (pl : IsPart vl lo) (pu : IsPart vu hi)
    (hw : ¬ (sIx items.size 0 lo = 0 ∧ sIx items.size items.size hi = items.size))
    (h : Q (.ref s.heap.objs.size) { s with heap := s.heap.push { cls := .type "tuple", data := .seq ((items.toList.drop (sIx items.size 0 lo)).take (sIx items.size items.size hi - sIx items.size 0 lo)).toArray } })
    (hsz : items.size ≤ sizeLine) : wpAny (model prog w) A (getItem (.ref t) (.ref sl)) Q E s := by
  have htake : sizeOk (.seq ((items.toList.drop (sIx items.size 0 lo)).take (sIx items.size items.size hi - sIx items.size 0 lo)).toArray) := by
    show ((items.toList.drop (sIx items.size 0 lo)).take (sIx items.size items.size hi - sIx items.size 0 lo)).toArray.size ≤ sizeLine
    rw [List.size_toArray, List.length_take, List.length_drop, Array.length_toList]
    omega
  have hj : sIx items.size items.size hi ≤ items.size := sIx_le _ _ (Nat.le_refl _) hi
  obtain ⟨os, hos, hcs, hds⟩ := id hs
  have hTs : s.TypeIs (.ref sl) "slice" := ⟨os, hos, hcs⟩
  unfold getItem
  try with_reducible refine wpAny_holding ?_
  first | refine wpAny_bind (wpAny_pure ?_) | skip
  refine wpAny_bind (wpAny_sequenceKey ht.typeIs (by decide) ?_)
  refine wpAny_bind (wpAny_callSpecial?_slot (name := Str.ofString "__getitem__") ht.typeIs PyProof.Rows.slot_tuple_getitem
    (wpAny_call_entry PyProof.Rows.slot_tuple_getitem ht.typeIs entry_tuple_getitem ?_ (args_tuple_getitem _ _)))
  show wpAny _ _ (Builtin.Tuple.tupleItemsOf (.ref t) >>= _) _ _ s
  refine wpAny_bind (tupleItemsOf_ ht ?_)
  refine wpAny_bind (wpAny_typeOf hTs ?_)
  rw [if_pos (by decide)]
  refine wpAny_bind (sliceApplied_gen hs pl pu ?_)
  have hno : ¬ ((((sIx items.size 0 lo : Nat) : Int) == 0 && (1 : Int) == 1 && (sIx items.size items.size hi - sIx items.size 0 lo) == items.size) = true) := by
    intro q
    rw [Bool.and_eq_true, Bool.and_eq_true] at q
    have q1 : ((sIx items.size 0 lo : Nat) : Int) = 0 := eq_of_beq q.1.1
    have q2 : sIx items.size items.size hi - sIx items.size 0 lo = items.size := eq_of_beq q.2
    exact hw ⟨by omega, by omega⟩
  show wpAny _ _ (if (((sIx items.size 0 lo : Nat) : Int) == 0 && (1 : Int) == 1 && (sIx items.size items.size hi - sIx items.size 0 lo) == items.size) = true then _ else _) _ _ s
  rw [if_neg hno, pick_gen]
  first
    | exact wpAny_bind (m := Builtin.Tuple.tupleExact _) (wpAny_newObj_type (wpAny_pure ⟨_, rfl, wpAny_pure h⟩) htake)
    | exact wpAny_bind (m := Builtin.Tuple.tupleExact _) (wpAny_newObj_type (wpAny_bind (wpAny_pure (wpAny_pure ⟨_, rfl, wpAny_pure h⟩))) htake)
    | exact wpAny_bind (wpAny_bind (m := Builtin.Tuple.tupleExact _) (wpAny_newObj_type (wpAny_pure (wpAny_pure ⟨_, rfl, wpAny_pure h⟩)) htake))
    | exact wpAny_bind (wpAny_bind (m := Builtin.Tuple.tupleExact _) (wpAny_newObj_type (wpAny_pure ⟨_, rfl, wpAny_pure h⟩) htake))
end
end HT

namespace L2
open PySem PySem.Spec PyProof.Rows

/-! ### the parts of a slice -/
abbrev TO := St → Hp → (Option Int → Hp → Prop) → Prop
/-- a slice's part (left out, or an int) -/
structure PO (X : Cx) (e : Option Expr) (t : TO) : Prop where
  mk ::
  go :
  ∀ (pins : List (Addr × Obj)) (s : Shared) (σ : St) (H : Hp) (Q : Option Int → Hp → Prop), Inv X pins σ H s → t σ H Q →
    wpAny (model X.prog X.w) X.A (evalPart e X.env) (fun u s' => ∃ o H', Inv X pins σ H' s' ∧ IsPart u o ∧ Q o H') X.xe s
instance {X : Cx} {e : Option Expr} {t : TO} : CoeFun (PO X e t) (fun _ =>
  ∀ (pins : List (Addr × Obj)) (s : Shared) (σ : St) (H : Hp) (Q : Option Int → Hp → Prop), Inv X pins σ H s → t σ H Q →
    wpAny (model X.prog X.w) X.A (evalPart e X.env) (fun u s' => ∃ o H', Inv X pins σ H' s' ∧ IsPart u o ∧ Q o H') X.xe s) := ⟨PO.go⟩
def tNoPart : TO := fun _ H Q => Q none H
def tPart (t : TE) : TO := fun σ H Q => t σ H fun x H1 => ∃ i, x = .int i ∧ Q (some i) H1

theorem intsAre_of {ns : List Int} : ∀ {us : List Value}, Vals (ns.map V.int) us → IntsAre us ns := by
  induction ns with
  | nil => intro us r; rw [List.map_nil] at r; cases r; exact .nil
  | cons n ns ih =>
    intro us r
    rw [List.map_cons] at r
    cases r with
    | cons r1 r2 =>
      obtain ⟨t, e⟩ := r1
      subst e
      exact .cons n t (ih r2)

section
variable {X : Cx} {e : Expr} {te : TE} {lo hi : Option Expr} {tl th : TO} {pos p2 : Pos}

theorem po_none : PO X none tNoPart := by
  refine .mk ?_
  intro pins s σ H Q I h
  rw [evalPart_none]
  exact wpAny_pure ⟨none, H, I, .none, h⟩
theorem po_some (h : PE X e te) : PO X (some e) (tPart te) := by
  refine .mk ?_
  intro pins s σ H Q I hw
  rw [evalPart_some]
  refine thn (h pins s σ H _ I hw) fun u s1 ⟨x, H1, I1, r1, q1⟩ => ?_
  obtain ⟨i, rfl, q⟩ := q1
  obtain ⟨t, rfl⟩ := r1
  exact ⟨some i, H1, I1, .int i t, q⟩

/-- what a slice of a value is, by values: the slice object stands at sl -/
structure SlR (X : Cx) (r : V → Option Int → Option Int → Hp → VK → Prop) : Prop where
  mk ::
  go :
  ∀ (pins : List (Addr × Obj)) (s : Shared) (σ : St) (H : Hp) (x : V) (v vl vu : Value) (lo hi : Option Int) (sl : Addr) (Q : VK), Inv X pins σ H s → RelV x v → s.heap.IsSliceOf sl vl vu .none → IsPart vl lo → IsPart vu hi → r x lo hi H Q →
    ∃ T id, typeLookup (.type T) "__getitem__" = pure (some (.builtin id)) ∧ s.TypeIs v T ∧ wpAny (model X.prog X.w) X.A (getItem v (.ref sl)) (EP X pins σ Q) X.xe s
instance {X : Cx} {r : V → Option Int → Option Int → Hp → VK → Prop} : CoeFun (SlR X r) (fun _ =>
  ∀ (pins : List (Addr × Obj)) (s : Shared) (σ : St) (H : Hp) (x : V) (v vl vu : Value) (lo hi : Option Int) (sl : Addr) (Q : VK), Inv X pins σ H s → RelV x v → s.heap.IsSliceOf sl vl vu .none → IsPart vl lo → IsPart vu hi → r x lo hi H Q →
    ∃ T id, typeLookup (.type T) "__getitem__" = pure (some (.builtin id)) ∧ s.TypeIs v T ∧ wpAny (model X.prog X.w) X.A (getItem v (.ref sl)) (EP X pins σ Q) X.xe s) := ⟨SlR.go⟩
theorem SlR.or {r r' : V → Option Int → Option Int → Hp → VK → Prop} (h : SlR X r) (h' : SlR X r') : SlR X (fun x lo hi H Q => r x lo hi H Q ∨ r' x lo hi H Q) := by
  refine .mk ?_
  intro pins s σ H x v vl vu lo hi sl Q I rx hs pl pu q
  rcases q with q | q
  · exact h pins s σ H x v vl vu lo hi sl Q I rx hs pl pu q
  · exact h' pins s σ H x v vl vu lo hi sl Q I rx hs pl pu q
def tSl (r : V → Option Int → Option Int → Hp → VK → Prop) (te : TE) (tl th : TO) : TE := fun σ H Q => te σ H fun x H1 => tl σ H1 fun l H2 => th σ H2 fun u H3 => r x l u H3 Q
/-- a[lo:hi], any a -/
theorem pe_slice {r : V → Option Int → Option Int → Hp → VK → Prop} (hr : SlR X r) (he : PE X e te) (hl : PO X lo tl) (hu : PO X hi th) : PE X (.Subscript e (.Slice lo hi none p2) pos) (tSl r te tl th) := by
  refine .mk ?_
  intro pins s σ H Q I h
  refine Subscript_ (thn (he pins s σ H _ I h) fun v s1 ⟨x, H1, I1, r1, q1⟩ => ?_)
  refine wpAny_Slice (thn (hl pins s1 σ H1 _ I1 q1) fun vl s2 ⟨l, H2, I2, pl, q2⟩ => thn (hu pins s2 σ H2 _ I2 q2) fun vu s3 ⟨u, H3, I3, pu, q3⟩ => ?_)
  rw [evalPart_none]
  refine wpAny_pure ?_
  have I4 : Inv X pins σ H3 { s3 with heap := s3.heap.push { cls := .type "slice", data := .fields #[vl, vu, .none] } } := I3.kept (t' := s3.toks) fun b ob q => Heap.get?_push_of_some _ q
  obtain ⟨T, id, hT, ht, hg⟩ := hr pins { s3 with heap := s3.heap.push { cls := .type "slice", data := .fields #[vl, vu, .none] } } σ H3 x v vl vu l u s3.heap.objs.size Q I4 r1 (Heap.IsSliceOf.new ..) pl pu q3
  show wpAny (model X.prog X.w) X.A (subscriptTail e (.Slice lo hi none p2) v (.ref s3.heap.objs.size)) (EP X pins σ Q) X.xe { s3 with heap := s3.heap.push { cls := .type "slice", data := .fields #[vl, vu, .none] } }
  exact tail_any (ops := [.ref s3.heap.objs.size, v]) ht hT hg (by with_unfolding_all rfl)

/-- the items of xs[lo:hi] -/
def cutV (xs : List V) (lo hi : Option Int) : List V := (xs.drop (HT.sIx xs.length 0 lo)).take (HT.sIx xs.length xs.length hi - HT.sIx xs.length 0 lo)
theorem cutV_length (xs : List V) (lo hi : Option Int) : (cutV xs lo hi).length ≤ xs.length := by
  unfold cutV
  rw [List.length_take, List.length_drop]
  omega
/-- t[lo:hi], not the whole of it (the whole would be t itself) -/
def rSlT (K : PySem.W.Frag) : V → Option Int → Option Int → Hp → VK → Prop := fun x lo hi H Q => ∃ a xs, x = .ref a ∧ SqT K H a xs ∧
  ¬ (HT.sIx xs.length 0 lo = 0 ∧ HT.sIx xs.length xs.length hi = xs.length) ∧ ∀ p, H p = none → Q (.ref p) (upd H p (.tup (cutV xs lo hi)))
theorem sl_tup : SlR X (rSlT X.K) := by
  refine .mk ?_
  intro pins s σ H x v vl vu lo hi sl Q I rx hs pl pu h
  obtain ⟨a, xs, rfl, hx, hw, q⟩ := h
  cases rx
  obtain ⟨its, r, ht, hz⟩ := I.tuple hx
  have hlen : its.toArray.size = xs.length := by rw [List.size_toArray]; exact r.length.symm
  refine ⟨"tuple", _, PyProof.Rows.slot_tuple_getitem.lookup, ht.typeIs, ?_⟩
  refine HT.getItem_tuple_cut ht hs pl pu (by rw [hlen]; exact hw) ?_ (by rw [hlen]; exact hz)
  rw [hlen]
  refine ⟨.ref s.heap.objs.size, _, I.laid (t' := s.toks) (o := .tup (cutV xs lo hi)) (fun b ob q => Heap.get?_push_of_some _ q) (Nat.le_refl _) ?_, rfl, q _ (I.hok.fresh (Nat.le_refl _))⟩
  exact ⟨Nat.le_trans (cutV_length xs lo hi) hz, _, (r.drop (HT.sIx xs.length 0 lo)).take (HT.sIx xs.length xs.length hi - HT.sIx xs.length 0 lo), IsTup.new _ _⟩

/-! ### t < u, t + u -/
def rLtT (K : PySem.W.Frag) : R2 := fun x y H Q => ∃ a b ns ms, x = .ref a ∧ y = .ref b ∧ SqT K H a (ns.map V.int) ∧ SqT K H b (ms.map V.int) ∧ Q (.bl (HT.lexLt ns ms)) H
theorem op_ltT (hu : X.A.units < cLine) : OpR X (compareOp .Lt) (rLtT X.K) := by
  refine .mk ?_
  intro pins s σ H x y v u Q I rx ry h
  obtain ⟨a, b, ns, ms, rfl, rfl, ha, hb, q⟩ := h
  cases rx
  cases ry
  obtain ⟨its, r1, p1, _⟩ := I.tuple ha
  obtain ⟨its2, r2, p2, _⟩ := I.tuple hb
  have i1 : IntsAre its.toArray.toList ns := intsAre_of r1
  have i2 : IntsAre its2.toArray.toList ms := intsAre_of r2
  exact HT.lt_tupInts p1 p2 i1 i2 hu ⟨.bl (HT.lexLt ns ms), H, I, rfl, q⟩
/-- t + u, t not empty: u empty gives t itself -/
def rCatT (K : PySem.W.Frag) : R2 := fun x y H Q => ∃ a b xs ys, x = .ref a ∧ y = .ref b ∧ SqT K H a xs ∧ SqT K H b ys ∧ xs ≠ [] ∧ xs.length + ys.length ≤ sizeLine ∧
  (ys = [] → Q (.ref a) H) ∧ (ys ≠ [] → ∀ p, H p = none → Q (.ref p) (upd H p (.tup (xs ++ ys))))
theorem Vals.nil_iff {xs : List V} {us : List Value} (r : Vals xs us) : us = [] ↔ xs = [] := by
  cases r with
  | nil => simp
  | cons _ _ => simp
theorem op_catT : OpR X (binaryOp .Add) (rCatT X.K) := by
  refine .mk ?_
  intro pins s σ H x y v u Q I rx ry h
  obtain ⟨a, b, xs, ys, rfl, rfl, ha, hb, hx, hz, q1, q2⟩ := h
  cases rx
  cases ry
  obtain ⟨its, r1, p1, _⟩ := I.tuple ha
  obtain ⟨its2, r2, p2, _⟩ := I.tuple hb
  refine HT.cat_tup p1 p2 (fun z => hx (r1.nil_iff.mp z)) (fun z => ⟨.ref a, H, I, rfl, q1 (r2.nil_iff.mp z)⟩) (fun z => ?_) (by rw [← r1.length, ← r2.length]; exact hz)
  refine ⟨.ref s.heap.objs.size, _, I.laid (t' := s.toks) (o := .tup (xs ++ ys)) (fun b ob q => Heap.get?_push_of_some _ q) (Nat.le_refl _) ?_, rfl, q2 (fun w => z (r2.nil_iff.mpr w)) _ (I.hok.fresh (Nat.le_refl _))⟩
  exact ⟨by rw [List.length_append]; exact hz, _, r1.append r2, IsTup.new _ _⟩
/-- tuple(t) -/
theorem call_tupleT : CallR X (.type "tuple") (fun xs H Q => ∃ a ys, xs = [.ref a] ∧ SqT X.K H a ys ∧ Q (.ref a) H) := by
  refine .mk ?_
  intro pins s σ H xs us Q I r h
  obtain ⟨a, ys, rfl, ha, q⟩ := h
  obtain ⟨u, rfl, ru⟩ := vals1 r
  cases ru
  obtain ⟨its, _, p1, _⟩ := I.tuple ha
  exact call_tuple_same (items := its.toArray) p1 ⟨.ref a, H, I, rfl, q⟩
end
end L2

namespace L2
open PySem PySem.Spec PyProof.Rows

/-! ### places -/
/-- the place that an index of any sign means -/
def ixN (n : Nat) (i : Int) : Option Nat := if 0 ≤ i then (if i < n then some i.toNat else none) else if -(n : Int) ≤ i then some (i + n).toNat else none
def atI {α : Type} (xs : List α) (i : Int) : Option α := (ixN xs.length i).bind fun j => xs[j]?
theorem ixN_seq {n : Nat} {i : Int} {j : Nat} (h : ixN n i = some j) : seqIndex? i n = some j ∧ j < n ∧ -(n : Int) ≤ i ∧ i < n := by
  unfold ixN at h
  by_cases h0 : 0 ≤ i
  · rw [if_pos h0] at h
    by_cases h1 : i < n
    · rw [if_pos h1] at h
      have e : i.toNat = j := Option.some.inj h
      exact ⟨by rw [seqIndex_of h0 h1, e], by omega, by omega, h1⟩
    · rw [if_neg h1] at h; cases h
  · rw [if_neg h0] at h
    by_cases h1 : -(n : Int) ≤ i
    · rw [if_pos h1] at h
      have e : (i + n).toNat = j := Option.some.inj h
      exact ⟨by rw [seqIndex_neg (by omega) h1, e], by omega, h1, by omega⟩
    · rw [if_neg h1] at h; cases h
theorem atI_get {α : Type} {xs : List α} {i : Int} {v : α} (h : atI xs i = some v) : ∃ j, seqIndex? i xs.length = some j ∧ xs[j]? = some v ∧ j < xs.length ∧ -(xs.length : Int) ≤ i ∧ i < xs.length := by
  unfold atI at h
  cases e : ixN xs.length i with
  | none => rw [e] at h; cases h
  | some j =>
    rw [e] at h
    obtain ⟨h1, h2, h3, h4⟩ := ixN_seq e
    exact ⟨j, h1, h, h2, h3, h4⟩
theorem atI_nat {α : Type} {xs : List α} {j : Nat} {v : α} (h : xs[j]? = some v) : atI xs (j : Int) = some v := by
  have hj : j < xs.length := (List.getElem?_eq_some_iff.mp h).1
  have e : ixN xs.length (j : Int) = some j := by
    unfold ixN
    rw [if_pos (by omega), if_pos (by omega)]; simp
  unfold atI; rw [e]; exact h
theorem atI_last {α : Type} (xs : List α) (v : α) : atI (xs ++ [v]) (-1) = some v := by
  have hl : (xs ++ [v]).length = xs.length + 1 := by simp
  have e : ixN (xs ++ [v]).length (-1) = some xs.length := by
    unfold ixN
    rw [hl, if_neg (by decide), if_pos (by omega)]
    congr 1
    omega
  unfold atI
  rw [e]
  show (xs ++ [v])[xs.length]? = some v
  simp

/-! ### what may be subscripted -/
/-- what stands as an index of a plain subscript -/
def PlainIx (b : Expr) : Prop := ∀ o i, subscripted b false o i = operate [o, i] (getItem o i)
/-- a subscript by values -/
structure IxR (X : Cx) (r : R2) : Prop where
  mk ::
  go :
  ∀ (value slice : Expr) (pins : List (Addr × Obj)) (s : Shared) (σ : St) (H : Hp) (x y : V) (v u : Value) (Q : VK), Inv X pins σ H s → RelV x v → RelV y u → r x y H Q →
    subscripted slice false v u = operate [v, u] (getItem v u) → wpAny (model X.prog X.w) X.A (subscriptTail value slice v u) (EP X pins σ Q) X.xe s
instance {X : Cx} {r : R2} : CoeFun (IxR X r) (fun _ =>
  ∀ (value slice : Expr) (pins : List (Addr × Obj)) (s : Shared) (σ : St) (H : Hp) (x y : V) (v u : Value) (Q : VK), Inv X pins σ H s → RelV x v → RelV y u → r x y H Q →
    subscripted slice false v u = operate [v, u] (getItem v u) → wpAny (model X.prog X.w) X.A (subscriptTail value slice v u) (EP X pins σ Q) X.xe s) := ⟨IxR.go⟩
/-- a call of a builtin's method by values: the receiver, the arguments -/
def MtR (X : Cx) (id : String) (r : V → List V → Hp → VK → Prop) : Prop :=
  ∀ (pins : List (Addr × Obj)) (s : Shared) (σ : St) (H : Hp) (x : V) (xs : List V) (v : Value) (us : List Value) (Q : VK), Inv X pins σ H s → RelV x v → Vals xs us → r x xs H Q →
    wpAny (model X.prog X.w) X.A (call (.builtin id) (v :: us)) (EP X pins σ Q) X.xe s
section
variable {X : Cx} {a b : Expr} {ta tb : TE} {pos : Pos}
theorem IxR.or {r r' : R2} (h : IxR X r) (h' : IxR X r') : IxR X (fun x y H Q => r x y H Q ∨ r' x y H Q) := by
  refine .mk ?_
  intro value slice pins s σ H x y v u Q I rx ry q hs
  rcases q with q | q
  · exact h value slice pins s σ H x y v u Q I rx ry q hs
  · exact h' value slice pins s σ H x y v u Q I rx ry q hs
theorem MtR.or {id : String} {r r' : V → List V → Hp → VK → Prop} (h : MtR X id r) (h' : MtR X id r') : MtR X id (fun x xs H Q => r x xs H Q ∨ r' x xs H Q) := by
  intro pins s σ H x xs v us Q I rx rs q
  rcases q with q | q
  · exact h pins s σ H x xs v us Q I rx rs q
  · exact h' pins s σ H x xs v us Q I rx rs q
/-- a[b] -/
theorem pe_ix {r : R2} (hr : IxR X r) (ha : PE X a ta) (hb : PE X b tb) (hs : PlainIx b) : PE X (.Subscript a b pos) (tOp r ta tb) := by
  refine .mk ?_
  intro pins s σ H Q I h
  exact Subscript_ (binT ha hb I h fun v u s2 x y H2 I2 rx ry q => hr a b pins s2 σ H2 x y v u Q I2 rx ry q (hs _ _))

def rIxL (K : PySem.W.Frag) : R2 := fun x y H Q => ∃ p xs i v, x = .ref p ∧ y = .int i ∧ SqL K H p xs ∧ atI xs i = some v ∧ Q v H
def rIxT (K : PySem.W.Frag) : R2 := fun x y H Q => ∃ p xs i v, x = .ref p ∧ y = .int i ∧ SqT K H p xs ∧ atI xs i = some v ∧ Q v H
def rIxS : R2 := fun x y H Q => ∃ z i c, x = .str z ∧ y = .int i ∧ z.length ≤ sizeLine ∧ atI z.cps.toList i = some c ∧ Q (.str ⟨#[c]⟩) H
theorem ix_list : IxR X (rIxL X.K) := by
  refine .mk ?_
  intro value slice pins s σ H x y v u Q I rx ry h hs
  obtain ⟨p, xs, i, z, rfl, rfl, hq, he, q⟩ := h
  cases rx
  obtain ⟨t, rfl⟩ := ry
  obtain ⟨its, r, pl, hz⟩ := I.list hq
  obtain ⟨j, h1, h2, h3, h4, h5⟩ := atI_get he
  obtain ⟨w, ew, rw'⟩ := r.get h2
  have hl := r.length
  have hn := line63
  have fin : EP X pins σ Q w s := ⟨z, H, I, rw', q⟩
  by_cases h0 : 0 ≤ i
  · have hj : i.toNat = j := by
      rw [seqIndex_of h0 h5] at h1
      exact Option.some.inj h1
    exact item_listR pl.isList h0 (by omega) (by rw [hj]; simpa using ew) fin hs
  · have hj : (i + (its.toArray.size : Int)).toNat = j := by
      rw [seqIndex_neg (by omega) h4] at h1
      rw [List.size_toArray, ← hl]
      exact Option.some.inj h1
    exact subscriptTail_builtinR (x := w) pl.isList.typeIs slot_list_getitem.lookup
      (wpAny_getItem_list_neg (Q := fun r s' => r = w ∧ EP X pins σ Q r s') pl.isList (by omega) (by rw [List.size_toArray] <;> omega) (by omega) (by rw [hj]; simpa using ew) ⟨rfl, fin⟩) hs
theorem ix_tup : IxR X (rIxT X.K) := by
  refine .mk ?_
  intro value slice pins s σ H x y v u Q I rx ry h hs
  obtain ⟨p, xs, i, z, rfl, rfl, hq, he, q⟩ := h
  cases rx
  obtain ⟨t, rfl⟩ := ry
  obtain ⟨its, r, pl, hz⟩ := I.tuple hq
  obtain ⟨j, h1, h2, h3, h4, h5⟩ := atI_get he
  obtain ⟨w, ew, rw'⟩ := r.get h2
  have hl := r.length
  have hn := line63
  have fin : EP X pins σ Q w s := ⟨z, H, I, rw', q⟩
  exact subscriptTail_builtinR (x := w) pl.typeIs slot_tuple_getitem.lookup
    (getItem_tuple (j := j) (Q := fun r s' => r = w ∧ EP X pins σ Q r s') pl (by omega) (by omega) (by rw [List.size_toArray, ← hl]; exact h1) (by simpa using ew) ⟨rfl, fin⟩) hs
theorem ix_str : IxR X rIxS := by
  refine .mk ?_
  intro value slice pins s σ H x y v u Q I rx ry h hs
  obtain ⟨z, i, c, rfl, rfl, hz, he, q⟩ := h
  obtain ⟨t, rfl⟩ := rx
  obtain ⟨t', rfl⟩ := ry
  obtain ⟨j, h1, h2, h3, h4, h5⟩ := atI_get he
  have hl : z.cps.toList.length = z.length := by simp [Str.length]
  rw [hl] at h1 h4 h5
  have hn := line63
  exact tail_any (typeIs_str s z t) slot_str_getitem.lookup (getItem_str (c := c) (by
    have e1 : decide (i < -(2 ^ 63 : Int)) = false := decide_eq_false (by omega)
    have e2 : decide (i ≥ 2 ^ 63) = false := decide_eq_false (by omega)
    rw [e1, e2, Bool.or_false]) (by rw [h1]; simpa using h2) ⟨.str ⟨#[c]⟩, H, I.tok _, ⟨_, rfl⟩, q⟩) hs
/-- list, tuple or str -/
def rIx (K : PySem.W.Frag) : R2 := fun x y H Q => rIxL K x y H Q ∨ rIxT K x y H Q ∨ rIxS x y H Q
theorem ix_seq : IxR X (rIx X.K) := ix_list.or (ix_tup.or ix_str)

/-! ### xs[i] = v, any sign -/
/-- the list's object behind a store -/
theorem mapSeq_set (its : List Value) (n j : Nat) (u : Value) : Obj.mapSeq (·.setIfInBounds j u) { cls := .type "list", data := .seq its.toArray n } = { cls := .type "list", data := .seq (its.set j u).toArray n } := by
  simp [Obj.mapSeq]
theorem Inv.lst {pins : List (Addr × Obj)} {σ : St} {H : Hp} {s : Shared} {p : Addr} {xs : List V} (I : Inv X pins σ H s) (h : H p = some (.lst xs)) :
    ∃ (its : List Value) (n : Nat), Vals xs its ∧ s.heap.get? p = some { cls := .type "list", data := .seq its.toArray n } ∧ xs.length ≤ sizeLine := by
  obtain ⟨z, its, n, r, e⟩ := I.hok p _ h
  exact ⟨its, n, r, e, z⟩
/-- the list at p is written by an update of its object -/
theorem Inv.lstUpd {pins : List (Addr × Obj)} {σ : St} {H : Hp} {s : Shared} {p : Addr} {xs ys : List V} {its its' : List Value} {n n' : Nat} {f : Obj → Obj} (I : Inv X pins σ H s) (h : H p = some (.lst xs))
    (ho : s.heap.get? p = some { cls := .type "list", data := .seq its.toArray n }) (hf : f { cls := .type "list", data := .seq its.toArray n } = { cls := .type "list", data := .seq its'.toArray n' }) (r : Vals ys its') (hz : ys.length ≤ sizeLine) (t : Nat) :
    Inv X pins σ (upd H p (.lst ys)) { s with heap := s.heap.update p f, toks := t } := by
  have e : (s.heap.update p f).get? p = some { cls := .type "list", data := .seq its'.toArray n' } := by
    rw [Heap.get?_update_self f ho (by rw [hf] <;> rfl), hf]
  refine I.write (x := p) (e := p) (by rw [h]; trivial) (.inl rfl) (fun b u hb q => (Heap.get?_update_other _ _ (Ne.symm hb)).trans q) ⟨_, e⟩ ?_
  exact ⟨hz, its', n', r, e⟩
def rSetL : V → V → V → Hp → (Hp → Prop) → Prop := fun o i v H Q => ∃ p xs k j, o = .ref p ∧ i = .int k ∧ H p = some (.lst xs) ∧ ixN xs.length k = some j ∧ Q (upd H p (.lst (xs.set j v)))
theorem set_list : PSet X rSetL := by
  refine .mk ?_
  intro pins s σ H o i v ov iv u Q I ro ri rv h
  obtain ⟨p, xs, k, j, rfl, rfl, hp, hj, q⟩ := h
  cases ro
  obtain ⟨t, rfl⟩ := ri
  obtain ⟨its, n, r, ho, hz⟩ := I.lst hp
  obtain ⟨h1, h2, h3, h4⟩ := ixN_seq hj
  have hl := r.length
  have hn := line63
  have I' : Inv X pins σ (upd H p (.lst (xs.set j v))) { s with heap := s.heap.update p (Obj.mapSeq (·.setIfInBounds j u)) } :=
    I.lstUpd hp ho (mapSeq_set its n j u) (r.set rv j) (by rw [List.length_set]; exact hz) s.toks
  by_cases h0 : 0 ≤ k
  · have hk : k.toNat = j := by
      rw [seqIndex_of h0 h4] at h1
      exact Option.some.inj h1
    exact PySem.W.ki_setAt ho h0 (by omega) (by rw [List.size_toArray, ← hl]; exact h4) (by rw [hk]; exact ⟨_, I', q⟩)
  · have hk : (k + (its.toArray.size : Int)).toNat = j := by
      rw [seqIndex_neg (by omega) h3] at h1
      rw [List.size_toArray, ← hl]
      exact Option.some.inj h1
    exact PySem.W.ki_setBack ho (by omega) (by rw [List.size_toArray, ← hl]; exact h3) (by omega) (by rw [hk]; exact ⟨_, I', q⟩)

/-! ### slices -/
theorem slice_bounds (lo hi : Option Int) (n : Nat) : (sliceBounds lo hi none n).1 = ((HT.sIx n 0 lo : Nat) : Int) ∧ (sliceBounds lo hi none n).2.1 = ((HT.sIx n n hi : Nat) : Int) ∧ (sliceBounds lo hi none n).2.2 = 1 := by
  refine ⟨?_, ?_, rfl⟩
  · cases lo with
    | none => simp [sliceBounds, HT.sIx]
    | some i =>
      simp only [sliceBounds, HT.sIx, Option.getD_none, show (1 : Int) > 0 by decide, if_true]
      by_cases h : i < 0
      · simp only [h, if_true] <;> omega
      · simp only [h, if_false] <;> omega
  · cases hi with
    | none => simp [sliceBounds, HT.sIx]
    | some i =>
      simp only [sliceBounds, HT.sIx, Option.getD_none, show (1 : Int) > 0 by decide, if_true]
      by_cases h : i < 0
      · simp only [h, if_true] <;> omega
      · simp only [h, if_false] <;> omega
theorem slicePick_cut (its : List Value) (lo hi : Option Int) : slicePick its.toArray lo hi none = ((its.drop (HT.sIx its.length 0 lo)).take (HT.sIx its.length its.length hi - HT.sIx its.length 0 lo)).toArray := by
  obtain ⟨h1, h2, h3⟩ := slice_bounds lo hi its.toArray.size
  unfold slicePick
  rw [h1, h2, h3]
  simp only [sliceRange_one, pick_run, List.size_toArray] <;> rfl
/-- xs[lo:hi] of a list: a new list -/
def rSlL (K : PySem.W.Frag) : V → Option Int → Option Int → Hp → VK → Prop := fun x lo hi H Q => ∃ a xs, x = .ref a ∧ SqL K H a xs ∧ ∀ p, H p = none → Q (.ref p) (upd H p (.lst (cutV xs lo hi)))
theorem sl_list : SlR X (rSlL X.K) := by
  refine .mk ?_
  intro pins s σ H x v vl vu lo hi sl Q I rx hs pl pu h
  obtain ⟨a, xs, rfl, hx, q⟩ := h
  cases rx
  obtain ⟨its, r, ht, hz⟩ := I.list hx
  have hlen := r.length
  refine ⟨"list", _, slot_list_getitem.lookup, ht.isList.typeIs, ?_⟩
  refine wpAny_getItem_list_slice ht.isList hs pl pu .none (by simp) ?_ (by rw [List.size_toArray] <;> omega)
  rw [slicePick_cut, ← hlen]
  refine ⟨.ref s.heap.objs.size, _, I.laid (t' := s.toks) (o := .lst (cutV xs lo hi)) (fun b ob q => Heap.get?_push_of_some _ q) (Nat.le_refl _) ?_, rfl, q _ (I.hok.fresh (Nat.le_refl _))⟩
  exact ⟨Nat.le_trans (cutV_length xs lo hi) hz, _, 0, (r.drop (HT.sIx xs.length 0 lo)).take (HT.sIx xs.length xs.length hi - HT.sIx xs.length 0 lo), Heap.get?_push_size _ rfl⟩

/-! ### in, not in: flat items -/
def flatV : V → Bool
  | .non => true
  | .bl _ => true
  | .int _ => true
  | .str _ => true
  | _ => false
/-- == of flat values -/
def eqV : V → V → Bool
  | .non, .non => true
  | .bl a, .bl b => a == b
  | .bl a, .int b => (if a then 1 else 0) == b
  | .int a, .bl b => a == (if b then 1 else 0)
  | .int a, .int b => a == b
  | .str a, .str b => a == b
  | _, _ => false
theorem eqAt_V {A : Around} {s : Shared} {y x : V} {u v : Value} (ry : RelV y u) (rx : RelV x v) (fy : flatV y = true) (fx : flatV x = true) : SeqAt.EqAt A s u v (eqV y x) := by
  cases y with
  | non =>
    cases ry
    cases x with
    | non => cases rx; exact SeqAt.EqAt.same _
    | bl b => cases rx; exact SeqAt.EqAt.none_bool b
    | int b => obtain ⟨t, rfl⟩ := rx; exact SeqAt.EqAt.none_int b t
    | str b => obtain ⟨t, rfl⟩ := rx; exact SeqAt.EqAt.none_str b t
    | _ => exact absurd (show false = true from fx) Bool.false_ne_true
  | bl a =>
    cases ry
    cases x with
    | non => cases rx; exact SeqAt.EqAt.bool_none a
    | bl b => cases rx; exact SeqAt.EqAt.bool_bool a b
    | int b => obtain ⟨t, rfl⟩ := rx; exact SeqAt.EqAt.bool_int a b t
    | str b => obtain ⟨t, rfl⟩ := rx; exact SeqAt.EqAt.bool_str a b t
    | _ => exact absurd (show false = true from fx) Bool.false_ne_true
  | int a =>
    obtain ⟨t', rfl⟩ := ry
    cases x with
    | non => cases rx; exact SeqAt.EqAt.int_none a t'
    | bl b => cases rx; exact SeqAt.EqAt.int_bool a t' b
    | int b => obtain ⟨t, rfl⟩ := rx; exact SeqAt.EqAt.int_int a t' b t
    | str b => obtain ⟨t, rfl⟩ := rx; exact SeqAt.EqAt.int_str a t' b t
    | _ => exact absurd (show false = true from fx) Bool.false_ne_true
  | str a =>
    obtain ⟨t', rfl⟩ := ry
    cases x with
    | non => cases rx; exact SeqAt.EqAt.str_none a t'
    | bl b => cases rx; exact SeqAt.EqAt.str_bool a t' b
    | int b => obtain ⟨t, rfl⟩ := rx; exact SeqAt.EqAt.str_int a t' b t
    | str b => obtain ⟨t, rfl⟩ := rx; exact SeqAt.EqAt.str_str a t' b t
    | _ => exact absurd (show false = true from fx) Bool.false_ne_true
  | _ => exact absurd (show false = true from fy) Bool.false_ne_true
/-- the items' answers, read off the values (a value's own answer does not lean on its token) -/
def eqU (x : V) (u : Value) : Bool := match u with
  | .none => eqV .non x
  | .bool b => eqV (.bl b) x
  | .int i _ => eqV (.int i) x
  | .str z _ => eqV (.str z) x
  | _ => false
theorem eqU_of {x y : V} {u : Value} (r : RelV y u) (f : flatV y = true) : eqU x u = eqV y x := by
  cases y with
  | non => cases r; rfl
  | bl b => cases r; rfl
  | int i => obtain ⟨t, rfl⟩ := r; rfl
  | str z => obtain ⟨t, rfl⟩ := r; rfl
  | _ => exact absurd (show false = true from f) Bool.false_ne_true
theorem any_eqU {x : V} : ∀ {xs : List V} {us : List Value}, Vals xs us → xs.all flatV = true → us.any (eqU x) = xs.any fun y => eqV y x
  | _, _, .nil, _ => rfl
  | y :: xs, u :: us, .cons r t, f => by
    rw [List.all_cons, Bool.and_eq_true] at f
    rw [List.any_cons, List.any_cons, eqU_of r f.1, any_eqU t f.2]
theorem mem_eqAt {A : Around} {s : Shared} {x : V} {v : Value} (rx : RelV x v) (fx : flatV x = true) : ∀ {xs : List V} {us : List Value}, Vals xs us → xs.all flatV = true → ∀ u ∈ us, SeqAt.EqAt A s u v (eqU x u)
  | _, _, .nil, _ => fun u hu => by cases hu
  | y :: xs, u :: us, .cons r t, f => fun u' hu => by
    rw [List.all_cons, Bool.and_eq_true] at f
    rcases List.mem_cons.mp hu with rfl | hu
    · rw [eqU_of r f.1]; exact eqAt_V r rx f.1 fx
    · exact mem_eqAt rx fx t f.2 u' hu
def inV (x : V) (xs : List V) : Bool := xs.any fun y => eqV y x
/-- x in a list or tuple of flat items -/
def rIn (K : PySem.W.Frag) (neg : Bool) : R2 := fun x y H Q => ∃ p xs, y = .ref p ∧ (SqL K H p xs ∨ SqT K H p xs) ∧ flatV x = true ∧ xs.all flatV = true ∧ Q (.bl (if neg then !inV x xs else inV x xs)) H
theorem op_in_seq : OpR X (compareOp .In) (rIn X.K false) := by
  refine .mk ?_
  intro pins s σ H x y v u Q I rx ry h
  obtain ⟨p, xs, rfl, hq, fx, fs, q⟩ := h
  cases ry
  rcases hq with hq | hq
  · obtain ⟨its, r, pl, hz⟩ := I.list hq
    refine SeqAt.in_listAt (eqU x) pl.isList (fun w hw => mem_eqAt rx fx r fs w (by simpa using hw)) ⟨.bl _, H, I, rfl, ?_⟩
    rw [show its.toArray.any (eqU x) = its.any (eqU x) by simp, any_eqU r fs]
    exact q
  · obtain ⟨its, r, pl, hz⟩ := I.tuple hq
    refine SeqAt.in_tupleAt (eqU x) pl (fun w hw => mem_eqAt rx fx r fs w (by simpa using hw)) ⟨.bl _, H, I, rfl, ?_⟩
    rw [show its.toArray.any (eqU x) = its.any (eqU x) by simp, any_eqU r fs]
    exact q
theorem op_notIn_seq : OpR X (compareOp .NotIn) (rIn X.K true) := by
  refine .mk ?_
  intro pins s σ H x y v u Q I rx ry h
  obtain ⟨p, xs, rfl, hq, fx, fs, q⟩ := h
  cases ry
  rcases hq with hq | hq
  · obtain ⟨its, r, pl, hz⟩ := I.list hq
    refine SeqAt.notIn_listAt (eqU x) pl.isList (fun w hw => mem_eqAt rx fx r fs w (by simpa using hw)) ⟨.bl _, H, I, rfl, ?_⟩
    rw [show its.toArray.any (eqU x) = its.any (eqU x) by simp, any_eqU r fs]
    exact q
  · obtain ⟨its, r, pl, hz⟩ := I.tuple hq
    refine SeqAt.notIn_tupleAt (eqU x) pl (fun w hw => mem_eqAt rx fx r fs w (by simpa using hw)) ⟨.bl _, H, I, rfl, ?_⟩
    rw [show its.toArray.any (eqU x) = its.any (eqU x) by simp, any_eqU r fs]
    exact q
theorem op_notIn_str : OpR X (compareOp .NotIn) (fun x y H Q => ∃ i j, x = .str i ∧ y = .str j ∧ Q (.bl (!(!(Builtin.Str.occurrences j i 0 j.length 1).isEmpty))) H) := by
  refine .mk ?_
  intro pins s σ H x y v u Q I rx ry h
  obtain ⟨i, j, rfl, rfl, q⟩ := h
  obtain ⟨t, rfl⟩ := rx
  obtain ⟨t', rfl⟩ := ry
  exact notIn_str ⟨.bl _, H, I, rfl, q⟩

/-! ### len, list(x), tuple(x) of any list or tuple that is read -/
theorem call_len_seq : CallR X (.builtin "len") (fun xs H Q => ∃ p ys, xs = [.ref p] ∧ (SqL X.K H p ys ∨ SqT X.K H p ys) ∧ Q (.int ys.length) H) := by
  refine .mk ?_
  intro pins s σ H xs us Q I r h
  obtain ⟨p, ys, rfl, hq, q⟩ := h
  obtain ⟨u, rfl, rx⟩ := vals1 r
  cases rx
  have hn := line63
  rcases hq with hq | hq
  · obtain ⟨its, r', pl, hz⟩ := I.list hq
    have hlen := r'.length
    exact Calls.call_len_list pl.isList (by simp only [List.size_toArray] <;> omega) ⟨.int ys.length, H, I.tok _, ⟨s.toks + 1, by rw [List.size_toArray, hlen]⟩, q⟩
  · obtain ⟨its, r', pl, hz⟩ := I.tuple hq
    have hlen := r'.length
    exact len_tuple pl (by simp only [List.size_toArray] <;> omega) ⟨.int ys.length, H, I.tok _, ⟨s.toks + 1, by rw [List.size_toArray, hlen]⟩, q⟩
theorem call_len_str : CallR X (.builtin "len") (fun xs H Q => ∃ z, xs = [.str z] ∧ z.length ≤ sizeLine ∧ Q (.int z.length) H) := by
  refine .mk ?_
  intro pins s σ H xs us Q I r h
  obtain ⟨z, rfl, hz, q⟩ := h
  obtain ⟨u, rfl, t, rfl⟩ := vals1 r
  have hn := line63
  exact len_str (by omega) ⟨.int z.length, H, I.tok _, ⟨_, rfl⟩, q⟩
theorem CallR.or {f : Value} {r r' : List V → Hp → VK → Prop} (h : CallR X f r) (h' : CallR X f r') : CallR X f (fun xs H Q => r xs H Q ∨ r' xs H Q) := by
  refine .mk ?_
  intro pins s σ H xs us Q I rs q
  rcases q with q | q
  · exact h pins s σ H xs us Q I rs q
  · exact h' pins s σ H xs us Q I rs q
theorem call_list_of : CallR X (.type "list") (fun xs H Q => ∃ p ys, xs = [.ref p] ∧ (SqL X.K H p ys ∨ SqT X.K H p ys) ∧ ∀ l, H l = none → Q (.ref l) (upd H l (.lst ys))) := by
  refine .mk ?_
  intro pins s σ H xs us Q I r h
  obtain ⟨p, ys, rfl, hq, q⟩ := h
  obtain ⟨u, rfl, rx⟩ := vals1 r
  cases rx
  have fin : ∀ (its : List Value), Vals ys its → ys.length ≤ sizeLine → ∀ (h' : Heap) (c' : Nat), (∀ b o', s.heap.get? b = some o' → h'.get? b = some o') →
      h'.get? s.heap.objs.size = some { cls := .type "list", dict := none, data := .seq its.toArray c', slots := #[] } → EP X pins σ Q (.ref s.heap.objs.size) { s with heap := h' } := fun its r' hz h' c' kp e =>
    ⟨.ref s.heap.objs.size, _, I.laid (t' := s.toks) kp (Nat.le_refl _) (show ObjOk X.prog X.w _ h' _ (.lst ys) from ⟨hz, its, c', r', e⟩), rfl, q _ (I.hok.fresh (Nat.le_refl _))⟩
  rcases hq with hq | hq
  · obtain ⟨its, r', pl, hz⟩ := I.list hq
    have hlen := r'.length
    obtain ⟨o, ho, hc, n, hd⟩ := pl.isList
    exact call_list_seq p (.inl rfl) ho hc hd (fun h' c' kp e => fin its r' hz h' c' kp e) (by simp only [List.size_toArray] <;> omega)
  · obtain ⟨its, r', pl, hz⟩ := I.tuple hq
    have hlen := r'.length
    obtain ⟨o, ho, hc, n, hd⟩ := pl
    exact call_list_seq p (.inr rfl) ho hc hd (fun h' c' kp e => fin its r' hz h' c' kp e) (by simp only [List.size_toArray] <;> omega)
theorem call_tuple_of : CallR X (.type "tuple") (fun xs H Q => ∃ p ys, xs = [.ref p] ∧ ((SqL X.K H p ys ∧ ∀ l, H l = none → Q (.ref l) (upd H l (.tup ys))) ∨ (SqT X.K H p ys ∧ Q (.ref p) H))) := by
  refine .mk ?_
  intro pins s σ H xs us Q I r h
  obtain ⟨p, ys, rfl, h⟩ := h
  obtain ⟨u, rfl, rx⟩ := vals1 r
  cases rx
  rcases h with ⟨hq, q⟩ | ⟨hq, q⟩
  · obtain ⟨its, r', pl, hz⟩ := I.list hq
    have hlen := r'.length
    refine call_tuple_list pl.isList (fun h' kp => ?_) (by simp only [List.size_toArray] <;> omega)
    have I1 : Inv X pins σ H { s with heap := h' } := I.kept (t' := s.toks) kp
    have I2 : Inv X pins σ (upd H h'.objs.size (.tup ys)) { s with heap := h'.push { cls := .type "tuple", data := .seq its.toArray } } :=
      I1.laid (t' := s.toks) (fun b o e => Heap.get?_push_of_some _ e) (Nat.le_refl _) (show ObjOk X.prog X.w _ _ _ (.tup ys) from ⟨hz, its, r', IsTup.new _ _⟩)
    exact ⟨.ref h'.objs.size, _, I2, rfl, q _ (I1.hok.fresh (Nat.le_refl _))⟩
  · obtain ⟨its, r', pl, hz⟩ := I.tuple hq
    exact call_tuple_same pl ⟨.ref p, H, I, rfl, q⟩

/-! ### the call of a builtin's method: o.m(..) -/
/-- the value is of that builtin type -/
def tyV (K : PySem.W.Frag) (T : String) (x : V) (H : Hp) : Prop := match x with
  | .str _ => T = "str"
  | .int _ => T = "int"
  | .ref p => (T = "list" ∧ ∃ xs, SqL K H p xs) ∨ (T = "tuple" ∧ ∃ o, K.lookup p = some o ∧ o.cls = .type "tuple" ∧ o.dict = none) ∨
      (T = "dict" ∧ ((∃ kvs, H p = some (.dK kvs)) ∨ ∃ kvs, H p = some (.dT kvs))) ∨ (T = "set" ∧ ∃ S n, H p = some (.set S n))
  | _ => False
theorem tyV_is {pins : List (Addr × Obj)} {σ : St} {H : Hp} {s : Shared} {T : String} {x : V} {v : Value} (I : Inv X pins σ H s) (r : RelV x v) (ty : tyV X.K T x H) :
    s.TypeIs v T ∧ ∀ a, v = .ref a → ∃ ob, s.heap.get? a = some ob ∧ ob.dict = none := by
  cases x with
  | str z =>
    obtain ⟨t, rfl⟩ := r
    cases (show T = "str" from ty)
    exact ⟨typeIs_str s z t, fun _ e => nomatch e⟩
  | int i =>
    obtain ⟨t, rfl⟩ := r
    cases (show T = "int" from ty)
    exact ⟨typeIs_int s i t, fun _ e => nomatch e⟩
  | ref p =>
    cases r
    rcases ty with ⟨rfl, xs, hq⟩ | ⟨rfl, o, hk, hc, hd⟩ | ⟨rfl, hk⟩ | ⟨rfl, S, n, hk⟩
    · obtain ⟨its, _, pl, _⟩ := I.list hq
      refine ⟨pl.isList.typeIs, fun a e => ?_⟩
      cases e
      obtain ⟨o, n, e, c, hd, _⟩ := pl
      exact ⟨o, e, hd⟩
    · refine ⟨⟨o, I.kIn p o hk, hc⟩, fun a e => ?_⟩
      cases e
      exact ⟨o, I.kIn _ o hk, hd⟩
    · have z : ∃ o, s.heap.get? p = some o ∧ o.ExactDict := by
        rcases hk with ⟨kvs, hk⟩ | ⟨kvs, hk⟩
        · obtain ⟨_, _, _, _, o, _, _, e, ex, _⟩ := I.hok p _ hk
          exact ⟨o, e, ex⟩
        · obtain ⟨_, _, _, _, o, _, _, e, ex, _⟩ := I.hok p _ hk
          exact ⟨o, e, ex⟩
      obtain ⟨o, e, ex⟩ := z
      refine ⟨⟨o, e, ex.1⟩, fun a e2 => ?_⟩
      cases e2
      exact ⟨o, e, ex.2.1⟩
    · obtain ⟨o, _, _, _, e, ex, _⟩ := I.hok p _ hk
      refine ⟨⟨o, e, ex.1⟩, fun a e2 => ?_⟩
      cases e2
      exact ⟨o, e, ex.2.1⟩
  | _ => exact False.elim ty
def tBM0 (K : PySem.W.Frag) (T : String) (r : V → List V → Hp → VK → Prop) (to : TE) : TE := fun σ H Q => to σ H fun x H1 => tyV K T x H1 ∧ r x [] H1 Q
def tBM (K : PySem.W.Frag) (T : String) (r : V → List V → Hp → VK → Prop) (to : TE) (t : TA) : TE := fun σ H Q => to σ H fun x H1 => tyV K T x H1 ∧ t σ H1 fun xs H2 => r x xs H2 Q
variable {o e : Expr} {es : List Expr} {to : TE} {t : TA} {name : Str} {apos cpos : Pos} {T id : String} {r : V → List V → Hp → VK → Prop}
theorem pe_bm0 (pa : PlainAttrs T) (slot : Slot T name id) (hty : typeOf (.builtin id) = pure (.type "method_descriptor")) (hm : MtR X id r) (ho : PE X o to)
    (hbase : attributeBase o name X.env (eval o X.env) = eval o X.env := by rfl) (hline : (apos.endLine == cpos.line) = true := by rfl) : PE X (.Call (.Attribute o name apos) [] [] cpos) (tBM0 X.K T r to) := by
  refine .mk ?_
  intro pins s σ H Q I h
  refine wpAny_Call_method0_late hbase hline (thn (ho pins s σ H _ I h) fun v s1 ⟨x, H1, I1, r1, ty, q1⟩ => ?_)
  obtain ⟨h1, h2⟩ := tyV_is I1 r1 ty
  exact ⟨T, id, pa, slot, hty, h1, h2, Calls.callWith_builtin rfl (PySem.evalArgs_none (hm pins s1 σ H1 x [] v [] Q I1 r1 .nil q1))⟩
theorem pe_bm (pa : PlainAttrs T) (slot : Slot T name id) (hty : typeOf (.builtin id) = pure (.type "method_descriptor")) (hm : MtR X id r) (ho : PE X o to) (ha : PA X (e :: es) t)
    (hbase : attributeBase o name X.env (eval o X.env) = eval o X.env := by rfl)
    (hfew : ((backTo cpos (starEach (e :: es) X.env)).all (fun x => !x.1) && (backToKw cpos (keywordEach [] X.env)).all (fun x => x.1.isSome)
      && decide ((e :: es).length + ([] : List Keyword).length + (if ([] : List Keyword).isEmpty then 0 else 1) < 30)) = true := by rfl)
    (hline : (apos.endLine == cpos.line) = true := by rfl) (hs : starEach (e :: es) X.env = (false, eval e X.env) :: starEach es X.env := by rfl) (hplain : (backTo cpos (starEach es X.env)).any (·.1) = false := by rfl) :
    PE X (.Call (.Attribute o name apos) (e :: es) [] cpos) (tBM X.K T r to t) := by
  refine .mk ?_
  intro pins s σ H Q I h
  refine wpAny_Call_method_late hbase hfew hline rfl (thn (ho pins s σ H _ I h) fun v s1 ⟨x, H1, I1, r1, ty, q1⟩ => ?_)
  obtain ⟨h1, h2⟩ := tyV_is I1 r1 ty
  refine ⟨T, id, pa, slot, hty, h1, h2, ?_⟩
  have hA := ha cpos pins s1 σ H1 _ I1 q1
  rw [hs] at hA ⊢
  refine Calls.callWith_builtin (by show (false || (backTo cpos (starEach es X.env)).any (·.1)) = false; rw [hplain] <;> rfl) (Calls.evalArgs_plain ?_)
  exact thn hA fun us s2 ⟨vs, H2, I2, r2, q2⟩ => hm pins s2 σ H2 x vs v us Q I2 r1 r2 q2
/- xs.append(e), list.index on a module's tuple .. are MtR facts of 06m -/
end
end L2

namespace L2
open PySem PySem.Spec PyProof.Rows

def MtM (X : Cx) (id : String) (r : V → List V → Hp → VK → Prop) : Prop :=
  ∀ (pins : List (Addr × Obj)) (s : Shared) (σ : St) (H : Hp) (x : V) (xs : List V) (v : Value) (us : List Value) (Q : VK), Inv X pins σ H s → RelV x v → Vals xs us → r x xs H Q →
    wpAny (model X.prog X.w) X.A (call (.builtin id) (v :: us)) (EP X pins σ Q) X.xe s

/-! ### lists of values -/
theorem Vals.one : ∀ {x : V} {us : List Value}, Vals [x] us → ∃ u, us = [u] ∧ RelV x u
  | _, _, .cons r .nil => ⟨_, rfl, r⟩
theorem Vals.two : ∀ {x y : V} {us : List Value}, Vals [x, y] us → ∃ u v, us = [u, v] ∧ RelV x u ∧ RelV y v
  | _, _, _, .cons r (.cons q .nil) => ⟨_, _, rfl, r, q⟩
theorem Vals.zero : ∀ {us : List Value}, Vals [] us → us = []
  | _, .nil => rfl
theorem Vals.dropLast {xs : List V} {us : List Value} (h : Vals xs us) : Vals xs.dropLast us.dropLast := by
  induction h with
  | nil => exact .nil
  | cons r t ih =>
    cases t with
    | nil => exact .nil
    | cons q t' => exact .cons r ih
theorem Vals.eraseIdx : ∀ {xs : List V} {us : List Value} (i : Nat), Vals xs us → Vals (xs.eraseIdx i) (us.eraseIdx i)
  | _, _, _, .nil => .nil
  | _, _, 0, .cons _ t => t
  | _, _, i + 1, .cons r t => .cons r (Vals.eraseIdx i t)
theorem Vals.reverse {xs : List V} {us : List Value} (h : Vals xs us) : Vals xs.reverse us.reverse := by
  induction h with
  | nil => exact .nil
  | cons r t ih => rw [List.reverse_cons, List.reverse_cons]; exact Vals.append ih (.cons r .nil)
theorem Vals.rep {xs : List V} {us : List Value} (h : Vals xs us) : ∀ k : Nat, Vals (List.replicate k xs).flatten (List.replicate k us).flatten
  | 0 => .nil
  | k + 1 => by
    rw [List.replicate_succ, List.replicate_succ, List.flatten_cons, List.flatten_cons]
    exact Vals.append h (Vals.rep h k)
theorem erase_last {α : Type} (l : List α) : l.eraseIdx (l.length - 1) = l.dropLast := by
  induction l with
  | nil => rfl
  | cons a r ih =>
    cases r with
    | nil => rfl
    | cons b r =>
      have e : (a :: b :: r).length - 1 = ((b :: r).length - 1) + 1 := by
        have h1 : (a :: b :: r).length = r.length + 2 := rfl
        have h2 : (b :: r).length = r.length + 1 := rfl
        omega
      rw [e, List.eraseIdx_cons_succ, ih]
      all_goals rfl
theorem len_erase {α : Type} : ∀ (l : List α) (i : Nat), (l.eraseIdx i).length ≤ l.length
  | [], _ => Nat.le_refl _
  | _ :: _, 0 => Nat.le_succ _
  | _ :: r, i + 1 => Nat.succ_le_succ (len_erase r i)
theorem foldl_rep (its : List Value) : ∀ (k : Nat) (acc : List Value),
    List.foldl (fun x1 x2 => x1 ++ x2) acc.toArray (List.replicate k its.toArray) = (acc ++ (List.replicate k its).flatten).toArray
  | 0, acc => by simp
  | k + 1, acc => by
    have e : acc.toArray ++ its.toArray = (acc ++ its).toArray := by simp
    have e2 : (acc ++ its) ++ (List.replicate k its).flatten = acc ++ (List.replicate (k + 1) its).flatten := by
      rw [List.replicate_succ, List.flatten_cons, List.append_assoc]
    rw [← e2, ← foldl_rep its k (acc ++ its), ← e, List.replicate_succ, List.foldl_cons]

section
variable {X : Cx} {pins : List (Addr × Obj)} {σ : St} {H : Hp} {s : Shared} {l b : Addr} {xs ys zs : List V}

/-! ### the two steps: a tracked list is rewritten, a new list is laid -/
theorem Inv.lset {its its' : List Value} {n : Nat} {f : Array Value → Array Value} {t' : Nat} (I : Inv X pins σ H s) (hH : H l = some (.lst xs))
    (e : s.heap.get? l = some { cls := .type "list", data := .seq its.toArray n }) (hf : f its.toArray = its'.toArray) (hv : Vals ys its') (hz : ys.length ≤ sizeLine) :
    Inv X pins σ (upd H l (.lst ys)) { s with heap := s.heap.update l (Obj.mapSeq f), toks := t' } := by
  have q := PySem.IsL.update e f
  rw [hf] at q
  refine I.write (x := l) (e := l) (by rw [hH]; exact trivial) (.inl rfl) (fun b' u hb hu => (Heap.get?_update_other s.heap (Obj.mapSeq f) (Ne.symm hb)).trans hu) ⟨_, q⟩ ?_
  exact ⟨hz, its', _, hv, q⟩
theorem Inv.lnew {its : List Value} {t' : Nat} (I : Inv X pins σ H s) (hv : Vals ys its) (hz : ys.length ≤ sizeLine) :
    Inv X pins σ (upd H s.heap.objs.size (.lst ys)) { s with heap := s.heap.push { cls := .type "list", data := .seq its.toArray }, toks := t' } :=
  I.laid (fun _ _ q => Heap.get?_push_of_some _ q) (Nat.le_refl _) ⟨hz, its, 0, hv, Heap.get?_push_size _ rfl⟩
theorem Inv.fresh (I : Inv X pins σ H s) : H s.heap.objs.size = none := I.hok.fresh (Nat.le_refl _)
theorem Inv.lstM (I : Inv X pins σ H s) (hH : H l = some (.lst xs)) : xs.length ≤ sizeLine ∧ ∃ (its : List Value) (n : Nat), Vals xs its ∧ xs.length = its.length ∧ s.heap.get? l = some { cls := .type "list", data := .seq its.toArray n } := by
  obtain ⟨z, its, n, r, e⟩ := I.hok l _ hH
  exact ⟨z, its, n, r, r.length, e⟩

theorem notLongL {n : Nat} (h : n ≤ sizeLine) : Builtin.List.listTooLong n = false := by
  unfold Builtin.List.listTooLong
  exact decide_eq_false (by omega)
end

section
variable {X : Cx}

/-! ### methods -/
def rAppend : V → List V → Hp → VK → Prop := fun x vs H Q => ∃ l xs y, x = .ref l ∧ vs = [y] ∧ H l = some (.lst xs) ∧ xs.length < sizeLine ∧ Q .non (upd H l (.lst (xs ++ [y])))
theorem mt_append : MtM X "list.append" rAppend := by
  intro pins s σ H x vs v us Q I rx rv h
  obtain ⟨l, xs, y, rfl, rfl, hH, hz, q⟩ := h
  cases rx
  obtain ⟨u, rfl, ru⟩ := rv.one
  obtain ⟨z, its, n, r, hl, e⟩ := I.lstM hH
  refine call_meets F.slot_list_append ⟨_, e, rfl⟩ F.entry_list_append (F.args_list_append_2 _ _) (PySem.list_append l its.toArray n u (by rw [List.size_toArray]; omega)) ⟨e, ?_⟩
  refine ⟨.non, _, I.lset (its' := its ++ [u]) hH e (by simp) (r.append (.cons ru .nil)) ?_, rfl, q⟩
  rw [List.length_append, List.length_singleton]
  omega

def rExtend : V → List V → Hp → VK → Prop := fun x vs H Q => ∃ l b xs zs, x = .ref l ∧ vs = [.ref b] ∧ H l = some (.lst xs) ∧ H b = some (.lst zs) ∧ xs.length + zs.length ≤ sizeLine ∧ Q .non (upd H l (.lst (xs ++ zs)))
theorem mt_extend : MtM X "list.extend" rExtend := by
  intro pins s σ H x vs v us Q I rx rv h
  obtain ⟨l, b, xs, zs, rfl, rfl, hH, hB, hz, q⟩ := h
  cases rx
  obtain ⟨u, rfl, ru⟩ := rv.one
  cases ru
  obtain ⟨z, its, n, r, hl, e⟩ := I.lstM hH
  obtain ⟨z2, its2, n2, r2, hl2, e2⟩ := I.lstM hB
  have hsz : its.toArray.size + its2.toArray.size ≤ sizeLine := by rw [List.size_toArray, List.size_toArray]; omega
  have hlong : ¬ (!its.toArray.isEmpty && Builtin.List.listTooLong (its.toArray.size + its2.toArray.size)) = true := by
    rw [notLongL hsz, Bool.and_false]
    exact Bool.false_ne_true
  refine call_meets F.slot_list_extend ⟨_, e, rfl⟩ F.entry_list_extend (F.args_list_extend_2 _ _)
    (AutoSeq1.list_extend_list_list_0 l its.toArray n b its2.toArray n2 hlong (by rw [List.size_toArray]; omega) (by omega)) ⟨e, e2, ?_⟩
  refine ⟨.non, _, I.lset (its' := its ++ its2) hH e (by simp) (r.append r2) ?_, rfl, q⟩
  rw [List.length_append]
  omega

def rPop : V → List V → Hp → VK → Prop := fun x vs H Q => ∃ l xs y, x = .ref l ∧ vs = [] ∧ H l = some (.lst xs) ∧ xs[xs.length - 1]? = some y ∧ Q y (upd H l (.lst xs.dropLast))
theorem mt_pop : MtM X "list.pop" rPop := by
  intro pins s σ H x vs v us Q I rx rv h
  obtain ⟨l, xs, y, rfl, rfl, hH, hy, q⟩ := h
  cases rx
  have hus := rv.zero
  subst hus
  obtain ⟨z, its, n, r, hl, e⟩ := I.lstM hH
  obtain ⟨u, hu, ru⟩ := r.get hy
  have hy' : its.toArray[its.toArray.size - 1]? = some u := by
    show its.toArray[its.length - 1]? = some u
    rw [← Array.getElem?_toList, ← hl]
    exact hu
  refine call_meets F.slot_list_pop ⟨_, e, rfl⟩ F.entry_list_pop (F.args_list_pop_1 _) (MeetsSeq.list_pop_last l its.toArray n u hy' (by rw [List.size_toArray]; omega)) ⟨e, ?_⟩
  refine ⟨y, _, I.lset (its' := its.dropLast) hH e ?_ r.dropLast ?_, ru, q⟩
  · show its.toArray.eraseIdxIfInBounds (its.toArray.size - 1) = its.dropLast.toArray
    rw [List.size_toArray, List.eraseIdxIfInBounds_toArray, erase_last]
  · rw [List.length_dropLast]
    omega

def rPopAt : V → List V → Hp → VK → Prop := fun x vs H Q => ∃ l xs i k y, x = .ref l ∧ vs = [.int i] ∧ H l = some (.lst xs) ∧ -(2 ^ 63) ≤ i ∧ i < 2 ^ 63 ∧ seqIndex? i xs.length = some k ∧ xs[k]? = some y ∧ Q y (upd H l (.lst (xs.eraseIdx k)))
theorem mt_popAt : MtM X "list.pop" rPopAt := by
  intro pins s σ H x vs v us Q I rx rv h
  obtain ⟨l, xs, i, k, y, rfl, rfl, hH, h1, h2, hk, hy, q⟩ := h
  cases rx
  obtain ⟨u, rfl, ru⟩ := rv.one
  obtain ⟨t, rfl⟩ := ru
  obtain ⟨z, its, n, r, hl, e⟩ := I.lstM hH
  obtain ⟨w, hw, rw'⟩ := r.get hy
  refine call_meets F.slot_list_pop ⟨_, e, rfl⟩ F.entry_list_pop (F.args_list_pop_2 _ _)
    (MeetsSeq.list_pop_at l its.toArray n i t k w (fitsIndex_both h1 h2) (by rw [List.size_toArray, ← hl]; exact hk) (by rw [← Array.getElem?_toList]; exact hw) (by rw [List.size_toArray]; omega)) ⟨e, ?_⟩
  refine ⟨y, _, I.lset (its' := its.eraseIdx k) hH e ?_ (r.eraseIdx k) ?_, rw', q⟩
  · show its.toArray.eraseIdxIfInBounds k = (its.eraseIdx k).toArray
    rw [List.eraseIdxIfInBounds_toArray]
  · have := len_erase xs k
    omega

def rReverse : V → List V → Hp → VK → Prop := fun x vs H Q => ∃ l xs, x = .ref l ∧ vs = [] ∧ H l = some (.lst xs) ∧ Q .non (upd H l (.lst xs.reverse))
theorem mt_reverse : MtM X "list.reverse" rReverse := by
  intro pins s σ H x vs v us Q I rx rv h
  obtain ⟨l, xs, rfl, rfl, hH, q⟩ := h
  cases rx
  have hus := rv.zero
  subst hus
  obtain ⟨z, its, n, r, hl, e⟩ := I.lstM hH
  refine call_meets F.slot_list_reverse ⟨_, e, rfl⟩ F.entry_list_reverse (F.args_list_reverse_1 _) (AutoSeq1.list_reverse_list_0 l its.toArray n (by rw [List.size_toArray]; omega)) ⟨e, ?_⟩
  refine ⟨.non, _, I.lset (its' := its.reverse) hH e (by simp) r.reverse ?_, rfl, q⟩
  rw [List.length_reverse]
  omega

def rClear : V → List V → Hp → VK → Prop := fun x vs H Q => ∃ l xs, x = .ref l ∧ vs = [] ∧ H l = some (.lst xs) ∧ Q .non (upd H l (.lst []))
theorem mt_clear : MtM X "list.clear" rClear := by
  intro pins s σ H x vs v us Q I rx rv h
  obtain ⟨l, xs, rfl, rfl, hH, q⟩ := h
  cases rx
  have hus := rv.zero
  subst hus
  obtain ⟨z, its, n, r, hl, e⟩ := I.lstM hH
  refine call_meets F.slot_list_clear ⟨_, e, rfl⟩ F.entry_list_clear (F.args_list_clear_1 _) (AutoSeq1.list_clear_list_0 l its.toArray n (by rw [List.size_toArray]; omega)) ⟨e, ?_⟩
  exact ⟨.non, _, I.lset (its' := []) (ys := []) hH e rfl .nil (Nat.zero_le _), rfl, q⟩

/-! ### list + list, list += list, list * int -/
def rCat : R2 := fun x y H Q => ∃ l b xs zs, x = .ref l ∧ y = .ref b ∧ H l = some (.lst xs) ∧ H b = some (.lst zs) ∧ xs.length + zs.length ≤ sizeLine ∧ ∀ p, H p = none → Q (.ref p) (upd H p (.lst (xs ++ zs)))
theorem op_cat : OpR X (binaryOp .Add) rCat := by
  refine .mk ?_
  intro pins s σ H x y v u Q I rx ry h
  obtain ⟨l, b, xs, zs, rfl, rfl, hH, hB, hz, q⟩ := h
  cases rx
  cases ry
  obtain ⟨z, its, n, r, hl, e⟩ := I.lstM hH
  obtain ⟨z2, its2, n2, r2, hl2, e2⟩ := I.lstM hB
  refine PySem.P.add_list e e2 ?_ (by rw [List.size_toArray, List.size_toArray]; omega)
  have ea : its.toArray ++ its2.toArray = (its ++ its2).toArray := by simp
  rw [ea]
  exact ⟨.ref _, _, I.lnew (t' := s.toks) (r.append r2) (by rw [List.length_append]; omega), rfl, q _ I.fresh⟩
/-- a list times an int (a negative one is nothing) -/
def rRep : R2 := fun x y H Q => ∃ l k xs, x = .ref l ∧ y = .int k ∧ H l = some (.lst xs) ∧ -(2 ^ 63) ≤ k ∧ k < 2 ^ 63 ∧ xs.length * k.toNat ≤ sizeLine ∧
  ∀ p, H p = none → Q (.ref p) (upd H p (.lst (List.replicate k.toNat xs).flatten))
theorem len_rep {α : Type} (xs : List α) (k : Nat) : (List.replicate k xs).flatten.length = k * xs.length := by
  induction k with
  | zero => simp
  | succ k ih => rw [List.replicate_succ, List.flatten_cons, List.length_append, ih, Nat.succ_mul, Nat.add_comm]
theorem op_rep : OpR X (binaryOp .Mult) rRep := by
  refine .mk ?_
  intro pins s σ H x y v u Q I rx ry h
  obtain ⟨l, k, xs, rfl, rfl, hH, h1, h2, hz, q⟩ := h
  cases rx
  obtain ⟨t, rfl⟩ := ry
  obtain ⟨z, its, n, r, hl, e⟩ := I.lstM hH
  have hlen : its.toArray.size * k.toNat ≤ sizeLine := by rw [List.size_toArray, ← hl]; exact hz
  have hcap : ¬ its.toArray.size * k.toNat > (2 ^ 63 - 1) / 8 := by
    have : (sizeLine : Nat) ≤ (2 ^ 63 - 1) / 8 := by decide
    omega
  have hfit : ¬ (!Builtin.List.listFitsIndex k) = true := by
    rw [fitsIndex_both h1 h2]
    exact Bool.false_ne_true
  have hlong : ¬ Builtin.List.listTooLong (its.toArray.size * k.toNat) = true := by
    rw [notLongL hlen]
    exact Bool.false_ne_true
  have hnew : List.foldl (fun x1 x2 => x1 ++ x2) #[] (List.replicate (if its.toArray.isEmpty = true then 0 else k.toNat) its.toArray) = (List.replicate k.toNat its).flatten.toArray := by
    have f0 : ∀ m : Nat, List.foldl (fun x1 x2 => x1 ++ x2) #[] (List.replicate m its.toArray) = (List.replicate m its).flatten.toArray := fun m => by
      have := foldl_rep its m []
      rw [List.nil_append] at this
      exact this
    rw [f0]
    cases its with
    | nil => simp
    | cons a r' => rw [if_neg (by simp)]
  refine wpAny_binaryOp_repeat_ref (T := "list") (U := "int") (by decide) ⟨_, e, rfl⟩ (fun s' => typeIs_int s' k t) noFill_list_mul F.fills_int_mul F.slot_int_rmul repeat_list F.slot_int_index.lookup
    (call_meets F.slot_int_rmul (typeIs_int s k t) F.entry_int_rmul (F.args_int_rmul_2 _ _) (int___rmul___int_list k t l its.toArray n)
      ⟨e, rfl, ⟨_, e, rfl⟩, call_meets F.slot_list_mul ⟨_, e, rfl⟩ F.entry_list_mul (F.args_list_mul_2 _ _) (AutoListH.list___mul___list_int_3 l its.toArray n k t hfit hcap hlong) ⟨e, ?_⟩⟩)
  rw [hnew]
  exact ⟨.ref _, _, I.lnew (t' := s.toks) (r.rep k.toNat) (by rw [len_rep, Nat.mul_comm]; exact hz), rfl, q _ I.fresh⟩

/-! ### del xs[i] -/
theorem del_list {pins : List (Addr × Obj)} {s : Shared} {σ : St} {H : Hp} {l : Addr} {xs : List V} {i : Int} {t : Tok} {k : Nat} {Q : Unit → Shared → Prop} (I : Inv X pins σ H s) (hH : H l = some (.lst xs))
    (h1 : -(2 ^ 63) ≤ i) (h2 : i < 2 ^ 63) (hk : seqIndex? i xs.length = some k) (h : ∀ s', Inv X pins σ (upd H l (.lst (xs.eraseIdx k))) s' → Q () s') :
    wpAny (model X.prog X.w) X.A (delItem (.ref l) (.int i t)) Q X.xe s := by
  obtain ⟨z, its, n, r, hl, e⟩ := I.lstM hH
  refine PySem.P.delItem_list (k := k) e (fitsIndex_both h1 h2) (by rw [List.size_toArray, ← hl]; exact hk) (h _ ?_) (by rw [List.size_toArray]; omega)
  refine I.lset (its' := its.eraseIdx k) (t' := s.toks) hH e ?_ (r.eraseIdx k) ?_
  · show its.toArray.eraseIdxIfInBounds k = (its.eraseIdx k).toArray
    rw [List.eraseIdxIfInBounds_toArray]
  · have := len_erase xs k
    omega
end

/-! ### xs[a:b] = ys -/
section
variable {prog : Program} {w : World} {A : Around} {E : Value → Shared → Prop} {s : Shared}
theorem splice_eq (its its2 : List Value) (a c : Nat) : its.toArray.extract 0 a ++ its2.toArray ++ its.toArray.extract c its.toArray.size = (its.take a ++ its2 ++ its.drop c).toArray := by
  apply Array.toList_inj.mp
  first
    | (simp
       exact List.take_of_length_le (by simp))
    | simp [List.take_of_length_le]
    | simp
theorem bounds_run {a c n : Nat} (hac : a ≤ c) (hc : c ≤ n) : sliceBounds (some (a : Int)) (some (c : Int)) none n = ((a : Int), (c : Int), 1) := by
  simp only [sliceBounds, Option.getD_none]
  have h1 : ¬ ((a : Int) < 0) := by omega
  have h2 : ¬ ((c : Int) < 0) := by omega
  simp only [h1, h2, if_false, show (1 : Int) > 0 by decide, if_true]
  congr 1
  · omega
  · congr 1; omega
set_option maxRecDepth 100000 in
/-- list.__setitem__ with a slice of step one and another list -/
theorem setItem_slice {l b sl : Addr} {items new : Array Value} {n n2 : Nat} {vl vu : Value} {a c : Nat} {Q : Unit → Shared → Prop}
    (e : s.heap.get? l = some { cls := .type "list", data := .seq items n }) (e2 : s.heap.get? b = some { cls := .type "list", data := .seq new n2 }) (hne : l ≠ b)
    (hs : s.heap.IsSliceOf sl vl vu .none) (pl : IsPart vl (some (a : Int))) (pu : IsPart vu (some (c : Int))) (hac : a ≤ c) (hc : c ≤ items.size)
    (hsz : items.size + new.size ≤ sizeLine) (h : Q () { s with heap := s.heap.update l (Obj.mapSeq fun xs => xs.extract 0 a ++ new ++ xs.extract c xs.size) }) :
    wpAny (model prog w) A (setItem (.ref l) (.ref sl) (.ref b)) Q E s := by
  have hl : s.heap.IsList l items := PySem.IsL.isList e
  have hb : s.heap.IsList b new := PySem.IsL.isList e2
  obtain ⟨os, hos, hcs, hds⟩ := id hs
  have hTs : s.TypeIs (.ref sl) "slice" := ⟨os, hos, hcs⟩
  have hstep : ¬ ((rawPart none == rawInt 0) = true) := Bool.false_ne_true
  have hsame : Builtin.List.listSameRef (.ref l) (.ref b) = false := by
    unfold Builtin.List.listSameRef
    exact beq_eq_false_iff_ne.mpr hne
  have hmax : (max (a : Int) (c : Int)).toNat = c := by omega
  have hz' : ((fun xs : Array Value => xs.extract 0 a ++ new ++ xs.extract c xs.size) items).size ≤ sizeLine + 1 := by
    simp only [Array.size_append, Array.size_extract]
    omega
  unfold setItem
  try with_reducible refine wpAny_holding ?_
  first | refine wpAny_bind (wpAny_pure ?_) | skip
  refine wpAny_bind (wpAny_sequenceKey hl.typeIs (by decide) ?_)
  refine wpAny_bind (wpAny_callSpecial?_slot (name := Str.ofString "__setitem__") hl.typeIs slot_list_setitem
    (wpAny_call_entry slot_list_setitem hl.typeIs entry_list_setitem ?_ (args_list_setitem _ _ _)))
  show wpAny _ _ (Builtin.List.listSubscript? (.ref sl) >>= _) _ _ s
  refine wpAny_bind ?_
  unfold Builtin.List.listSubscript?
  refine wpAny_bind (wpAny_specialOf hTs slice_no_index ?_)
  simp only [Option.isNone_none, if_true]
  refine wpAny_pure ?_
  show wpAny _ _ (typeOf (.ref sl) >>= _) _ _ s
  refine wpAny_bind (wpAny_typeOf hTs ?_)
  first
    | rw [if_neg (by decide)]
    | refine PySem.W.KFB.if_not (by decide) ?_
  rw [listSliceParts_eq]
  refine wpAny_bind (wpAny_bind (wpAny_field hos hds (x := .none) rfl (wpAny_bind (wpAny_listPart .none ?_))))
  rw [if_neg hstep]
  refine wpAny_bind (wpAny_field hos hds (x := vl) rfl (wpAny_bind (wpAny_listPart pl ?_)))
  refine wpAny_bind (wpAny_field hos hds (x := vu) rfl (wpAny_bind (wpAny_listPart pu (wpAny_pure ?_))))
  first
    | simp only [hsame, Bool.false_eq_true, if_false]
    | refine PySem.W.KFB.if_not hsame ?_
    | (dsimp only
       rw [if_neg (by rw [hsame]; exact Bool.false_ne_true)])
  refine wpAny_bind (m := Builtin.List.listAllItems (.ref b) "must assign iterable to extended slice") ?_
  unfold Builtin.List.listAllItems
  refine wpAny_bind (wpAny_typeOf hb.typeIs ?_)
  first
    | refine PySem.W.KFB.if_so (by decide) ?_
    | rw [if_pos (by decide)]
    | simp only [beq_self_eq_true, Bool.true_or, if_true]
  unfold Builtin.List.listItems
  refine wpAny_bind (wpAny_seqItems e2 rfl (wpAny_pure ?_))
  refine wpAny_bind (wpAny_bind (wpAny_seqItems e rfl (wpAny_pure ?_)))
  refine wpAny_bind (wpAny_of_eq ((sliceIndices_raw (some (a : Int)) (some (c : Int)) none items.size (by simp)).trans (congrArg (pure : Int × Int × Int → Sem (Int × Int × Int)) (bounds_run hac hc))) ?_)
  show wpAny _ _ (if ((1 : Int) == 1) = true then _ else _) _ _ s
  rw [if_pos (by decide)]
  refine wpAny_bind (wpAny_rule ?_)
  first
    | simp only [notLongL hsz, Bool.false_eq_true, if_false]
    | refine PySem.W.KFB.if_not (notLongL hsz) ?_
  first | refine wpAny_bind (wpAny_pure ?_) | skip
  show wpAny _ _ (updateSeq l (fun xs => xs.extract 0 ((a : Int)).toNat ++ new ++ xs.extract (max (a : Int) (c : Int)).toNat xs.size) >>= _) _ _ s
  rw [hmax, Int.toNat_natCast]
  refine wpAny_bind (wpAny_updateSeq (hz := Nat.le_trans (Nat.le_add_right _ _) hsz) (_hz' := hz') e rfl ?_)
  refine wpAny_bind (wpAny_letGo ?_)
  first
    | exact wpAny_bind (wpAny_pure (wpAny_pure ⟨.none, rfl, wpAny_pure h⟩))
    | exact wpAny_pure ⟨.none, rfl, wpAny_pure h⟩
end

section
variable {X : Cx}
/-- xs[a:c] = ys of another list, at the value level: sl is the slice object that was just made -/
theorem set_slice {pins : List (Addr × Obj)} {s : Shared} {σ : St} {H : Hp} {l b sl : Addr} {xs ys : List V} {a c : Int} {vl vu : Value} {Q : Unit → Shared → Prop} (I : Inv X pins σ H s)
    (hH : H l = some (.lst xs)) (hB : H b = some (.lst ys)) (hne : l ≠ b) (hs : s.heap.IsSliceOf sl vl vu .none) (ra : RelV (.int a) vl) (rc : RelV (.int c) vu) (h0 : 0 ≤ a) (hac : a ≤ c) (hc : c ≤ xs.length)
    (hz : xs.length + ys.length ≤ sizeLine) (h : ∀ s', Inv X pins σ (upd H l (.lst (xs.take a.toNat ++ ys ++ xs.drop c.toNat))) s' → Q () s') :
    wpAny (model X.prog X.w) X.A (setItem (.ref l) (.ref sl) (.ref b)) Q X.xe s := by
  obtain ⟨ta, rfl⟩ := ra
  obtain ⟨tc, rfl⟩ := rc
  obtain ⟨z, its, n, r, hl, e⟩ := I.lstM hH
  obtain ⟨z2, its2, n2, r2, hl2, e2⟩ := I.lstM hB
  obtain ⟨a', rfl⟩ := Int.eq_ofNat_of_zero_le h0
  obtain ⟨c', rfl⟩ := Int.eq_ofNat_of_zero_le (Int.le_trans h0 hac)
  simp only [Int.toNat_natCast] at h
  refine setItem_slice (a := a') (c := c') e e2 hne hs (.int _ _) (.int _ _) (by omega) (by rw [List.size_toArray]; omega) (by rw [List.size_toArray, List.size_toArray]; omega) (h _ ?_)
  refine I.lset (its' := its.take a' ++ its2 ++ its.drop c') (t' := s.toks) hH e ?_ (Vals.append (Vals.append (r.take _) r2) (r.drop _)) ?_
  · exact splice_eq its its2 a' c'
  · rw [List.length_append, List.length_append, List.length_take, List.length_drop]
    omega
end
end L2

namespace Att
open PySem PySem.W PySem.Calls PyProof.Rows

/-! ### the script -/
theorem ints_of_wellAll {P : Params} {h : Heap} : ∀ (ns : List Int) (vs : List Value), WellAll P h vs (ns.map WData.int) → IntsAre vs ns := by
  intro ns
  induction ns with
  | nil =>
    intro vs w
    rw [List.map_nil] at w
    cases w
    exact .nil
  | cons n ns ih =>
    intro vs w
    rw [List.map_cons] at w
    cases w with
    | cons a b =>
      cases a
      exact .cons _ _ (ih _ b)

theorem script_of {l : OpenLaw} {n : Nat} (hn : l.most = some n) {P : Params} {h : Heap} {args : List WData} {vals : List Value}
    (hpre : l.row.toRowW.claim.pre args = true) (hwl : WellAll P h vals args) :
    ∃ a vs ns, vals = [Value.ref a] ∧ args = [WData.list (ns.map WData.int)] ∧ h.get? a = some { cls := .type "list", data := .seq vs.toArray } ∧ IntsAre vs ns ∧ ns.length ≤ n := by
  have hsh : WShape.hasAll [] args [.list .int] = true := (pre_splitW hpre).1
  have hc : l.pre.holds [] { args := args } = true := (pre_splitW hpre).2
  obtain ⟨d, r, rfl, h1, h2⟩ := hasAllW_cons hsh
  obtain rfl := hasAllW_nil h2
  obtain ⟨xs, rfl, h3⟩ := hasW_list h1
  obtain ⟨ns, rfl⟩ := items_int h3
  have hlen : ns.length ≤ n := by
    unfold OpenLaw.pre at hc
    have h4 : (WTm.not (.lt (.lit (.int (n : Int))) (.len (.arg 0)))).holds [] { args := [.list (ns.map .int)] } = true := by
      have h4 := (holds_andW hc).1
      rw [hn] at h4
      exact h4
    have h5 := condW_of h4 (w_not (w_lt w_lit (w_len_list (w_arg rfl))))
    rw [List.length_map] at h5
    refine Nat.le_of_not_lt fun q => ?_
    have q' : (n : Int) < ((ns.length : Nat) : Int) := by omega
    first
      | (rw [decide_eq_true q'] at h5; exact absurd h5 (by decide))
      | (simp at h5; omega)
  cases hwl with
  | cons w1 w2 =>
    cases w2
    cases w1 with
    | list ho hall => exact ⟨_, _, ns, rfl, rfl, ho, ints_of_wellAll ns _ hall, hlen⟩

theorem post_true (l : OpenLaw) (args : List WData) : l.row.toRowW.claim.post args (.bool true) args = true :=
  postW_of (r := l.row.toRowW) (X := (true == true))
    (show WShape.has [] (.bool true) .bool = true by first | rfl | decide | simp [WShape.has, WShape.arms, WShape.armsAll])
    (show (WTm.eq .res (.lit (.bool true))).value [] { args := args, res := some (.bool true), after := args } = some (.bool (true == true)) from w_eq_bool (w_res rfl) w_lit) rfl

/-! ### the attachment: holds_open's last premise (the goal 'hc' behind k_head) from a wpAny of the law's body -/
theorem attach {l : OpenLaw} {n : Nat} {q : Program} {loose : List Str} {XP : (Str → Option Value) → Heap → Prop} {YP : World → Heap → Prop} {d : DefRec} {x : Str}
    (hn : l.most = some n) (hdf : d.params.defaults = [])
    (hbind : ∀ pm cd doc v : Value, bindArgs (docDef d.name d.params d.body d.scope pm cd doc) ⟨[v], []⟩ = pure [(x, v)])
    (hx : d.scope.names.lookup x = some .local ∨ d.scope.names.lookup x = some .cell)
    (hk : d.scope.kind = .function) (hco : d.scope.isCoroutine = false) (hgen : d.scope.isGenerator = false)
    (body : ∀ (w : World) (s₀ s₁ s : Shared) (mg mb : Str → Option Value) (fa : Addr) (o : Obj) (pm cd doc : Value) (a : Addr) (vs : List Value) (ns : List Int),
      Ground q loose [] XP w s₀ mg mb s₁.heap → YP w s₁.heap →
      s₁.heap.get? fa = some o → o.data = .func (docDef d.name d.params d.body d.scope pm cd doc) → s₁.heap.CodeRec cd d.name → mg d.name = some (.ref fa) →
      s₁.heap.get? a = some { cls := .type "list", data := .seq vs.toArray } → IntsAre vs ns → ns.length ≤ n →
      s.gens = #[] → s.os = s₁.os →
      Fr s₁.heap s₁.heap.objs.size s.heap (bindL (envOfC d.name d.scope s₁.heap.objs.size fa cd).kindOf [(x, .ref a)] fun _ => none) →
      Cl s₁.heap.objs.size (cellsFrom (s₁.heap.objs.size + 1) d.scope.names []) s.heap (bindC (envOfC d.name d.scope s₁.heap.objs.size fa cd).kindOf [(x, .ref a)] fun _ => none) →
      wpAny (model l.prog w) (callerA.deeper (envOfC d.name d.scope s₁.heap.objs.size fa cd)) (execs d.body (envOfC d.name d.scope s₁.heap.objs.size fa cd))
        (fun f s' => f = .ret (.bool true) ∧ OldK s₁.heap s'.heap ∧ s'.os = s₁.os ∧ AllBare s'.gens) (fun _ _ => False) s) :
    WalkO q loose XP YP l.row.toRowW d [] (fun f vs => PySem.call f vs) := by
  intro w s₀ s₁ mg mb G Y fa o pm cd doc dV kV ho hd hcd hD hmg hg args vals as hpre hlay hrd hwl hlo
  obtain rfl : dV = .none := Dflts.none hD hdf
  obtain rfl : kV = .none := Dflts.noKw hD
  obtain ⟨a, vs, ns, rfl, rfl, hobj, hints, hlen⟩ := script_of hn hpre hwl
  refine enter_call ?_
  refine call_cells_ret (o := o) (by rw [depth_caller]; decide) ho (fd_plain hd) G.T.nolimit hcd (hbind pm cd doc (.ref a)) (fun y hy => ?_) (fun h₁ tk F X => ?_) hco hgen hk
  · obtain rfl : y = (x, Value.ref a) := List.mem_singleton.mp hy
    rcases hx with e | e
    · exact .inl e
    · exact .inr ⟨e, cellsFrom_some _ _ _ (.inl e)⟩
  · refine wpAny_mono (body w s₀ s₁ { s₁ with heap := h₁, toks := tk } mg mb fa o pm cd doc a vs ns G Y ho (fd_plain hd) hcd hmg hobj hints hlen hg rfl F X) (fun f s' hq => ?_) (fun _ _ hq => hq)
    obtain ⟨rfl, h2, h3, h4⟩ := hq
    exact ⟨.inl ⟨.bool true, .bool true, [], rfl, fun _ => rfl, .bool true, post_true l _, fun _ => ⟨List.Pairwise.nil, fun _ hm => (nomatch hm)⟩⟩, h2, h3, h4⟩

/-- the same from a codeAny of the CALL (for a layer whose function contracts speak of calls) -/
theorem attach_call {l : OpenLaw} {n : Nat} {q : Program} {loose : List Str} {XP : (Str → Option Value) → Heap → Prop} {YP : World → Heap → Prop} {d : DefRec}
    (hn : l.most = some n) (hdf : d.params.defaults = [])
    (call : ∀ (w : World) (s₀ s₁ : Shared) (mg mb : Str → Option Value) (fa : Addr) (o : Obj) (pm cd doc : Value) (a : Addr) (vs : List Value) (ns : List Int),
      Ground q loose [] XP w s₀ mg mb s₁.heap → YP w s₁.heap →
      s₁.heap.get? fa = some o → o.data = .func (docDef d.name d.params d.body d.scope pm cd doc) → s₁.heap.CodeRec cd d.name → mg d.name = some (.ref fa) →
      s₁.heap.get? a = some { cls := .type "list", data := .seq vs.toArray } → IntsAre vs ns → ns.length ≤ n → s₁.gens = #[] →
      codeAny (model l.prog w) callerA (.call (.ref fa) ⟨[.ref a], []⟩) (fun r s' => r = .ok (.ret (.bool true)) ∧ OldK s₁.heap s'.heap ∧ s'.os = s₁.os ∧ AllBare s'.gens) s₁) :
    WalkO q loose XP YP l.row.toRowW d [] (fun f vs => PySem.call f vs) := by
  intro w s₀ s₁ mg mb G Y fa o pm cd doc dV kV ho hd hcd hD hmg hg args vals as hpre hlay hrd hwl hlo
  obtain rfl : dV = .none := Dflts.none hD hdf
  obtain rfl : kV = .none := Dflts.noKw hD
  obtain ⟨a, vs, ns, rfl, rfl, hobj, hints, hlen⟩ := script_of hn hpre hwl
  refine enter_call (codeAny_mono (call w s₀ s₁ mg mb fa o pm cd doc a vs ns G Y ho (fd_plain hd) hcd hmg hobj hints hlen hg) fun r s' hq => ?_)
  obtain ⟨rfl, h2, h3, h4⟩ := hq
  exact ⟨.inl ⟨.bool true, .bool true, [], rfl, fun _ => rfl, .bool true, post_true l _, fun _ => ⟨List.Pairwise.nil, fun _ hm => (nomatch hm)⟩⟩, h2, h3, h4⟩

/-- the same where the top left finished generators (o_head chose holds_openN): nothing may have changed at all and no generator may be left -/
theorem attachN {l : OpenLaw} {n : Nat} {q : Program} {loose : List Str} {XP : (Str → Option Value) → Heap → Prop} {YP : World → Heap → Prop} {d : DefRec} {x : Str}
    (hn : l.most = some n) (hdf : d.params.defaults = [])
    (hbind : ∀ pm cd doc v : Value, bindArgs (docDef d.name d.params d.body d.scope pm cd doc) ⟨[v], []⟩ = pure [(x, v)])
    (hx : d.scope.names.lookup x = some .local ∨ d.scope.names.lookup x = some .cell)
    (hk : d.scope.kind = .function) (hco : d.scope.isCoroutine = false) (hgen : d.scope.isGenerator = false)
    (body : ∀ (w : World) (s₀ s₁ s : Shared) (mg mb : Str → Option Value) (fa : Addr) (o : Obj) (pm cd doc : Value) (a : Addr) (vs : List Value) (ns : List Int),
      Ground q loose [] XP w s₀ mg mb s₁.heap → YP w s₁.heap →
      s₁.heap.get? fa = some o → o.data = .func (docDef d.name d.params d.body d.scope pm cd doc) → s₁.heap.CodeRec cd d.name → mg d.name = some (.ref fa) →
      s₁.heap.get? a = some { cls := .type "list", data := .seq vs.toArray } → IntsAre vs ns → ns.length ≤ n →
      s.gens = #[] → s.os = s₁.os →
      Fr s₁.heap s₁.heap.objs.size s.heap (bindL (envOfC d.name d.scope s₁.heap.objs.size fa cd).kindOf [(x, .ref a)] fun _ => none) →
      Cl s₁.heap.objs.size (cellsFrom (s₁.heap.objs.size + 1) d.scope.names []) s.heap (bindC (envOfC d.name d.scope s₁.heap.objs.size fa cd).kindOf [(x, .ref a)] fun _ => none) →
      wpAny (model l.prog w) (callerA.deeper (envOfC d.name d.scope s₁.heap.objs.size fa cd)) (execs d.body (envOfC d.name d.scope s₁.heap.objs.size fa cd))
        (fun f s' => f = .ret (.bool true) ∧ (∀ b o, s₁.heap.get? b = some o → s'.heap.get? b = some o) ∧ s'.os = s₁.os ∧ s'.gens = #[]) (fun _ _ => False) s) :
    WalkN q loose XP YP l.row.toRowW d [] (fun f vs => PySem.call f vs) := by
  intro w s₀ s₁ mg mb G Y fa o pm cd doc dV kV ho hd hcd hD hmg hg args vals as hpre hlay hrd hwl hlo
  obtain rfl : dV = .none := Dflts.none hD hdf
  obtain rfl : kV = .none := Dflts.noKw hD
  obtain ⟨a, vs, ns, rfl, rfl, hobj, hints, hlen⟩ := script_of hn hpre hwl
  refine enter_callW ?_
  refine call_cells_ret (o := o) (by rw [depth_caller]; decide) ho (fd_plain hd) G.T.nolimit hcd (hbind pm cd doc (.ref a)) (fun y hy => ?_) (fun h₁ tk F X => ?_) hco hgen hk
  · obtain rfl : y = (x, Value.ref a) := List.mem_singleton.mp hy
    rcases hx with e | e
    · exact .inl e
    · exact .inr ⟨e, cellsFrom_some _ _ _ (.inl e)⟩
  · refine wpAny_mono (body w s₀ s₁ { s₁ with heap := h₁, toks := tk } mg mb fa o pm cd doc a vs ns G Y ho (fd_plain hd) hcd hmg hobj hints hlen hg rfl F X) (fun f s' hq => ?_) (fun _ _ hq => hq)
    obtain ⟨rfl, h2, h3, h4⟩ := hq
    exact ⟨.inl ⟨.bool true, .bool true, [], rfl, fun _ => rfl, .bool true, post_true l _, fun _ => ⟨List.Pairwise.nil, fun _ hm => (nomatch hm)⟩⟩, h2, h3, h4⟩

/-! ### rules over ANY heap (no ledger) from facts about the written part K: the library's own take a ledger (News) for what they write -/
section
variable {prog : Program} {w : World} {A : Around} {E : Value → Shared → Prop} {s : Shared} {K : Frag}

/-- a def of the module, or a method (qual 'C.m'), entered: the frame is the next address; cells behind it -/
theorem call_fn {R : Result → Shared → Prop} {name qual : Str} {params : Arguments} {body : List Stmt} {scope : Scope} {dV kV doc pm cdv ct oc : Value} {an od : Option Addr} {osl : Array (Option Value)} {f : Addr} {args : Args} {binds : List (Str × Value)}
    (X : K.In s.heap) (hlim : s.heap.NoLimit) (ho : K.lookup f = some ⟨oc, od, .func (fnOf name qual params body scope dV kV doc pm an cdv ct), osl⟩) (hcd : codeIn K cdv qual = true) (hroom : A.depth < recursionLimit)
    (hbind : BindsTo s (fnOf name qual params body scope dV kV doc pm an cdv ct) args binds)
    (hkind : (binds.all fun y => scope.names.lookup y.1 == some .local || scope.names.lookup y.1 == some .cell) = true)
    (h : ∀ s₁, InCallC s s.heap.objs.size (bindL (envOfC qual scope s.heap.objs.size f cdv).kindOf binds fun _ => none) (cellsFrom (s.heap.objs.size + 1) scope.names [])
        (bindC (envOfC qual scope s.heap.objs.size f cdv).kindOf binds fun _ => none) s₁ →
      wpAny (model prog w) (A.deeper (envOfC qual scope s.heap.objs.size f cdv)) (execs body (envOfC qual scope s.heap.objs.size f cdv))
        (fun fl s' => R (.ok (.ret (match fl with | .ret v => v | _ => .none))) s')
        (fun e s' => wpAny (model prog w) (A.deeper (envOfC qual scope s.heap.objs.size f cdv)) (leaving (envOfC qual scope s.heap.objs.size f cdv) e) (fun _ s'' => R (.error e) s'') (fun e' s'' => R (.error e') s'') s') s₁)
    (hco : scope.isCoroutine = false) (hgen : scope.isGenerator = false) (hk : scope.kind = .function) : codeAny (model prog w) A (.call (.ref f) args) R s := by
  refine codeAny_call_function hroom (X _ _ ho) rfl hco hgen rfl (codeRec_of X hcd) (hbind _ _ _ _ ?_)
  refine wpAny_newFunctionEnv_cells hk (kindsX hkind _) fun env he s₁ x => ?_
  subst he
  exact ⟨hlim.keeps x.toInCall.keep, codeAny_func (h s₁ x)⟩

/-- C(..): dict at size, instance at size + 1, then __init__ -/
theorem make_obj {R : Result → Shared → Prop} {C fI : Addr} {rest : List Value} {kw : List (Str × Value)}
    (X : K.In s.heap) (hm : makesIn K C = true) (hi : findIn K (.ref C) "__init__" = some (some (.ref fI))) (hf : isFn K (.ref fI) = true)
    (h : codeAny (model prog w) (A.under (.builtin "type.__call__" ⟨.ref C :: rest, kw⟩)) (.call (.ref fI) ⟨.ref (s.heap.objs.size + 1) :: rest, kw⟩) (InitBack (s.heap.objs.size + 1) R)
      { s with heap := (s.heap.push emptyDict).push (instObj C s.heap.objs.size) }) : codeAny (model prog w) A (.call (.ref C) ⟨rest, kw⟩) R s := by
  obtain ⟨hh, g, d, t, os⟩ := s
  exact make_core (makes_of X hm) (looks_findIn X hi) (fun self => bind_fn X self (beq_iff_eq.mp hf)) (.inl rfl) h

/-- x.name where the instance's dict holds the name and the class does not -/
theorem get_field {x C : Addr} {ox : Obj} {es : List DictEntry} {n : Nat} {name : Str} {expr : Bool} {v : Value} {Q : Value → Shared → Prop}
    (X : K.In s.heap) (I : PySem.W.InstAt s.heap x ox C (some (dictOf es n))) (hg : plainGet K C name = true) (hh : hasDictIn K C = true) (ha : findIn K (.ref C) name = some none)
    (hl : getL name es = some (some v)) (hv : handedIn v = true) (h : Q v { s with toks := s.toks + 1 }) : wpAny (model prog w) A (getAttr (.ref x) name expr) Q E s :=
  get_value X I (plainGet_of hg).1 (findObj_own hh ha rfl hl) hv h

/-- x.m(..): the method found in the class -/
theorem get_method {x C f : Addr} {ox : Obj} {es : List DictEntry} {n : Nat} {name : Str} {pl : Sem Bool} {Q : Value × List Value → Shared → Prop}
    (X : K.In s.heap) (I : PySem.W.InstAt s.heap x ox C (some (dictOf es n))) (hg : plainGet K C name = true) (hf : findIn K (.ref C) name = some (some (.ref f))) (ht : isFn K (.ref f) = true)
    (hl : getL name es = some none) (h : Q (.ref f, [.ref x]) s) : wpAny (model prog w) A (getMethod (.ref x) name pl) Q E s :=
  method_fn X I (plainGet_of hg).1 (plainGet_of hg).2 hf (beq_iff_eq.mp ht) (by show (lookIn name (dictOf es n)).map _ = _; rw [lookIn_dict, hl]; rfl) h

/-! the whole heap as the ledger: makes every rule that writes through a ledger a rule over any heap -/
def noObjs (h : Heap) : Heap := { h with objs := #[] }
theorem noObjs_get (h : Heap) (b : Addr) : (noObjs h).get? b = none := by
  cases e : (noObjs h).get? b with
  | none => rfl
  | some o => exact absurd (Heap.lt_size e) (Nat.not_lt_zero _)
def ledger (h : Heap) (L d : Addr) : List (Addr × Obj) := (List.range h.objs.size).filterMap fun a => if a = L ∨ a = d then none else (h.get? a).map fun o => (a, o)
theorem mem_ledger {h : Heap} {L d a : Addr} {o : Obj} : (a, o) ∈ ledger h L d ↔ a ≠ L ∧ a ≠ d ∧ h.get? a = some o := by
  unfold ledger
  rw [List.mem_filterMap]
  constructor
  · rintro ⟨b, _, e⟩
    split at e
    · cases e
    · rename_i hb
      obtain ⟨o', ho, e'⟩ := Option.map_eq_some_iff.mp e
      cases e'
      exact ⟨fun q => hb (.inl q), fun q => hb (.inr q), ho⟩
  · rintro ⟨n1, n2, ho⟩
    refine ⟨a, List.mem_range.mpr (Heap.lt_size ho), ?_⟩
    rw [if_neg (show ¬ (a = L ∨ a = d) from fun q => q.elim n1 n2), ho] <;> rfl
theorem news_ledger {h : Heap} {L d : Addr} {od : Obj} (hne : d ≠ L) (ho : h.get? d = some od) : News (noObjs h) L h ([] ++ (d, od) :: ledger h L d) := by
  rintro ⟨a, o⟩ hp
  rcases List.mem_cons.mp hp with e | hp
  · cases e
    exact ⟨ho, hne, noObjs_get _ _⟩
  · obtain ⟨n1, n2, e⟩ := mem_ledger.mp hp
    exact ⟨e, n1, noObjs_get _ _⟩
theorem fr_all {h : Heap} {L : Addr} {m : Str → Option Value} (n : h.Ns L m) : Fr (noObjs h) L h m :=
  ⟨n, fun b o e => (by rw [noObjs_get] at e; cases e), Nat.zero_le _⟩
/-- Upd of the head entry (for append_K, setItem_K ..) -/
theorem upd_ledger {h : Heap} {L d : Addr} {o o' : Obj} : Upd d o o' ((d, o) :: ledger h L d) ((d, o') :: ledger h L d) :=
  .head fun ⟨_, _⟩ hp => (mem_ledger.mp hp).2.1

/-- x.name = v over any heap: L is any namespace of the heap (the frame's, say): its map stays, its object is not told; all else but the dict stays -/
theorem set_field {x C dx L : Addr} {ox : Obj} {m : Str → Option Value} {es es' : List DictEntry} {n n' : Nat} {name : Str} {v : Value} {Q : Unit → Shared → Prop}
    (X : K.In s.heap) (I : PySem.W.InstAt s.heap x ox C (some (dictOf es n))) (hd : ox.dict = some dx) (hL : s.heap.Ns L m) (hne : dx ≠ L)
    (hs : findIn K (.ref C) "__setattr__" = some (some (.builtin "object.__setattr__"))) (hp : plainOver K C = true) (ht : takerIn K C name = some none) (hh : hasDictIn K C = true) (hl : (getL name es).isSome = true)
    (e : (putL name (PyData.keyHash w.params name) (.str name (s.toks + 1)) v es, putN name es n) = (es', n')) (hz : es'.length ≤ 1000)
    (h : ∀ h' : Heap, h'.Ns L m → h'.get? dx = some (dictOf es' n') → (∀ b o, b ≠ dx → b ≠ L → s.heap.get? b = some o → h'.get? b = some o) → Q () { s with heap := h', toks := s.toks + 2 }) :
    wpAny (model prog w) A (setAttr (.ref x) name v) Q E s := by
  obtain ⟨e1, e2⟩ := Prod.mk.inj e
  have hdx : s.heap.get? dx = some (dictOf es n) := by
    have := I.dict
    rw [hd] at this
    exact this
  refine set_plain X I hs (osa_dict (s := { s with toks := s.toks + 1 }) (h₀ := noObjs s.heap) (L := L) (m := m) (od := dictOf es n) (od' := dictOf es' n') (es := es') (n := n') (pre := []) (post := ledger s.heap L dx)
    (fr_all hL) (news_ledger hne hdx) X I hd hp ht hh hl (fun _ q => nomatch q) (fun ⟨_, _⟩ q => (mem_ledger.mp q).2.1) (by rw [putName_dict, e1, e2]) rfl hz fun h' F' N' => ?_)
  exact h h' F'.ns (N'.get (List.Mem.head _)) fun b o n1 n2 ho => N'.get (List.Mem.tail _ (mem_ledger.mpr ⟨n2, n1, ho⟩))
end
end Att

namespace L2
open PySem PySem.Spec PyProof.Rows

theorem vals_ints : ∀ {vs : List Value} {ns : List Int}, IntsAre vs ns → Vals (ns.map V.int) vs
  | _, _, .nil => .nil
  | _, _, .cons n t h => .cons ⟨t, rfl⟩ (vals_ints h)

/-- nothing is tracked but the script, known to the object (or it is an object of the module) -/
def Only (H : Hp) : Prop := ∀ b, H b = none ∨ ∃ o xs, H b = some (.frz o (.lst xs))

/-- THE HEAD: the law's promise, at the heap behind the top. F, the promise of the law's def, may use that base is part of the heap (so K.In base, base.Ns mainGlobals mg stand in Mod) -/
theorem law_call {P : Program} {w : World} {K : PySem.W.Frag} {mg mb : Str → Option Value} {CX : CXT} {k : Nat} {fa a : Addr} {fd : FuncData} {x : Str} {sp : Sp} {s₁ : Shared} {vs : List Value} {ns : List Int}
    (KX : K.In s₁.heap) (hns : s₁.heap.Ns mainGlobals mg) (hb : s₁.heap.Ns builtinsNs mb) (hbb : ∀ x : Str, x ≠ "__name__" → mb x = bootBuiltins x) (hlim : s₁.heap.NoLimit) (hg : s₁.gens = #[])
    (ha : s₁.heap.get? a = some { cls := .type "list", data := .seq vs.toArray }) (hi : IntsAre vs ns) (hl : ns.length ≤ sizeLine) (hr : Room k callerA)
    (F : ∀ base : Heap, K.In base → base.Ns mainGlobals mg → FnOk P w K mg base CX k fa fd [x] sp) (hbind : ∀ (s : Shared) (u : Value), BindsTo s fd ⟨[u], []⟩ [(x, u)])
    (hsp : ∀ H : Hp, Only H → SqL K H a (ns.map V.int) → sp [.ref a] H (fun v _ => v = .bl true) fun _ _ _ => False)
    (hCX : ∀ H e s', CX [] H s₁ (fun _ _ _ => False) e s' → False) :
    codeAny (model P w) callerA (.call (.ref fa) ⟨[.ref a], []⟩) (fun r s' => r = .ok (.ret (.bool true)) ∧ OldK s₁.heap s'.heap ∧ s'.os = s₁.os ∧ AllBare s'.gens) s₁ := by
  have rv := vals_ints hi
  have lenV := hi.length
  -- from an abstract heap in which nothing but the script may be tracked
  have core : ∀ H : Hp, Only H → SqL K H a (ns.map V.int) → HOk P w H s₁.heap → (∀ b, H b ≠ none → b = a) → (H a ≠ none → K.lookup a = none) →
      codeAny (model P w) callerA (.call (.ref fa) ⟨[.ref a], []⟩) (fun r s' => r = .ok (.ret (.bool true)) ∧ OldK s₁.heap s'.heap ∧ s'.os = s₁.os ∧ AllBare s'.gens) s₁ := by
    intro H hO hS hok hA hK
    have base_of : ∀ {b : Addr} {o : Obj}, s₁.heap.get? b = some o → H b = none → (hidT s₁.heap H).get? b = some o := fun e n => hidT_get e n
    have noA : ∀ {b : Addr} {o : Obj} {es : Array DictEntry} {ep : Nat}, s₁.heap.get? b = some o → o.data = .dict es ep → H b = none := fun {b o es ep} e d => by
      cases q : H b with
      | none => rfl
      | some u =>
        have e' : b = a := hA b (by rw [q]; simp)
        subst e'
        rw [ha] at e; cases e
        have d' : Data.seq vs.toArray _ = Data.dict es ep := d
        cases d'
    have nsK : ∀ {b : Addr} {m : Str → Option Value}, s₁.heap.Ns b m → (hidT s₁.heap H).Ns b m := fun {b m} ⟨o, es, ep, e, d, r⟩ => ⟨o, es, ep, base_of e (noA e d), d, r⟩
    have hKb : K.In (hidT s₁.heap H) := fun b o e => base_of (KX b o e) (by
      cases q : H b with
      | none => rfl
      | some u =>
        have e' : b = a := hA b (by rw [q]; simp)
        subst e'
        rw [hK (by rw [q]; simp)] at e; cases e)
    have hM : Mod K mg (hidT s₁.heap H) := ⟨hKb, nsK hns, ⟨mb, nsK hb, hbb⟩, let ⟨mc, h1, h2⟩ := hlim; ⟨mc, nsK h1, h2⟩⟩
    have e0 : Env0 P w K mg (hidT s₁.heap H) callerA [] s₁ H := ⟨rfl, hM, fun b o e => of_hidT e, Nat.le_of_eq (hidT_size _ _), trivial, fun b hb => absurd (show b ∈ ([] : List Addr) from hb) (by simp), hok, .of_eq hg⟩
    refine codeAny_mono ((F _ hKb (nsK hns)).run callerA [] s₁ H ⟨[.ref a], []⟩ [.ref a] [.ref a] _ _ hr e0 (hbind s₁ (.ref a)) (.cons rfl .nil) (hsp H hO hS)) fun r s' h => ?_
    cases r with
    | error e => exact (hCX H e s' h).elim
    | ok fl =>
      cases fl with
      | next => exact False.elim h
      | brk => exact False.elim h
      | cont => exact False.elim h
      | ret u =>
        obtain ⟨v, H', os, bare, un, hok', r', q⟩ := h
        have q' : v = .bl true := q
        subst q'
        obtain rfl : u = Value.bool true := r'
        refine ⟨rfl, OldK.of_keep fun b o e => ?_, os, bare⟩
        cases q : H b with
        | none => exact un.keep b o e q (by intro z; exact absurd (show b ∈ ([] : List Addr) from z) (by simp)) (by simp)
        | some u =>
          rcases hO b with z | ⟨ob, xs, z⟩
          · rw [q] at z; cases z
          · have z2 := un.frzs b ob _ z
            obtain ⟨e1, _⟩ := hok b _ z
            obtain ⟨e2, _⟩ := hok' b _ z2
            rw [e] at e1; cases e1
            exact e2
  cases hk : K.lookup a with
  | some o =>
    -- the script is one of the module's own objects
    have e := KX a o hk
    rw [ha] at e
    cases e
    refine core (fun _ => none) (fun _ => .inl rfl) (.inr ⟨_, vs.toArray, _, hk, rfl, rfl, rfl, by rw [List.size_toArray, lenV]; exact hl, by simpa using rv⟩) (fun b u z => by have z' : (none : Option HO) = some u := z; cases z') (fun b z => absurd rfl z) fun z => absurd rfl z
  | none =>
    refine core (fun b => if b = a then some (.frz { cls := .type "list", data := .seq vs.toArray } (.lst (ns.map V.int))) else none) (fun b => ?_) (.inl (.inr ⟨{ cls := .type "list", data := .seq vs.toArray }, if_pos rfl⟩)) (fun b u z => ?_) (fun b z => ?_) fun _ => hk
    · by_cases hb : b = a
      · exact .inr ⟨_, _, if_pos hb⟩
      · exact .inl (if_neg hb)
    · by_cases hb : b = a
      · have z' := (if_pos hb).symm.trans z
        cases z'
        subst hb
        exact ⟨ha, by rw [List.length_map]; exact hl, vs, _, rv, ha⟩
      · have z' := (if_neg hb).symm.trans z
        cases z'
    · by_cases hb : b = a
      · exact hb
      · exact absurd (if_neg hb) z
end L2

namespace L2
open PySem PySem.Spec PyProof.Rows

abbrev KOf {K : PySem.W.Frag} {h : Heap} (_ : K.In h) : PySem.W.Frag := K

/-- the goal that k_head leaves (case hc), from the law's promise. F gives the function object fd (K's own) once, then the promise over every base -/
theorem walk_of {l : PySem.W.OpenLaw} {n k : Nat} {q : Program} {loose : List Str} {XP : (Str → Option Value) → Heap → Prop} {YP : World → Heap → Prop} {d : DefRec} {K : Params → PySem.W.Frag} {CX : World → CXT} {sp : World → Sp} {x : Str}
    (hn : l.most = some n) (hn2 : n ≤ sizeLine) (hdf : d.params.defaults = []) (hr : Room k callerA)
    (hY : ∀ (w : World) (h : Heap), YP w h → (K w.params).In h)
    (F : ∀ (w : World) (mg : Str → Option Value) (fa : Addr) (h : Heap), (K w.params).In h → h.Ns mainGlobals mg → mg d.name = some (.ref fa) →
      ∃ fd : FuncData, (∀ (s : Shared) (u : Value), BindsTo s fd ⟨[u], []⟩ [(x, u)]) ∧
        ∀ base : Heap, (K w.params).In base → base.Ns mainGlobals mg → FnOk l.prog w (K w.params) mg base (CX w) k fa fd [x] (sp w))
    (hsp : ∀ (w : World) (H : Hp) (a : Addr) (ns : List Int), ns.length ≤ n → Only H → SqL (K w.params) H a (ns.map V.int) → sp w [.ref a] H (fun v _ => v = .bl true) fun _ _ _ => False)
    (hCX : ∀ (w : World) (H : Hp) (s : Shared) (e : Value) (s' : Shared), CX w [] H s (fun _ _ _ => False) e s' → False) :
    PySem.W.WalkO q loose XP YP l.row.toRowW d [] (fun f vs => PySem.call f vs) := by
  refine Att.attach_call hn hdf fun w s₀ s₁ mg mb fa o pm cd doc a vs ns G Y ho hd hcd hmg hobj hints hlen hg => ?_
  have KX := hY w _ Y
  obtain ⟨fd, hb, hF⟩ := F w mg fa _ KX G.T.g hmg
  exact law_call KX G.T.g G.T.b G.T.builtins G.T.nolimit hg hobj hints (Nat.le_trans hlen hn2) hr hF hb (fun H hO hS => hsp w H a ns hlen hO hS) fun H e s' => hCX w H s₁ e s'
/-- the same where the promise hangs on the written part alone: (sp := My.sp_law), no hole under a binder -/
theorem walk_ofK {l : PySem.W.OpenLaw} {n k : Nat} {q : Program} {loose : List Str} {XP : (Str → Option Value) → Heap → Prop} {YP : World → Heap → Prop} {d : DefRec} {K : Params → PySem.W.Frag} {CX : CXT} {sp : PySem.W.Frag → Sp} {x : Str}
    (hn : l.most = some n) (hn2 : n ≤ sizeLine) (hdf : d.params.defaults = []) (hr : Room k callerA)
    (hY : ∀ (w : World) (h : Heap), YP w h → (K w.params).In h)
    (F : ∀ (w : World) (mg : Str → Option Value) (fa : Addr) (h : Heap), (K w.params).In h → h.Ns mainGlobals mg → mg d.name = some (.ref fa) →
      ∃ fd : FuncData, (∀ (s : Shared) (u : Value), BindsTo s fd ⟨[u], []⟩ [(x, u)]) ∧
        ∀ base : Heap, (K w.params).In base → base.Ns mainGlobals mg → FnOk l.prog w (K w.params) mg base CX k fa fd [x] (sp (K w.params)))
    (hsp : ∀ (K : PySem.W.Frag) (H : Hp) (a : Addr) (ns : List Int), ns.length ≤ n → Only H → SqL K H a (ns.map V.int) → sp K [.ref a] H (fun v _ => v = .bl true) fun _ _ _ => False)
    (hCX : ∀ (H : Hp) (s : Shared) (e : Value) (s' : Shared), CX [] H s (fun _ _ _ => False) e s' → False) :
    PySem.W.WalkO q loose XP YP l.row.toRowW d [] (fun f vs => PySem.call f vs) :=
  walk_of (K := K) (CX := fun _ => CX) (sp := fun w => sp (K w.params)) hn hn2 hdf hr hY F (fun w H a ns h1 h2 h3 => hsp (K w.params) H a ns h1 h2 h3) fun _ H s e s' => hCX H s e s'
end L2

/- THE LAST THEOREM (shape; LID, My.* are yours):
   My.Adr: a structure of the addresses that your layer names (classes, functions); My.Txt K t: a structure (Prop) of the equations over K;
   My.txt_mk : {K} {implicit addresses ..} (e1 : nsIn K mainGlobals "law" = some (some (.ref f))) (e2 : K.lookup f = some ⟨oc, od, .func (fnOf "law" "law" params body scope dV kV doc pm an cdv ct), sl⟩) (e3 : codeIn K cdv "law" = true) .. : ∃ t, My.Txt K t

set_option maxRecDepth 100000 in
set_option maxHeartbeats 0 in
theorem PySem.Challenge.cw_LID_holds : PySem.Challenge.rw_LID.Holds := by
  w_on; o_law; k_head; (case hw => w_witness2)
  k_fill
  refine L2.walk_of (l := PySem.Challenge.rw_LID) (n := 63) (k := 40) (x := "script") (CX := fun w => ..) (sp := fun _ => My.sp_law) rfl (by decide) rfl ⟨rfl, by decide, by decide⟩ (fun w h Y => PySem.W.kIn_of Y) ?F ?S ?C
  case F =>
    intro w mg fa h KX G hmg
    have T : ∃ t, My.Txt (L2.KOf KX) t := by
      dsimp only [L2.KOf]                          -- K must stand as «<heap const> w.params» for k_is
      refine' My.txt_mk ?e1 ?e2 ?e3 ..
      (case e1 => PySem.W.k_is)                    -- in the order: a name -> its address -> its object -> its parts
      (case e2 => PySem.W.k_is)
      ..
    obtain ⟨t, T⟩ := T
    have e0 := hmg.symm.trans (PySem.W.mg_of KX G T.law)
    cases e0                                       -- fa is the law's own address
    exact ⟨_, fun s u => .of_eq rfl, fun base kb nb => My.law_fn T kb nb⟩     -- if «.of_eq rfl» comes too early: refine' ⟨_, ?b, fun base kb nb => My.law_fn T kb nb⟩; exact fun s u => .of_eq rfl
  case S => exact fun w H a ns hl hO hS => ..
  case C => exact ..
(the tactic k_is has no namespace: write k_is) -/

/-! SHORT WORDS over the layer: a def of the text, its body, what a loop and a test want. -/
namespace L2
open PySem PySem.Spec PyProof.Rows

/-! ### the text by places -/
/-- the j-th statement of a class's body -/
def inClass (s : Stmt) (j : Nat) : Stmt := match s with
  | .ClassDef _ _ _ body _ _ _ _ _ _ _ => body.getD j (.Pass ⟨0, 0, 0, 0⟩)
  | _ => .Pass ⟨0, 0, 0, 0⟩
def defArgs (s : Stmt) : Arguments := match s with
  | .FunctionDef _ a _ _ _ _ _ _ _ _ => a
  | _ => { posonlyargs := [], args := [], vararg := none, kwonlyargs := [], kw_defaults := [], kwarg := none, defaults := [] }
def defBody (s : Stmt) : List Stmt := match s with
  | .FunctionDef _ _ b _ _ _ _ _ _ _ => b
  | _ => []
def defScope (s : Stmt) : Scope := match s with
  | .FunctionDef _ _ _ _ _ _ sc _ _ _ => sc
  | _ => { kind := .function, names := [], isGenerator := false, isCoroutine := false }

/-! ### no exception leaves a def -/
abbrev CX0 : CXT := fun _ _ _ _ _ _ => False
abbrev E0 : XK := fun _ _ _ => False
theorem pass0 {X : Cx} : Passes CX0 X E0 := fun _ _ _ _ _ _ _ h => h.elim

/-! ### a def (or method) of the text as it stands behind the top -/
structure Fun (K : PySem.W.Frag) (x qual : Str) (st : Stmt) (f : Addr) (fd : FuncData) : Prop where
  ex : ∃ (oc : Value) (od : Option Addr) (kV doc pm : Value) (an : Option Addr) (cdv ct : Value) (osl : Array (Option Value)),
    fd = PySem.W.fnOf x qual (defArgs st) (defBody st) (defScope st) .none kV doc pm an cdv ct ∧ K.lookup f = some ⟨oc, od, .func fd, osl⟩ ∧ PySem.W.codeIn K cdv qual = true
  kp : PySem.W.keepIn K (.ref f) = true
section
variable {P : Program} {w : World} {K : PySem.W.Frag} {mg : Str → Option Value} {base : Heap}
/-- THE RULE for a def: its body as a term of rules, and the reading of that term -/
theorem Fun.ok {x qual : Str} {st : Stmt} {f : Addr} {fd : FuncData} {N ps : List Str} {k : Nat} {sp : Sp} (F : Fun K x qual st f fd) (S : FnScope N ps (defScope st)) (len : ∀ vs H Q E, sp vs H Q E → vs.length = ps.length)
    (hbody : ∀ (cdv : Value) (A : Around) (outer : List Env) (s : Shared) (H : Hp) (vs : List V) (Q : VK) (E : XK), Room k (A.deeper (envOfC qual (defScope st) s.heap.objs.size f cdv)) → sp vs H Q E →
      ∃ t, PSs (cxOf CX0 P w K mg base N qual (defScope st) f cdv A outer s H E).nox (defBody st) t ∧ t { nx := fun _ H' => Q .non H', rt := Q } (start N vs) H) : FnOk P w K mg base CX0 (k + 1) f fd ps sp := by
  obtain ⟨oc, od, kV, doc, pm, an, cdv, ct, osl, rfl, lk, hcd⟩ := F.ex
  refine fn_of lk hcd S len fun A outer s H vs Q E hr hsp => ?_
  obtain ⟨t, h, q⟩ := hbody cdv A outer s H vs Q E hr hsp
  exact ⟨t, h.nox, q⟩
/-- how its arguments bind (no defaults): h is «fun _ _ _ _ _ _ us hl => match us, hl with | [_, _], _ => rfl», one _ a parameter -/
theorem Fun.binds {x qual : Str} {st : Stmt} {f : Addr} {fd : FuncData} {ps : List Str} (F : Fun K x qual st f fd)
    (h : ∀ (kV doc pm : Value) (an : Option Addr) (cdv ct : Value) (us : List Value), us.length = ps.length → bindArgs (PySem.W.fnOf x qual (defArgs st) (defBody st) (defScope st) .none kV doc pm an cdv ct) ⟨us, []⟩ = pure (ps.zip us)) : Binds K fd ps [] := by
  obtain ⟨oc, od, kV, doc, pm, an, cdv, ct, osl, rfl, lk, hcd⟩ := F.ex
  exact .all (h kV doc pm an cdv ct)
theorem fun_mk {x qual : Str} {st : Stmt} {f : Addr} {oc : Value} {od an : Option Addr} {osl : Array (Option Value)} {kV doc pm cdv ct : Value} (l : K.lookup f = some ⟨oc, od, .func (PySem.W.fnOf x qual (defArgs st) (defBody st) (defScope st) .none kV doc pm an cdv ct), osl⟩)
    (c : PySem.W.codeIn K cdv qual = true) (k : PySem.W.keepIn K (.ref f) = true) : Fun K x qual st f (PySem.W.fnOf x qual (defArgs st) (defBody st) (defScope st) .none kV doc pm an cdv ct) := ⟨⟨oc, od, kV, doc, pm, an, cdv, ct, osl, rfl, l, c⟩, k⟩
end
theorem hu_of {A : Around} {k : Nat} (hr : Room k A) : A.units + 1 < cLine := Nat.lt_of_le_of_lt (Nat.add_le_add_left (by decide : 1 ≤ 64) _) hr.units
theorem small1000 {n : Nat} (h : n ≤ 1000) : n < sizeLine := Nat.lt_of_le_of_lt h (by decide)

/-! ### expressions in short: the name that stands in the i-th slot -/
section
variable {X : Cx}
theorem pv (i : Nat) {x : Str} {pos : Pos} (hN : X.N[i]? = some x := by rfl) (hv : Vis X.env.scope x := by first | exact Or.inl rfl | exact Or.inr (Or.inl rfl) | exact Or.inr (Or.inr rfl)) (hd : (x == ("__debug__" : Str)) = false := by decide)
    (hcd : (x == ("__classdict__" : Str)) = false := by decide) : PE X (.Name x pos) (tVar i) := pe_var hN hv hd hcd
end

/-! ### tests -/
theorem iteF {A B : Prop} (h : B) : if false = true then A else B := by
  rw [if_neg Bool.false_ne_true]
  exact h
theorem iteT {A B : Prop} (h : A) : if true = true then A else B := by
  rw [if_pos rfl]
  exact h
theorem ite2 {c A B : Prop} [Decidable c] (h1 : c → A) (h2 : ¬ c → B) : if c then A else B := by
  by_cases h : c
  · rw [if_pos h]
    exact h1 h
  · rw [if_neg h]
    exact h2 h
theorem iteNS {c A B : Prop} [Decidable c] (hc : c) (h : B) : if (!decide c) = true then A else B := by
  rw [decide_eq_true hc]
  exact iteF h

/-! ### heaps -/
/-- all that was tracked is as it was -/
def Same (H H' : Hp) : Prop := ∀ b o, H b = some o → H' b = some o
theorem Same.refl (H : Hp) : Same H H := fun _ _ h => h
theorem Same.trans {H H1 H2 : Hp} (a : Same H H1) (b : Same H1 H2) : Same H H2 := fun c o h => b c o (a c o h)
theorem Same.free {H H' : Hp} (e : Same H H') {l : Addr} (h : H' l = Option.none) : H l = Option.none := by
  cases q : H l with
  | none => rfl
  | some o =>
    rw [e l o q] at h
    cases h
theorem Same.seq {K : PySem.W.Frag} {H H' : Hp} {a : Addr} {xs : List V} (e : Same H H') (h : SqL K H a xs) : SqL K H' a xs := by
  rcases h with (h | ⟨o, h⟩) | h
  · exact .inl (.inl (e _ _ h))
  · exact .inl (.inr ⟨o, e _ _ h⟩)
  · exact .inr h

end L2
namespace L2
open PySem PySem.Spec PyProof.Rows

/-! ### lists of pairs as tables -/
section
variable {κ : Type} [DecidableEq κ]
def valV (kvs : List (κ × V)) (k : κ) : Option V := (kvs.find? fun kv => decide (kv.1 = k)).map (·.2)
/-- in its place, or at the end -/
def putK (kvs : List (κ × V)) (k : κ) (v : V) : List (κ × V) :=
  if (kvs.any fun kv => decide (kv.1 = k)) = true then kvs.map (fun kv => if kv.1 = k then (kv.1, v) else kv) else kvs ++ [(k, v)]
def dropK (kvs : List (κ × V)) (k : κ) : List (κ × V) := kvs.filter fun kv => decide (kv.1 ≠ k)

theorem valV_nil {k : κ} : valV ([] : List (κ × V)) k = none := rfl
theorem valV_pos {p : κ × V} {r : List (κ × V)} {k : κ} (e : p.1 = k) : valV (p :: r) k = some p.2 := by simp [valV, List.find?_cons, e]
theorem valV_neg {p : κ × V} {r : List (κ × V)} {k : κ} (e : ¬ p.1 = k) : valV (p :: r) k = valV r k := by simp [valV, List.find?_cons, e]
theorem valV_any (k : κ) : ∀ kvs : List (κ × V), (kvs.any fun kv => decide (kv.1 = k)) = (valV kvs k).isSome
  | [] => rfl
  | p :: r => by
    rw [List.any_cons]
    by_cases e : p.1 = k
    · simp only [valV_pos e, decide_eq_true e, Bool.true_or, Option.isSome_some]
    · rw [valV_neg e, decide_eq_false e, Bool.false_or]; exact valV_any k r
theorem valV_map (k j : κ) (y : V) : ∀ kvs : List (κ × V), valV (kvs.map fun kv => if kv.1 = k then (kv.1, y) else kv) j = (valV kvs j).map fun x => if j = k then y else x
  | [] => rfl
  | p :: r => by
    have ih := valV_map k j y r
    rw [List.map_cons]
    by_cases h : p.1 = k
    · rw [if_pos h]
      by_cases e : p.1 = j
      · rw [valV_pos (p := (p.1, y)) e, valV_pos e, Option.map_some, if_pos (e.symm.trans h)]
      · rw [valV_neg (p := (p.1, y)) e, valV_neg e, ih]
    · rw [if_neg h]
      by_cases e : p.1 = j
      · rw [valV_pos (p := p) e, valV_pos e, Option.map_some, if_neg (fun z => h (e.trans z))]
      · rw [valV_neg (p := p) e, valV_neg e, ih]
theorem valV_snoc (k j : κ) (y : V) : ∀ kvs : List (κ × V), valV kvs k = none → valV (kvs ++ [(k, y)]) j = if j = k then some y else valV kvs j
  | [], _ => by
    by_cases e : k = j
    · rw [if_pos e.symm]; exact valV_pos (p := (k, y)) e
    · rw [if_neg (fun z => e z.symm)]; exact valV_neg (p := (k, y)) e
  | p :: r, hn => by
    rw [List.cons_append]
    have hk : ¬ p.1 = k := fun z => by rw [valV_pos z] at hn; cases hn
    rw [valV_neg hk] at hn
    have ih := valV_snoc k j y r hn
    by_cases e : p.1 = j
    · rw [valV_pos e, valV_pos e, if_neg (fun z => hk (e.trans z))]
    · rw [valV_neg e, valV_neg e, ih]
theorem valV_put (kvs : List (κ × V)) (k j : κ) (y : V) : valV (putK kvs k y) j = if j = k then some y else valV kvs j := by
  unfold putK
  by_cases a : (kvs.any fun kv => decide (kv.1 = k)) = true
  · rw [if_pos a, valV_map]
    rw [valV_any] at a
    by_cases e : j = k
    · obtain ⟨x, hx⟩ := Option.isSome_iff_exists.mp a
      rw [if_pos e, e, hx, Option.map_some, if_pos rfl]
    · rw [if_neg e]
      cases valV kvs j with
      | none => rfl
      | some x => rw [Option.map_some, if_neg e]
  · rw [if_neg a]
    refine valV_snoc k j y kvs ?_
    rw [valV_any] at a
    cases q : valV kvs k with
    | none => rfl
    | some x => rw [q] at a; exact (a rfl).elim
theorem length_putK (kvs : List (κ × V)) (k : κ) (v : V) : (putK kvs k v).length ≤ kvs.length + 1 := by
  unfold putK
  split
  · rw [List.length_map]; omega
  · rw [List.length_append, List.length_cons, List.length_nil]; omega
theorem putK_new {kvs : List (κ × V)} {k : κ} (v : V) (h : valV kvs k = none) : putK kvs k v = kvs ++ [(k, v)] := by
  unfold putK
  rw [valV_any, h]
  exact if_neg (by decide)

theorem RelO.isSome_eq {o : Option V} {u : Option Value} (r : RelO o u) : o.isSome = u.isSome := by
  cases o with
  | none => cases u with
    | none => rfl
    | some _ => exact (show False from r).elim
  | some _ => cases u with
    | none => exact (show False from r).elim
    | some _ => rfl
theorem RelO.getD {o : Option V} {u : Option Value} {d : V} {d' : Value} (r : RelO o u) (rd : RelV d d') : RelV (o.getD d) (u.getD d') := by
  cases o with
  | none => cases u with
    | none => exact rd
    | some _ => exact (show False from r).elim
  | some _ => cases u with
    | none => exact (show False from r).elim
    | some _ => exact r

/-- raw tables of the same keys -/
theorem KV.val {kvs : List (κ × V)} {vs : List (κ × Value)} (r : KV kvs vs) (k : κ) : RelO (valV kvs k) (valueAt vs k) := by
  unfold KV at r
  induction r with
  | nil => exact True.intro
  | @cons p q ps qs h t ih =>
    obtain ⟨h1, h2⟩ := h
    by_cases e : p.1 = k
    · have e' : q.1 = k := h1.symm.trans e
      have b : valueAt (q :: qs) k = some q.2 := by simp [valueAt, List.find?_cons, e']
      rw [valV_pos e, b]; exact h2
    · have e' : ¬ q.1 = k := fun z => e (h1.trans z)
      have b : valueAt (q :: qs) k = valueAt qs k := by simp [valueAt, List.find?_cons, e']
      rw [valV_neg e, b]; exact ih
theorem KV.any {kvs : List (κ × V)} {vs : List (κ × Value)} (r : KV kvs vs) (k : κ) : (kvs.any fun kv => decide (kv.1 = k)) = vs.any fun kv => decide (kv.1 = k) := by
  unfold KV at r
  induction r with
  | nil => rfl
  | cons h t ih => rw [List.any_cons, List.any_cons, ih, h.1]
theorem KV.repl {kvs : List (κ × V)} {vs : List (κ × Value)} (r : KV kvs vs) (k : κ) {y : V} {u : Value} (ry : RelV y u) :
    KV (kvs.map fun kv => if kv.1 = k then (kv.1, y) else kv) (vs.map fun kv => if kv.1 = k then (kv.1, u) else kv) := by
  unfold KV at r ⊢
  induction r with
  | nil => exact .nil
  | @cons p q ps qs h t ih =>
    rw [List.map_cons, List.map_cons]
    refine .cons ?_ ih
    obtain ⟨h1, h2⟩ := h
    by_cases e : p.1 = k
    · rw [if_pos e, if_pos (h1.symm.trans e)]; exact ⟨h1, ry⟩
    · rw [if_neg e, if_neg (fun z => e (h1.trans z))]; exact ⟨h1, h2⟩
theorem KV.put {kvs : List (κ × V)} {vs : List (κ × Value)} (r : KV kvs vs) (k : κ) {y : V} {u : Value} (ry : RelV y u) : KV (putK kvs k y) (stored vs k u) := by
  unfold putK stored
  rw [r.any k]
  by_cases e : (vs.any fun kv => decide (kv.1 = k)) = true
  · rw [if_pos e, if_pos e]; exact r.repl k ry
  · rw [if_neg e, if_neg e]; exact Paired.snoc r ⟨rfl, ry⟩
theorem KV.drop {kvs : List (κ × V)} {vs : List (κ × Value)} (r : KV kvs vs) (k : κ) : KV (dropK kvs k) (without vs k) := by
  unfold KV at r ⊢
  unfold dropK without
  induction r with
  | nil => exact .nil
  | @cons p q ps qs h t ih =>
    obtain ⟨h1, h2⟩ := h
    rw [List.filter_cons, List.filter_cons]
    by_cases e : p.1 = k
    · have a : ¬ decide (p.1 ≠ k) = true := by simp [e]
      have b : ¬ decide (q.1 ≠ k) = true := by simp [h1.symm.trans e]
      rw [if_neg a, if_neg b]; exact ih
    · have e' : ¬ q.1 = k := fun z => e (h1.trans z)
      have a : decide (p.1 ≠ k) = true := by simp [e]
      have b : decide (q.1 ≠ k) = true := by simp [e']
      rw [if_pos a, if_pos b]; exact .cons ⟨h1, h2⟩ ih
theorem KV.keys {kvs : List (κ × V)} {vs : List (κ × Value)} (r : KV kvs vs) : kvs.map (·.1) = vs.map (·.1) := by
  unfold KV at r
  induction r with
  | nil => rfl
  | cons h t ih => rw [List.map_cons, List.map_cons, ih, h.1]
theorem KV.length {kvs : List (κ × V)} {vs : List (κ × Value)} (r : KV kvs vs) : kvs.length = vs.length := Paired.length r
theorem dropK_le (kvs : List (κ × V)) (k : κ) : (dropK kvs k).length ≤ kvs.length := List.length_filter_le _ _
end


/-! ### a tracked dict, its keys ints and texts or tuples of these -/
theorem kV_is {P : Program} {w : World} {k : Key} {u : Value} (r : RelV (kV k) u) : (mixKind P w).is k u = true := by
  cases k with
  | inl i => obtain ⟨t, e⟩ := (show ∃ t, u = Value.int i t from r); subst e; exact mixKind_int P w i t
  | inr x => obtain ⟨t, e⟩ := (show ∃ t, u = Value.str x t from r); subst e; exact mixKind_str P w x t
theorem kV_inj {a b : Key} (e : kV a = kV b) : a = b := by
  cases a with
  | inl i => cases b with
    | inl j => have e' : V.int i = V.int j := e; injection e' with e'; rw [e']
    | inr y => exact nomatch (show V.int i = V.str y from e)
  | inr x => cases b with
    | inl j => exact nomatch (show V.str x = V.int j from e)
    | inr y => have e' : V.str x = V.str y := e; injection e' with e'; rw [e']
theorem kVs_inj : ∀ {a b : List Key}, a.map kV = b.map kV → a = b
  | [], [], _ => rfl
  | [], _ :: _, e => by simp at e
  | _ :: _, [], e => by simp at e
  | x :: xs, y :: ys, e => by
    rw [List.map_cons, List.map_cons] at e
    injection e with e1 e2
    rw [kV_inj e1, kVs_inj e2]
theorem items_are {P : Program} {w : World} : ∀ {ks : List Key} {us : List Value}, Vals (ks.map kV) us → ItemsAre (mixKind P w) ks us
  | [], _, r => by rw [List.map_nil] at r; cases r; exact .nil
  | k :: ks, _, r => by
    rw [List.map_cons] at r
    cases r with
    | cons h t => exact .cons (kV_is h) (items_are t)

/-- raw entries of a dict with tuple keys -/
abbrev KT (H : Hp) : List (List Key × V) → List (List Key × Addr × Value) → Prop := Paired fun p q => p.1 = q.1 ∧ H q.2.1 = some (.tup (p.1.map kV)) ∧ RelV p.2 q.2.2
theorem KT.val {H : Hp} {kvs : List (List Key × V)} {xs : List (List Key × Addr × Value)} (r : KT H kvs xs) (k : List Key) : RelO (valV kvs k) ((atKey xs k).map (·.2)) := by
  induction r with
  | nil => exact True.intro
  | @cons p q ps qs h t ih =>
    obtain ⟨h1, _, h2⟩ := h
    by_cases e : p.1 = k
    · have e' : q.1 = k := h1.symm.trans e
      have b : atKey (q :: qs) k = some q.2 := by simp [atKey, List.find?_cons, e']
      rw [valV_pos e, b]; exact h2
    · have e' : ¬ q.1 = k := fun z => e (h1.trans z)
      have b : atKey (q :: qs) k = atKey qs k := by simp [atKey, List.find?_cons, e']
      rw [valV_neg e, b]; exact ih
theorem KT.repl {H : Hp} {kvs : List (List Key × V)} {xs : List (List Key × Addr × Value)} (r : KT H kvs xs) (k : List Key) {y : V} {u : Value} (ry : RelV y u) :
    KT H (kvs.map fun kv => if kv.1 = k then (kv.1, y) else kv) (xs.map (putAt k u)) := by
  induction r with
  | nil => exact .nil
  | @cons p q ps qs h t ih =>
    rw [List.map_cons, List.map_cons]
    refine .cons ?_ ih
    obtain ⟨h1, h2, h3⟩ := h
    unfold putAt
    by_cases e : p.1 = k
    · rw [if_pos e, if_pos (h1.symm.trans e)]; exact ⟨h1, h2, ry⟩
    · rw [if_neg e, if_neg (fun z => e (h1.trans z))]; exact ⟨h1, h2, h3⟩
theorem KT.put {H : Hp} {kvs : List (List Key × V)} {xs : List (List Key × Addr × Value)} (r : KT H kvs xs) (k : List Key) {b : Addr} {y : V} {u : Value} (hb : H b = some (.tup (k.map kV))) (ry : RelV y u) :
    KT H (putK kvs k y) (storedH xs k b u) := by
  have e : (kvs.any fun kv => decide (kv.1 = k)) = (atKey xs k).isSome := by
    rw [valV_any, (r.val k).isSome_eq, Option.isSome_map]
  unfold putK storedH
  rw [e]
  by_cases q : (atKey xs k).isSome = true
  · rw [if_pos q, if_pos q]; exact r.repl k ry
  · rw [if_neg q, if_neg q]; exact Paired.snoc r ⟨rfl, hb, ry⟩
theorem KT.keeps {H H' : Hp} {kvs : List (List Key × V)} {xs : List (List Key × Addr × Value)} (r : KT H kvs xs) (ht : ∀ b ys, H b = some (.tup ys) → H' b = some (.tup ys)) : KT H' kvs xs :=
  Paired.mapP r fun _ _ z => ⟨z.1, ht _ _ z.2.1, z.2.2⟩

section
variable {P : Program} {w : World} {H : Hp} {h : Heap} {a : Addr}
theorem rd_of {u : HO} (ok : HOk P w H h) (e : Rd H a u) : ObjOk P w H h a u := e.ok ok
theorem dk_rd {kvs : List (Key × V)} (ok : HOk P w H h) (e : Rd H a (.dK kvs)) : kvs.length ≤ sizeLine ∧ (a == sysModules) = false ∧ ∃ vs, KV kvs vs ∧ h.DictOf (mixKind P w) a vs :=
  show ObjOk P w H h a (.dK kvs) from rd_of ok e
theorem dk_of {kvs : List (Key × V)} (ok : HOk P w H h) (e : H a = some (.dK kvs)) : kvs.length ≤ sizeLine ∧ (a == sysModules) = false ∧ ∃ vs, KV kvs vs ∧ h.DictOf (mixKind P w) a vs := dk_rd ok (.inl e)
/-- a tracked tuple of ints and texts is a key -/
theorem key_of {ks : List Key} (ok : HOk P w H h) (e : H a = some (.tup (ks.map kV))) : (tupleKind (mixKind P w)).is h ks a := by
  obtain ⟨_, its, r, o, h1, h2, n, h3⟩ := (show ObjOk P w H h a (.tup (ks.map kV)) from ok a _ e)
  exact ⟨o, its.toArray, n, h1, h2, h3, by simpa using items_are r⟩
theorem dt_rd {kvs : List (List Key × V)} (ok : HOk P w H h) (e : Rd H a (.dT kvs)) : kvs.length ≤ sizeLine ∧ (a == sysModules) = false ∧
    ∃ xs, KT H kvs xs ∧ h.DictOfH (tupleKind (mixKind P w)) a xs := by
  obtain ⟨z, y, xs, r, o, es, ep, h1, h2, h3, h4, h5⟩ := (show ObjOk P w H h a (.dT kvs) from rd_of ok e)
  refine ⟨z, y, xs, r, o, es, ep, h1, h2, h3, h4, fun x hx => ?_, h5⟩
  have all : ∀ {l : List (List Key × V)} {m : List (List Key × Addr × Value)}, KT H l m → ∀ x ∈ m, (tupleKind (mixKind P w)).is h x.1 x.2.1 := by
    intro l m q
    induction q with
    | nil => intro x hx; exact nomatch hx
    | @cons p q ps qs hq t ih =>
      intro x hx
      rcases List.mem_cons.mp hx with e | hx
      · subst e
        exact key_of ok (by rw [← hq.1]; exact hq.2.1)
      · exact ih x hx
  exact all r x hx
theorem dt_of {kvs : List (List Key × V)} (ok : HOk P w H h) (e : H a = some (.dT kvs)) : kvs.length ≤ sizeLine ∧ (a == sysModules) = false ∧
    ∃ xs, KT H kvs xs ∧ h.DictOfH (tupleKind (mixKind P w)) a xs := dt_rd ok (.inl e)
end

/-- what the dict at a holds at the key y -/
def DGet (H : Hp) (a : Addr) (y : V) (r : Option V) : Prop :=
  (∃ kvs k, Rd H a (.dK kvs) ∧ y = kV k ∧ r = valV kvs k) ∨ ∃ kvs k b, Rd H a (.dT kvs) ∧ y = .ref b ∧ H b = some (.tup (k.map kV)) ∧ r = valV kvs k
/-- the heap behind a[y] = v -/
def DPut (H : Hp) (a : Addr) (y v : V) (H' : Hp) : Prop :=
  (∃ kvs k, H a = some (.dK kvs) ∧ y = kV k ∧ kvs.length < sizeLine ∧ H' = upd H a (.dK (putK kvs k v))) ∨
  ∃ kvs k b, H a = some (.dT kvs) ∧ y = .ref b ∧ H b = some (.tup (k.map kV)) ∧ kvs.length < sizeLine ∧ H' = upd H a (.dT (putK kvs k v))
theorem DGet.k {H : Hp} {a : Addr} {kvs : List (Key × V)} {k : Key} (e : H a = some (.dK kvs)) : DGet H a (kV k) (valV kvs k) := .inl ⟨kvs, k, .inl e, rfl, rfl⟩
theorem DGet.t {H : Hp} {a b : Addr} {kvs : List (List Key × V)} {k : List Key} (e : H a = some (.dT kvs)) (eb : H b = some (.tup (k.map kV))) : DGet H a (.ref b) (valV kvs k) := .inr ⟨kvs, k, b, .inl e, rfl, eb, rfl⟩
theorem DPut.k {H : Hp} {a : Addr} {kvs : List (Key × V)} {k : Key} {v : V} (e : H a = some (.dK kvs)) (hl : kvs.length < sizeLine) : DPut H a (kV k) v (upd H a (.dK (putK kvs k v))) := .inl ⟨kvs, k, e, rfl, hl, rfl⟩
theorem DPut.t {H : Hp} {a b : Addr} {kvs : List (List Key × V)} {k : List Key} {v : V} (e : H a = some (.dT kvs)) (eb : H b = some (.tup (k.map kV))) (hl : kvs.length < sizeLine) :
    DPut H a (.ref b) v (upd H a (.dT (putK kvs k v))) := .inr ⟨kvs, k, b, e, rfl, eb, hl, rfl⟩


section
variable {X : Cx} {pins : List (Addr × Obj)} {σ : St} {H : Hp} {s : Shared} {a : Addr} {y v : V} {u r : Value} {o : Option V} {A : Around} {E : Value → Shared → Prop}

theorem Inv.big (I : Inv X pins σ H s) : sysModules < s.heap.objs.size := by
  have h : mainGlobals < s.heap.objs.size := (I.mod.glob.keeps I.bk).lt
  exact Nat.lt_trans (by decide) h

/-- d[y], there -/
theorem d_getItem {Q : Value → Shared → Prop} (hu : A.units + 1 < cLine) (I : Inv X pins σ H s) (g : DGet H a y (some v)) (ry : RelV y u) (h : ∀ w' s', Inv X pins σ H s' → RelV v w' → Q w' s') :
    wpAny (model X.prog X.w) A (getItem (.ref a) u) Q E s := by
  rcases g with ⟨kvs, k, e, ey, l⟩ | ⟨kvs, k, b, e, ey, eb, l⟩
  · subst ey
    obtain ⟨z, hd, vs, rel, dd⟩ := dk_rd I.hok e
    obtain ⟨w', hw, rw'⟩ := RelO.some_of (v := v) (o := valueAt vs k) (by rw [l]; exact rel.val k)
    exact wpAny_getItem_of (kV_is ry) dd.mapOf hw (h w' _ (I.tok _) rw')
  · subst ey
    cases (show u = Value.ref b from ry)
    obtain ⟨z, hd, xs, rel, dd⟩ := dt_rd I.hok e
    obtain ⟨w', hw, rw'⟩ := RelO.some_of (v := v) (o := (atKey xs k).map (·.2)) (by rw [l]; exact rel.val k)
    obtain ⟨p, hp, hp2⟩ := Option.map_eq_some_iff.mp hw
    refine wpAny_getItem_heap (tupleKind_room_in1 hu) (key_of I.hok eb) dd hp ?_
    rw [hp2]
    exact h w' _ (I.tok _) rw'
/-- y in d -/
theorem d_in {Q : Value → Shared → Prop} (hu : A.units + 1 < cLine) (I : Inv X pins σ H s) (g : DGet H a y o) (ry : RelV y u) (h : ∀ s', Inv X pins σ H s' → Q (.bool o.isSome) s') :
    wpAny (model X.prog X.w) A (compareOp .In u (.ref a)) Q E s := by
  rcases g with ⟨kvs, k, e, ey, l⟩ | ⟨kvs, k, b, e, ey, eb, l⟩
  · subst ey
    obtain ⟨z, hd, vs, rel, dd⟩ := dk_rd I.hok e
    refine wpAny_in_of (kV_is ry) hd dd.mapOf ?_
    rw [← (rel.val k).isSome_eq, ← l]
    exact h _ (I.tok _)
  · subst ey
    cases (show u = Value.ref b from ry)
    obtain ⟨z, hd, xs, rel, dd⟩ := dt_rd I.hok e
    refine wpAny_in_heap (tupleKind_room_in1 hu) (key_of I.hok eb) hd dd ?_
    have q := (rel.val k).isSome_eq
    rw [Option.isSome_map] at q
    rw [← q, ← l]
    exact h _ (I.tok _)
theorem d_notIn {Q : Value → Shared → Prop} (hu : A.units + 1 < cLine) (I : Inv X pins σ H s) (g : DGet H a y o) (ry : RelV y u) (h : ∀ s', Inv X pins σ H s' → Q (.bool (!o.isSome)) s') :
    wpAny (model X.prog X.w) A (compareOp .NotIn u (.ref a)) Q E s := by
  rcases g with ⟨kvs, k, e, ey, l⟩ | ⟨kvs, k, b, e, ey, eb, l⟩
  · subst ey
    obtain ⟨z, hd, vs, rel, dd⟩ := dk_rd I.hok e
    refine wpAny_notIn_of (kV_is ry) hd dd.mapOf ?_
    rw [← (rel.val k).isSome_eq, ← l]
    exact h _ (I.tok _)
  · subst ey
    cases (show u = Value.ref b from ry)
    obtain ⟨z, hd, xs, rel, dd⟩ := dt_rd I.hok e
    refine wpAny_notIn_heap (tupleKind_room_in1 hu) (key_of I.hok eb) hd dd ?_
    have q := (rel.val k).isSome_eq
    rw [Option.isSome_map] at q
    rw [← q, ← l]
    exact h _ (I.tok _)
/-- a dict's object is replaced -/
theorem d_write {h' : Heap} {t' : Nat} {ob : HO} (I : Inv X pins σ H s) (mu : Mut (H a)) (hs : Heap.SameBut a s.heap h') (he : ∃ q, h'.get? a = some q) (new : ObjOk X.prog X.w (upd H a ob) h' a ob) :
    Inv X pins σ (upd H a ob) { s with heap := h', toks := t' } :=
  I.write (x := a) (e := a) mu (.inl rfl) (fun b q hb z => (hs.2 b hb).trans z) he new
theorem dk_new {P : Program} {w : World} {H' : Hp} {h' : Heap} {kvs : List (Key × V)} {vs : List (Key × Value)} (z : kvs.length ≤ sizeLine) (hd : (a == sysModules) = false) (rel : KV kvs vs) (dd : h'.DictOf (mixKind P w) a vs) :
    ObjOk P w H' h' a (.dK kvs) := ⟨z, hd, vs, rel, dd⟩
/-- d[y] = v -/
theorem d_setItem {H' : Hp} {Q : Unit → Shared → Prop} (hu : A.units + 1 < cLine) (I : Inv X pins σ H s) (g : DPut H a y v H') (ry : RelV y u) (rv : RelV v r) (h : ∀ s', Inv X pins σ H' s' → Q () s') :
    wpAny (model X.prog X.w) A (setItem (.ref a) u r) Q E s := by
  rcases g with ⟨kvs, k, e, ey, l, eH⟩ | ⟨kvs, k, b, e, ey, eb, l, eH⟩
  · subst ey eH
    obtain ⟨z, hd, vs, rel, dd⟩ := dk_of I.hok e
    have hz : vs.length ≤ sizeLine := by rw [← rel.length]; exact z
    have hl : (putK kvs k v).length ≤ sizeLine := by have := length_putK kvs k v; omega
    refine wpAny_setItem_pairs (hsz := hz) (kV_is ry) dd fun h' dd' hs => h _ ?_
    have he : ∃ q, h'.get? a = some q := let ⟨q, _, _, hq, _⟩ := dd'; ⟨q, hq⟩
    exact d_write I (by rw [e]; exact True.intro) hs he (dk_new hl hd (rel.put k rv) dd')
  · subst ey eH
    cases (show u = Value.ref b from ry)
    obtain ⟨z, hd, xs, rel, dd⟩ := dt_of I.hok e
    have hz : xs.length ≤ sizeLine := by rw [← Paired.length rel]; exact z
    have hl : (putK kvs k v).length ≤ sizeLine := by have := length_putK kvs k v; omega
    refine wpAny_setItem_heap (hsz := hz) (tupleKind_room_in1 hu) (key_of I.hok eb) dd fun h' dd' hs => h _ ?_
    obtain ⟨q, es, ep, hq, h2, h3, h4, _, h5⟩ := dd'
    refine d_write I (by rw [e]; exact True.intro) hs ⟨q, hq⟩ ⟨hl, hd, _, (rel.put k eb rv).keeps fun c ys ec => ?_, q, es, ep, hq, h2, h3, h4, h5⟩
    rw [upd_ne (ne_of ec e (fun z => nomatch z))]
    exact ec
end

section
variable {X : Cx} {pins : List (Addr × Obj)} {σ : St} {H : Hp} {s : Shared} {a : Addr} {kvs : List (Key × V)} {k : Key} {u : Value} {A : Around} {E : Value → Shared → Prop}
/-- del d[k] -/
theorem d_delItem {Q : Unit → Shared → Prop} (I : Inv X pins σ H s) (e : H a = some (.dK kvs)) (ry : RelV (kV k) u) (l : (valV kvs k).isSome = true) (h : ∀ s', Inv X pins σ (upd H a (.dK (dropK kvs k))) s' → Q () s') :
    wpAny (model X.prog X.w) A (delItem (.ref a) u) Q E s := by
  obtain ⟨z, hd, vs, rel, dd⟩ := dk_of I.hok e
  refine wpAny_delItem_slot dd.typeIs (by decide) PySem.F.slot_dict_delitem
    (call_meetsIn PySem.F.slot_dict_delitem dd.typeIs PySem.F.entry_dict_delitem (PySem.F.args_dict_delitem_2 _ _) (meets_dict_delitem_pairs (mixKind X.prog X.w) a (kV_is ry)) ⟨vs, dd, by rw [← rel.length]; exact z, by rw [← (rel.val k).isSome_eq]; exact l, fun h' dd' hs => h _ ?_⟩)
  have he : ∃ q, h'.get? a = some q := let ⟨q, _, _, hq, _⟩ := dd'; ⟨q, hq⟩
  exact d_write I (by rw [e]; exact True.intro) hs he (dk_new (Nat.le_trans (dropK_le kvs k) z) hd (rel.drop k) dd')
/-- d.pop(k[, x]), there -/
theorem d_pop {v : V} {more : List Value} {Q : Value → Shared → Prop} (I : Inv X pins σ H s) (e : H a = some (.dK kvs)) (ry : RelV (kV k) u) (l : valV kvs k = some v) (hm : more = [] ∨ ∃ x, more = [x])
    (h : ∀ w' s', Inv X pins σ (upd H a (.dK (dropK kvs k))) s' → RelV v w' → Q w' s') : wpAny (model X.prog X.w) A (call (.builtin "dict.pop") (.ref a :: u :: more)) Q E s := by
  obtain ⟨z, hd, vs, rel, dd⟩ := dk_of I.hok e
  obtain ⟨w', hw, rw'⟩ := RelO.some_of (v := v) (o := valueAt vs k) (by rw [← l]; exact rel.val k)
  have hp : (keyPart u).isSome = true := by
    cases k with
    | inl i => obtain ⟨t, q⟩ := (show ∃ t, u = Value.int i t from ry); subst q; rfl
    | inr x => obtain ⟨t, q⟩ := (show ∃ t, u = Value.str x t from ry); subst q; rfl
  have ha : argsOk "dict.pop" ⟨.ref a :: u :: more, []⟩ := by
    rcases hm with q | ⟨x, q⟩
    · subst q; exact PySem.F.args_dict_pop_2 _ _
    · subst q; exact PySem.F.args_dict_pop_3 _ _ _
  refine call_meetsIn PySem.F.slot_dict_pop dd.typeIs PySem.F.entry_dict_pop ha (meets_dict_pop_there (mixKind X.prog X.w) a (kV_is ry) more hm hp)
    ⟨vs, w', dd, by rw [← rel.length]; exact z, hw, fun h' dd' hs => h w' _ ?_ rw'⟩
  have he : ∃ q, h'.get? a = some q := let ⟨q, _, _, hq, _⟩ := dd'; ⟨q, hq⟩
  exact d_write I (by rw [e]; exact True.intro) hs he (dk_new (Nat.le_trans (dropK_le kvs k) z) hd (rel.drop k) dd')
/-- d.pop(k, x), not there -/
theorem d_popD {r : Value} {Q : Value → Shared → Prop} (I : Inv X pins σ H s) (e : H a = some (.dK kvs)) (ry : RelV (kV k) u) (l : valV kvs k = none) (h : ∀ s', Inv X pins σ H s' → Q r s') :
    wpAny (model X.prog X.w) A (call (.builtin "dict.pop") [.ref a, u, r]) Q E s := by
  obtain ⟨z, hd, vs, rel, dd⟩ := dk_of I.hok e
  have hn : valueAt vs k = none := RelO.none_of (by rw [← l]; exact rel.val k)
  have hp : (keyPart u).isSome = true := by
    cases k with
    | inl i => obtain ⟨t, q⟩ := (show ∃ t, u = Value.int i t from ry); subst q; rfl
    | inr x => obtain ⟨t, q⟩ := (show ∃ t, u = Value.str x t from ry); subst q; rfl
  exact call_meetsIn PySem.F.slot_dict_pop dd.typeIs PySem.F.entry_dict_pop (PySem.F.args_dict_pop_3 _ _ _) (meets_dict_pop_default (mixKind X.prog X.w) a (kV_is ry) hd hp r) ⟨vs, dd, hn, h _ (I.tok _)⟩
/-- d.clear() -/
theorem d_clear {Q : Value → Shared → Prop} (I : Inv X pins σ H s) (e : H a = some (.dK kvs)) (h : ∀ s', Inv X pins σ (upd H a (.dK [])) s' → Q .none s') : wpAny (model X.prog X.w) A (call (.builtin "dict.clear") [.ref a]) Q E s := by
  obtain ⟨z, hd, vs, rel, dd⟩ := dk_of I.hok e
  refine call_meetsIn PySem.F.slot_dict_clear dd.typeIs PySem.F.entry_dict_clear (PySem.F.args_dict_clear_1 _) (meets_dict_clear (mixKind X.prog X.w) a) ⟨vs, dd, by rw [← rel.length]; exact z, fun h' dd' hs => h _ ?_⟩
  have he : ∃ q, h'.get? a = some q := let ⟨q, _, _, hq, _⟩ := dd'; ⟨q, hq⟩
  exact d_write (t' := s.toks) I (by rw [e]; exact True.intro) hs he (dk_new (Nat.zero_le _) hd .nil dd')
/-- len(d) -/
theorem d_len {Q : Value → Shared → Prop} (I : Inv X pins σ H s) (e : Rd H a (.dK kvs)) (h : ∀ t s', Inv X pins σ H s' → Q (.int kvs.length t) s') : wpAny (model X.prog X.w) A (call (.builtin "len") [.ref a]) Q E s := by
  obtain ⟨z, hd, vs, rel, dd⟩ := dk_rd I.hok e
  refine call_len_dict hd dd (by rw [← rel.length]; rw [sizeLine_eq] at z; omega) ?_
  rw [← rel.length]
  exact h _ _ (I.tok _)
/-- if d -/
theorem d_truth {Q : Bool → Shared → Prop} (I : Inv X pins σ H s) (e : Rd H a (.dK kvs)) (h : ∀ s', Inv X pins σ H s' → Q (!kvs.isEmpty) s') : wpAny (model X.prog X.w) A (truthy (.ref a)) Q E s := by
  obtain ⟨z, hd, vs, rel, dd⟩ := dk_rd I.hok e
  refine wpAny_truthy_dict hd dd (by rw [← rel.length]; rw [sizeLine_eq] at z; omega) ?_
  have q : kvs.isEmpty = vs.isEmpty := by cases rel <;> rfl
  rw [← q]
  exact h _ (I.tok _)
end


/-! ### readings and rules -/
/-- the element of a subscription, not a slice -/
def NoSl (i : Expr) : Prop := ∀ ov iv, subscripted i false ov iv = operate [ov, iv] (getItem ov iv)
theorem subD_of {prog : Program} {w : World} {A : Around} {E : Value → Shared → Prop} {s : Shared} {env : Env} {value slice : Expr} {pos : Pos} {T id : String} {Q : Value → Shared → Prop}
    (hl : typeLookup (.type T) "__getitem__" = pure (some (.builtin id))) (hs : NoSl slice)
    (h : wpAny (model prog w) A (eval value env) (fun o s₁ => wpAny (model prog w) A (eval slice env) (fun i s₂ => s₂.TypeIs o T ∧ wpAny (model prog w) A (getItem o i) Q E s₂) E s₁) E s) :
    wpAny (model prog w) A (eval (.Subscript value slice pos) env) Q E s := by
  refine Subscript_ (wpAny_mono h (fun o s₁ h₁ => wpAny_mono h₁ (fun i s₂ h₂ => ?_) fun _ _ x => x) fun _ _ x => x)
  obtain ⟨hT, h₂⟩ := h₂
  unfold subscriptTail
  refine wpAny_bind ?_
  rw [getitemInPython_of_ne hT.not_modules]
  refine wpAny_bind (wpAny_specialOf hT hl ?_)
  have fin : wpAny (model prog w) A (subscripted slice false o i) (fun r s₃ => wpAny (model prog w) A (letTemporaryGo value o r >>= fun _ => pure r) Q E s₃) E s₂ := by
    rw [hs o i]
    exact wpAny_operating (wpAny_mono h₂ (fun r s₃ h₃ => wpAny_bind (wpAny_letTemporaryGo (wpAny_pure h₃))) fun _ _ x => x)
  first
    | exact wpAny_pure (wpAny_bind fin)
    | exact wpAny_bind (wpAny_pure (wpAny_bind fin))
    | exact wpAny_bind fin

theorem dict_typeIs {X : Cx} {pins : List (Addr × Obj)} {σ : St} {H : Hp} {s : Shared} {a : Addr} {y : V} {o : Option V} (I : Inv X pins σ H s) (g : DGet H a y o) : s.TypeIs (.ref a) "dict" := by
  rcases g with ⟨kvs, k, e, _, _⟩ | ⟨kvs, k, b, e, _, _, _⟩
  · obtain ⟨_, _, vs, _, dd⟩ := dk_rd I.hok e
    exact dd.typeIs
  · obtain ⟨_, _, xs, _, dd⟩ := dt_rd I.hok e
    exact dd.typeIs
theorem dict_noDict {X : Cx} {pins : List (Addr × Obj)} {σ : St} {H : Hp} {s : Shared} {a : Addr} {y : V} {o : Option V} (I : Inv X pins σ H s) (g : DGet H a y o) :
    ∀ b, Value.ref a = .ref b → ∃ ob, s.heap.get? b = some ob ∧ ob.dict = none := fun b q => by
  cases q
  rcases g with ⟨kvs, k, e, _, _⟩ | ⟨kvs, k, b, e, _, _, _⟩
  · obtain ⟨_, _, vs, _, ob, _, _, h1, h2, _⟩ := dk_rd I.hok e
    exact ⟨ob, h1, h2.2.1⟩
  · obtain ⟨_, _, xs, _, ob, _, _, h1, h2, _⟩ := dt_rd I.hok e
    exact ⟨ob, h1, h2.2.1⟩

/-- d[y] -/
def tDGet (td ty : TE) : TE := fun σ H Q => td σ H fun x H1 => ty σ H1 fun y H2 => ∃ a v, x = .ref a ∧ DGet H2 a y (some v) ∧ Q v H2
/-- y in d, y not in d -/
def tDIn (ty td : TE) : TE := fun σ H Q => ty σ H fun y H1 => td σ H1 fun x H2 => ∃ a o, x = .ref a ∧ DGet H2 a y o ∧ Q (.bl o.isSome) H2
def tDNotIn (ty td : TE) : TE := fun σ H Q => ty σ H fun y H1 => td σ H1 fun x H2 => ∃ a o, x = .ref a ∧ DGet H2 a y o ∧ Q (.bl (!o.isSome)) H2
/-- d[y] = v -/
def sDPut (td ty tv : TE) : TS := fun D σ H => tv σ H fun v H1 => td σ H1 fun x H2 => ty σ H2 fun y H3 => ∃ a H4, x = .ref a ∧ DPut H3 a y v H4 ∧ D.nx σ H4
/-- d[y] op= v -/
def sDAug (td ty tv : TE) (rd : V → V → Hp → VK → Prop) : TS := fun D σ H => td σ H fun x H1 => ty σ H1 fun y H2 => ∃ a v, x = .ref a ∧ DGet H2 a y (some v) ∧
  tv σ H2 fun y2 H3 => rd v y2 H3 fun z H4 => ∃ H5, DPut H4 a y z H5 ∧ D.nx σ H5
/-- del d[y] -/
def sDDel (td ty : TE) : TS := fun D σ H => td σ H fun x H1 => ty σ H1 fun y H2 => ∃ a kvs k, x = .ref a ∧ H2 a = some (.dK kvs) ∧ y = kV k ∧ (valV kvs k).isSome = true ∧ D.nx σ (upd H2 a (.dK (dropK kvs k)))

section
variable {X : Cx} {o i e value : Expr} {pos pos' tpos : Pos} {td ty tv : TE}
theorem pe_dget (hu : X.A.units + 1 < cLine) (ho : PE X o td) (hi : PE X i ty) (hs : NoSl i) : PE X (.Subscript o i pos) (tDGet td ty) := by
  refine .mk ?_
  intro pins s σ H Q I h
  refine subD_of PySem.F.slot_dict_getitem.lookup hs (thn (ho pins s σ H _ I h) fun u s1 ⟨x, H1, I1, rx, q1⟩ => thn (hi pins s1 σ H1 _ I1 q1) fun iv s2 ⟨y, H2, I2, ry, a, v, ex, g, q2⟩ => ?_)
  subst ex
  obtain rfl : u = Value.ref a := rx
  exact ⟨dict_typeIs I2 g, d_getItem hu I2 g ry fun w' s3 I3 rw' => ⟨v, H2, I3, rw', q2⟩⟩
theorem pc_din (hu : X.A.units + 1 < cLine) (hi : PE X i ty) (ho : PE X o td) : PC X .In i o (tDIn ty td) := by
  intro pins s σ H Q I h
  refine thn (hi pins s σ H _ I h) fun iv s1 ⟨y, H1, I1, ry, q1⟩ => thn (ho pins s1 σ H1 _ I1 q1) fun u s2 ⟨x, H2, I2, rx, a, ov, ex, g, q2⟩ => ?_
  subst ex
  obtain rfl : u = Value.ref a := rx
  exact d_in hu I2 g ry fun s3 I3 => ⟨.bl ov.isSome, H2, I3, rfl, q2⟩
theorem pc_dnotin (hu : X.A.units + 1 < cLine) (hi : PE X i ty) (ho : PE X o td) : PC X .NotIn i o (tDNotIn ty td) := by
  intro pins s σ H Q I h
  refine thn (hi pins s σ H _ I h) fun iv s1 ⟨y, H1, I1, ry, q1⟩ => thn (ho pins s1 σ H1 _ I1 q1) fun u s2 ⟨x, H2, I2, rx, a, ov, ex, g, q2⟩ => ?_
  subst ex
  obtain rfl : u = Value.ref a := rx
  exact d_notIn hu I2 g ry fun s3 I3 => ⟨.bl (!ov.isSome), H2, I3, rfl, q2⟩
theorem ps_dput (hu : X.A.units + 1 < cLine) (ho : PE X o td) (hi : PE X i ty) (hv : PE X value tv) (hs : swapsWith value (some (.Subscript o i pos')) pos.line X.env = pure false) :
    PS X (.Assign [.Subscript o i pos'] value pos) (sDPut td ty tv) := by
  refine .mk ?_
  intro pins s σ H D I h
  refine wpAny_Assign_Subscript (thn (hv pins s σ H _ I h) fun r s1 ⟨v, H1, I1, rv, q1⟩ => thn (ho pins s1 σ H1 _ I1 q1) fun u s2 ⟨x, H2, I2, rx, q2⟩ => thn (hi pins s2 σ H2 _ I2 q2) fun iv s3 ⟨y, H3, I3, ry, a, H4, ex, g, q3⟩ => ?_) hs
  subst ex
  obtain rfl : u = Value.ref a := rx
  exact d_setItem hu I3 g ry rv fun s4 I4 => ⟨σ, H4, I4, q3⟩
theorem ps_daug {op : Operator} {rd : V → V → Hp → VK → Prop} (hu : X.A.units + 1 < cLine) (ho : PE X o td) (hi : PE X i ty) (hv : PE X value tv) (hop : InOp X op rd)
    (ha : ∀ ov iv new, augStore i ov iv new = (do holding [new, ov, iv] (setItem ov iv new); release [new, ov, iv] []; pure .next)) : PS X (.AugAssign (.Subscript o i tpos) op value pos) (sDAug td ty tv rd) := by
  refine .mk ?_
  intro pins s σ H D I h
  refine wpAny_AugAssign_SubscriptAny (thn (ho pins s σ H _ I h) fun u s1 ⟨x, H1, I1, rx, q1⟩ => thn (hi pins s1 σ H1 _ I1 q1) fun iv s2 ⟨y, H2, I2, ry, a, v, ex, g, q2⟩ => ?_) ha
  subst ex
  obtain rfl : u = Value.ref a := rx
  refine d_getItem hu I2 g ry fun w' s3 I3 rw' => thn (hv pins s3 σ H2 _ I3 q2) fun w2 s4 ⟨y2, H3, I4, ry2, q3⟩ => thn (hop pins s4 σ H3 v y2 w' w2 _ I4 rw' ry2 q3) fun w3 s5 ⟨z, H4, I5, rz, H5, g5, q4⟩ => ?_
  exact d_setItem hu I5 g5 ry rz fun s6 I6 => ⟨σ, H5, I6, q4⟩
theorem ps_ddel (ho : PE X o td) (hi : PE X i ty) : PS X (.Delete [.Subscript o i tpos] pos) (sDDel td ty) := by
  refine .mk ?_
  intro pins s σ H D I h
  refine wpAny_Delete (wpAny_deleteEach_cons (wpAny_delete_Subscript (thn (ho pins s σ H _ I h) fun u s1 ⟨x, H1, I1, rx, q1⟩ => thn (hi pins s1 σ H1 _ I1 q1) fun iv s2 ⟨y, H2, I2, ry, a, kvs, k, ex, e, ey, l, q2⟩ => ?_)))
  subst ex ey
  obtain rfl : u = Value.ref a := rx
  exact d_delItem I2 e ry l fun s3 I3 => wpAny_deleteEach_nil ⟨σ, _, I3, q2⟩
end


/-! ### displays -/
theorem dk_empty {P : Program} {w : World} {H : Hp} (h : Heap) (hb : sysModules < h.objs.size) : ObjOk P w H (h.push { cls := .type "dict", data := .dict #[] }) h.objs.size (.dK []) :=
  ⟨Nat.zero_le _, beq_eq_false_iff_ne.mpr (Ne.symm (Nat.ne_of_lt hb)), [], .nil, Heap.DictOf.new h⟩
theorem dt_empty {P : Program} {w : World} {H : Hp} (h : Heap) (hb : sysModules < h.objs.size) : ObjOk P w H (h.push { cls := .type "dict", data := .dict #[] }) h.objs.size (.dT []) :=
  ⟨Nat.zero_le _, beq_eq_false_iff_ne.mpr (Ne.symm (Nat.ne_of_lt hb)), [], .nil, _, #[], 0, Heap.get?_push_size _ rfl, ⟨rfl, rfl, rfl⟩, rfl, rfl, List.nodup_nil⟩
/-- {}, to be a dict of the kind that is wanted -/
def tDNewK : TE := fun _ H Q => ∀ p, H p = none → Q (.ref p) (upd H p (.dK []))
def tDNewT : TE := fun _ H Q => ∀ p, H p = none → Q (.ref p) (upd H p (.dT []))
section
variable {X : Cx} {pos : Pos}
theorem pe_dnewK : PE X (.Dict [] [] pos) tDNewK := .mk <| fun pins s σ H Q I h =>
  wpAny_Dict_empty ⟨.ref s.heap.objs.size, _, I.laid (a := s.heap.objs.size) (o := .dK []) (t' := s.toks) (fun _ _ q => Heap.get?_push_of_some _ q) (Nat.le_refl _) (dk_empty s.heap I.big), rfl, h _ (I.hok.fresh (Nat.le_refl _))⟩
theorem pe_dnewT : PE X (.Dict [] [] pos) tDNewT := .mk <| fun pins s σ H Q I h =>
  wpAny_Dict_empty ⟨.ref s.heap.objs.size, _, I.laid (a := s.heap.objs.size) (o := .dT []) (t' := s.toks) (fun _ _ q => Heap.get?_push_of_some _ q) (Nat.le_refl _) (dt_empty s.heap I.big), rfl, h _ (I.hok.fresh (Nat.le_refl _))⟩
end

/-- the pairs of a display, from the left -/
def tPairs : List (TE × TE) → St → Hp → (List (V × V) → Hp → Prop) → Prop
  | [], _, H, Q => Q [] H
  | (tk, tv) :: r, σ, H, Q => tk σ H fun x H1 => tv σ H1 fun y H2 => tPairs r σ H2 fun ps H3 => Q ((x, y) :: ps) H3
abbrev VV : List (V × V) → List (Value × Value) → Prop := Paired fun p q => RelV p.1 q.1 ∧ RelV p.2 q.2
def PPs (X : Cx) (pos : Pos) (keys : List (Option Expr)) (values : List Expr) (trs : List (TE × TE)) : Prop :=
  ∀ (pins : List (Addr × Obj)) (s : Shared) (σ : St) (H : Hp) (Q : List (V × V) → Hp → Prop), Inv X pins σ H s → tPairs trs σ H Q →
    wpAny (model X.prog X.w) X.A (evalPairs (pairTrees keys values X.env pos)) (fun vs s' => ∃ ps H', Inv X pins σ H' s' ∧ VV ps vs ∧ Q ps H') X.xe s
theorem pps_nil {X : Cx} {pos : Pos} : PPs X pos [] [] [] := fun pins s σ H Q I h => pairTrees_nil_walk ⟨[], H, I, .nil, h⟩
theorem pps_cons {X : Cx} {pos : Pos} {k v : Expr} {ks : List (Option Expr)} {vs : List Expr} {tk tv : TE} {trs : List (TE × TE)} (hk : PE X k tk) (hv : PE X v tv) (hr : PPs X pos ks vs trs) :
    PPs X pos (some k :: ks) (v :: vs) ((tk, tv) :: trs) := fun pins s σ H Q I h =>
  pairTrees_cons_walk (thn (hk pins s σ H _ I h) fun u s1 ⟨x, H1, I1, rx, q1⟩ => thn (hv pins s1 σ H1 _ I1 q1) fun w2 s2 ⟨y, H2, I2, ry, q2⟩ =>
    thn (hr pins s2 σ H2 _ I2 q2) fun ws s3 ⟨ps, H3, I3, rel, q3⟩ => ⟨(x, y) :: ps, H3, I3, .cons ⟨rx, ry⟩ rel, q3⟩)

def mergeK (kvs more : List (Key × V)) : List (Key × V) := more.foldl (fun acc kv => putK acc kv.1 kv.2) kvs
theorem KV.merge : ∀ {more : List (Key × V)} {rs : List (Key × Value)} {kvs : List (Key × V)} {vs : List (Key × Value)}, KV more rs → KV kvs vs → KV (mergeK kvs more) (merged vs rs) := by
  intro more rs kvs vs r
  unfold KV at r
  induction r generalizing kvs vs with
  | nil => intro q; exact q
  | @cons p q ps qs h t ih =>
    intro r0
    have e : KV (putK kvs p.1 p.2) (stored vs q.1 q.2) := by
      have := r0.put p.1 h.2
      rw [← h.1]; exact this
    exact ih e
theorem length_mergeK : ∀ (more kvs : List (Key × V)), (mergeK kvs more).length ≤ kvs.length + more.length
  | [], kvs => by show kvs.length ≤ kvs.length + 0; omega
  | p :: r, kvs => by
    have h1 := length_mergeK r (putK kvs p.1 p.2)
    have h2 := length_putK kvs p.1 p.2
    show (mergeK (putK kvs p.1 p.2) r).length ≤ _
    rw [List.length_cons]; omega
theorem carries_of {P : Program} {w : World} : ∀ {kvs : List (Key × V)} {ws : List (Value × Value)}, VV (kvs.map fun kv => (kV kv.1, kv.2)) ws → ∃ rs, Carries (mixKind P w) ws rs ∧ KV kvs rs
  | [], _, r => by rw [List.map_nil] at r; cases r; exact ⟨[], True.intro, .nil⟩
  | p :: kvs, _, r => by
    rw [List.map_cons] at r
    cases r with
    | @cons a b as bs h t =>
      obtain ⟨rs, c, q⟩ := carries_of (P := P) (w := w) t
      obtain ⟨b1, b2⟩ := b
      exact ⟨(p.1, b2) :: rs, ⟨kV_is h.1, rfl, c⟩, .cons ⟨rfl, h.2⟩ q⟩
/-- {k: v, ..} with keys ints and texts; the new dict stands empty while the pairs are made -/
def tDisp (trs : List (TE × TE)) : TE := fun σ H Q => ∀ p, H p = none → tPairs trs σ (upd H p (.dK [])) fun ps H2 => H2 p = some (.dK []) ∧ ∃ kvs : List (Key × V), ps = kvs.map (fun kv => (kV kv.1, kv.2)) ∧ kvs.length ≤ 15 ∧ Q (.ref p) (upd H2 p (.dK (mergeK [] kvs)))
theorem pe_disp {X : Cx} {pos : Pos} {keys : List (Option Expr)} {values : List Expr} {trs : List (TE × TE)} (h : PPs X pos keys values trs) (hall : keys.all (·.isSome) = true) (hl : keys.length = values.length) (h0 : keys ≠ [])
    (h15 : keys.length ≤ 15) : PE X (.Dict keys values pos) (tDisp trs) := by
  refine .mk ?_
  intro pins s σ H Q I q
  have hn := I.hok.fresh (Nat.le_refl s.heap.objs.size)
  have I1 := I.laid (a := s.heap.objs.size) (o := .dK []) (h' := s.heap.push { cls := .type "dict", data := .dict #[] }) (t' := s.toks) (fun _ _ q => Heap.get?_push_of_some _ q) (Nat.le_refl _) (dk_empty s.heap I.big)
  refine wpAny_Dict_walk (knd := mixKind X.prog X.w) hall hl h0 h15 (thn (h pins _ σ _ _ I1 (q _ hn)) fun ws s2 ⟨ps, H2, I2, rel, e, kvs, ep, lk, q2⟩ => ?_)
  subst ep
  obtain ⟨rs, c, rk⟩ := carries_of (P := X.prog) (w := X.w) rel
  obtain ⟨z, hd, vs0, r0, dd⟩ := dk_of I2.hok e
  cases r0
  refine ⟨rs, c, dd, fun h' dd' hs => ⟨.ref s.heap.objs.size, _, ?_, rfl, q2⟩⟩
  have hz : (mergeK [] kvs).length ≤ sizeLine := by
    have h1 := length_mergeK kvs []
    rw [List.length_nil] at h1
    rw [sizeLine_eq]; omega
  have he : ∃ q, h'.get? s.heap.objs.size = some q := let ⟨q, _, _, hq, _⟩ := dd'; ⟨q, hq⟩
  exact d_write I2 (by rw [e]; exact True.intro) hs he (dk_new hz hd (rk.merge .nil) dd')


/-! ### methods -/
/-- a method call o.m(e) of a built-in, with one argument: what must be seen of the text -/
structure M1 (X : Cx) (o : Expr) (m : Str) (apos : Pos) (e : Expr) (cpos : Pos) : Prop where
  base : attributeBase o m X.env (eval o X.env) = eval o X.env
  few : ((backTo cpos (starEach [e] X.env)).all (fun x => !x.1) && (backToKw cpos (keywordEach [] X.env)).all (fun x => x.1.isSome)
    && decide (([e] : List Expr).length + ([] : List Keyword).length + (if ([] : List Keyword).isEmpty then 0 else 1) < 30)) = true
  line : (apos.endLine == cpos.line) = true
  trees : backTo cpos (starEach [e] X.env) = [(false, eval e X.env)]
structure M2 (X : Cx) (o : Expr) (m : Str) (apos : Pos) (e f : Expr) (cpos : Pos) : Prop where
  base : attributeBase o m X.env (eval o X.env) = eval o X.env
  few : ((backTo cpos (starEach [e, f] X.env)).all (fun x => !x.1) && (backToKw cpos (keywordEach [] X.env)).all (fun x => x.1.isSome)
    && decide (([e, f] : List Expr).length + ([] : List Keyword).length + (if ([] : List Keyword).isEmpty then 0 else 1) < 30)) = true
  line : (apos.endLine == cpos.line) = true
  trees : backTo cpos (starEach [e, f] X.env) = [(false, eval e X.env), (false, eval f X.env)]

/-- a is a dict, whatever its keys -/
def IsD (H : Hp) (a : Addr) : Prop := (∃ kvs, Rd H a (.dK kvs)) ∨ ∃ kvs, Rd H a (.dT kvs)
theorem isD_at {X : Cx} {pins : List (Addr × Obj)} {σ : St} {H : Hp} {s : Shared} {a : Addr} (I : Inv X pins σ H s) (d : IsD H a) :
    s.TypeIs (.ref a) "dict" ∧ (∀ b, Value.ref a = .ref b → ∃ ob, s.heap.get? b = some ob ∧ ob.dict = none) ∧ (a == sysModules) = false := by
  rcases d with ⟨kvs, e⟩ | ⟨kvs, e⟩
  · obtain ⟨_, hd, vs, _, dd⟩ := dk_rd I.hok e
    refine ⟨dd.typeIs, fun b q => ?_, hd⟩
    cases q
    obtain ⟨ob, _, _, h1, h2, _⟩ := dd
    exact ⟨ob, h1, h2.2.1⟩
  · obtain ⟨_, hd, xs, _, dd⟩ := dt_rd I.hok e
    refine ⟨dd.typeIs, fun b q => ?_, hd⟩
    cases q
    obtain ⟨ob, _, _, h1, h2, _⟩ := dd
    exact ⟨ob, h1, h2.2.1⟩

section
variable {X : Cx} {pins : List (Addr × Obj)} {σ : St} {H : Hp} {s : Shared} {a : Addr} {y d : V} {u r : Value} {o : Option V} {A : Around} {E : Value → Shared → Prop}
/-- d.get(y) -/
theorem d_get1 {Q : Value → Shared → Prop} (hu : A.units + 1 < cLine) (I : Inv X pins σ H s) (g : DGet H a y o) (ry : RelV y u) (h : ∀ w' s', Inv X pins σ H s' → RelV (o.getD .non) w' → Q w' s') :
    wpAny (model X.prog X.w) A (call (.builtin "dict.get") [.ref a, u]) Q E s := by
  rcases g with ⟨kvs, k, e, ey, l⟩ | ⟨kvs, k, b, e, ey, eb, l⟩
  · subst ey
    obtain ⟨z, hd, vs, rel, dd⟩ := dk_rd I.hok e
    refine call_meetsIn PySem.F.slot_dict_get dd.typeIs PySem.F.entry_dict_get (PySem.F.args_dict_get_2 _ _) (meets_dict_get (mixKind X.prog X.w) a (kV_is ry) hd) ⟨_, dd.mapOf, h _ _ (I.tok _) ?_⟩
    rw [l]
    exact (rel.val k).getD rfl
  · subst ey
    cases (show u = Value.ref b from ry)
    obtain ⟨z, hd, xs, rel, dd⟩ := dt_rd I.hok e
    refine call_meetsIn PySem.F.slot_dict_get dd.typeIs PySem.F.entry_dict_get (PySem.F.args_dict_get_2 _ _) (meetsH_dict_get (tupleKind (mixKind X.prog X.w)) a b hd) ⟨tupleKind_room_in1 hu, k, xs, key_of I.hok eb, dd, h _ _ (I.tok _) ?_⟩
    rw [l]
    exact (rel.val k).getD rfl
/-- d.get(y, x) -/
theorem d_get2 {Q : Value → Shared → Prop} (hu : A.units + 1 < cLine) (I : Inv X pins σ H s) (g : DGet H a y o) (ry : RelV y u) (rd : RelV d r) (h : ∀ w' s', Inv X pins σ H s' → RelV (o.getD d) w' → Q w' s') :
    wpAny (model X.prog X.w) A (call (.builtin "dict.get") [.ref a, u, r]) Q E s := by
  rcases g with ⟨kvs, k, e, ey, l⟩ | ⟨kvs, k, b, e, ey, eb, l⟩
  · subst ey
    obtain ⟨z, hd, vs, rel, dd⟩ := dk_rd I.hok e
    refine call_meetsIn PySem.F.slot_dict_get dd.typeIs PySem.F.entry_dict_get (PySem.F.args_dict_get_3 _ _ _) (meets_dict_get_default (mixKind X.prog X.w) a (kV_is ry) hd r) ⟨_, dd.mapOf, h _ _ (I.tok _) ?_⟩
    rw [l]
    exact (rel.val k).getD rd
  · subst ey
    cases (show u = Value.ref b from ry)
    obtain ⟨z, hd, xs, rel, dd⟩ := dt_rd I.hok e
    refine call_meetsIn PySem.F.slot_dict_get dd.typeIs PySem.F.entry_dict_get (PySem.F.args_dict_get_3 _ _ _) (meetsH_dict_get_default (tupleKind (mixKind X.prog X.w)) a b hd r) ⟨tupleKind_room_in1 hu, k, xs, key_of I.hok eb, dd, h _ _ (I.tok _) ?_⟩
    rw [l]
    exact (rel.val k).getD rd
end

def tDGet1 (td ty : TE) : TE := fun σ H Q => td σ H fun x H1 => ∃ a, x = .ref a ∧ IsD H1 a ∧ ty σ H1 fun y H2 => ∃ o, DGet H2 a y o ∧ Q (o.getD .non) H2
def tDGet2 (td ty tx : TE) : TE := fun σ H Q => td σ H fun x H1 => ∃ a, x = .ref a ∧ IsD H1 a ∧ ty σ H1 fun y H2 => tx σ H2 fun z H3 => ∃ o, DGet H3 a y o ∧ Q (o.getD z) H3
/-- d.pop(k): there; d.pop(k, x): there or not -/
def tDPop1 (td ty : TE) : TE := fun σ H Q => td σ H fun x H1 => ∃ a, x = .ref a ∧ IsD H1 a ∧ ty σ H1 fun y H2 => ∃ kvs k v, H2 a = some (.dK kvs) ∧ y = kV k ∧ valV kvs k = some v ∧ Q v (upd H2 a (.dK (dropK kvs k)))
def tDPop2 (td ty tx : TE) : TE := fun σ H Q => td σ H fun x H1 => ∃ a, x = .ref a ∧ IsD H1 a ∧ ty σ H1 fun y H2 => tx σ H2 fun z H3 => ∃ kvs k, H3 a = some (.dK kvs) ∧ y = kV k ∧
  (∀ v, valV kvs k = some v → Q v (upd H3 a (.dK (dropK kvs k)))) ∧ (valV kvs k = none → Q z H3)
section
variable {X : Cx} {o e f : Expr} {apos cpos : Pos} {td ty tx : TE}
theorem pe_dget1 (hu : X.A.units + 1 < cLine) (ho : PE X o td) (he : PE X e ty) (m : M1 X o "get" apos e cpos) : PE X (.Call (.Attribute o "get" apos) [e] [] cpos) (tDGet1 td ty) := by
  refine .mk ?_
  intro pins s σ H Q I h
  refine wpAny_Call_method m.base m.few m.line PySem.F.plainAttrs_dict PySem.F.slot_dict_get PySem.F.type_dict_get (thn (ho pins s σ H _ I h) fun u s1 ⟨x, H1, I1, rx, a, ex, d, q1⟩ => ?_)
  subst ex
  obtain rfl : u = Value.ref a := rx
  obtain ⟨t1, t2, _⟩ := isD_at I1 d
  refine ⟨t1, t2, ?_⟩
  rw [m.trees]
  refine Calls.callWith_builtin rfl (Calls.evalArgs_plain (Calls.spliced_cons (thn (he pins s1 σ H1 _ I1 q1) fun iv s2 ⟨y, H2, I2, ry, ov, g, q2⟩ => Calls.spliced_nil ?_)))
  exact d_get1 hu I2 g ry fun w' s3 I3 rw' => ⟨_, H2, I3, rw', q2⟩
theorem pe_dget2 (hu : X.A.units + 1 < cLine) (ho : PE X o td) (he : PE X e ty) (hf : PE X f tx) (m : M2 X o "get" apos e f cpos) : PE X (.Call (.Attribute o "get" apos) [e, f] [] cpos) (tDGet2 td ty tx) := by
  refine .mk ?_
  intro pins s σ H Q I h
  refine wpAny_Call_method m.base m.few m.line PySem.F.plainAttrs_dict PySem.F.slot_dict_get PySem.F.type_dict_get (thn (ho pins s σ H _ I h) fun u s1 ⟨x, H1, I1, rx, a, ex, d, q1⟩ => ?_)
  subst ex
  obtain rfl : u = Value.ref a := rx
  obtain ⟨t1, t2, _⟩ := isD_at I1 d
  refine ⟨t1, t2, ?_⟩
  rw [m.trees]
  refine Calls.callWith_builtin rfl (Calls.evalArgs_plain (Calls.spliced_cons (thn (he pins s1 σ H1 _ I1 q1) fun iv s2 ⟨y, H2, I2, ry, q2⟩ =>
    Calls.spliced_cons (thn (hf pins s2 σ H2 _ I2 q2) fun fv s3 ⟨z, H3, I3, rz, ov, g, q3⟩ => Calls.spliced_nil ?_))))
  exact d_get2 hu I3 g ry rz fun w' s4 I4 rw' => ⟨_, H3, I4, rw', q3⟩
theorem pe_dpop1 (ho : PE X o td) (he : PE X e ty) (m : M1 X o "pop" apos e cpos) : PE X (.Call (.Attribute o "pop" apos) [e] [] cpos) (tDPop1 td ty) := by
  refine .mk ?_
  intro pins s σ H Q I h
  refine wpAny_Call_method m.base m.few m.line PySem.F.plainAttrs_dict PySem.F.slot_dict_pop PySem.F.type_dict_pop (thn (ho pins s σ H _ I h) fun u s1 ⟨x, H1, I1, rx, a, ex, d, q1⟩ => ?_)
  subst ex
  obtain rfl : u = Value.ref a := rx
  obtain ⟨t1, t2, _⟩ := isD_at I1 d
  refine ⟨t1, t2, ?_⟩
  rw [m.trees]
  refine Calls.callWith_builtin rfl (Calls.evalArgs_plain (Calls.spliced_cons (thn (he pins s1 σ H1 _ I1 q1) fun iv s2 ⟨y, H2, I2, ry, kvs, k, v, ea, ey, l, q2⟩ => Calls.spliced_nil ?_)))
  subst ey
  exact d_pop I2 ea ry l (.inl rfl) fun w' s3 I3 rw' => ⟨v, _, I3, rw', q2⟩
theorem pe_dpop2 (ho : PE X o td) (he : PE X e ty) (hf : PE X f tx) (m : M2 X o "pop" apos e f cpos) : PE X (.Call (.Attribute o "pop" apos) [e, f] [] cpos) (tDPop2 td ty tx) := by
  refine .mk ?_
  intro pins s σ H Q I h
  refine wpAny_Call_method m.base m.few m.line PySem.F.plainAttrs_dict PySem.F.slot_dict_pop PySem.F.type_dict_pop (thn (ho pins s σ H _ I h) fun u s1 ⟨x, H1, I1, rx, a, ex, d, q1⟩ => ?_)
  subst ex
  obtain rfl : u = Value.ref a := rx
  obtain ⟨t1, t2, _⟩ := isD_at I1 d
  refine ⟨t1, t2, ?_⟩
  rw [m.trees]
  refine Calls.callWith_builtin rfl (Calls.evalArgs_plain (Calls.spliced_cons (thn (he pins s1 σ H1 _ I1 q1) fun iv s2 ⟨y, H2, I2, ry, q2⟩ =>
    Calls.spliced_cons (thn (hf pins s2 σ H2 _ I2 q2) fun fv s3 ⟨z, H3, I3, rz, kvs, k, ea, ey, q3, q4⟩ => Calls.spliced_nil ?_))))
  subst ey
  cases l : valV kvs k with
  | some v => exact d_pop I3 ea ry l (.inr ⟨fv, rfl⟩) fun w' s4 I4 rw' => ⟨v, _, I4, rw', q3 v l⟩
  | none => exact d_popD I3 ea ry l fun s4 I4 => ⟨z, H3, I4, rz, q4 l⟩
end

/-! ### dict(d): a copy -/
section
variable {X : Cx} {pins : List (Addr × Obj)} {σ : St} {H : Hp} {s : Shared} {a : Addr} {kvs : List (Key × V)} {A : Around} {E : Value → Shared → Prop}
theorem d_copyOf {Q : Value → Shared → Prop} (I : Inv X pins σ H s) (e : Rd H a (.dK kvs)) (h : ∀ p s', H p = none → Inv X pins σ (upd H p (.dK kvs)) s' → Q (.ref p) s') : wpAny (model X.prog X.w) A (call (.type "dict") [.ref a]) Q E s := by
  obtain ⟨z, hd, vs, rel, dd⟩ := dk_rd I.hok e
  refine kt_call_dict hd dd (by rw [← rel.length]; exact z) fun h' dd' hs => ?_
  refine h _ _ (I.hok.fresh (Nat.le_refl _)) (I.laid (a := s.heap.objs.size) (o := .dK kvs) (t' := s.toks) (fun b q hq => ?_) (Nat.le_refl _) (dk_new z (beq_eq_false_iff_ne.mpr (Ne.symm (Nat.ne_of_lt I.big))) rel dd'))
  exact (hs.2 b (Nat.ne_of_lt (Heap.lt_size hq))).trans (Heap.get?_push_of_some _ hq)
end


section
variable {X : Cx} {pins : List (Addr × Obj)} {σ : St} {H : Hp} {s : Shared} {a : Addr} {y : V} {u : Value} {A : Around} {E : Value → Shared → Prop}
/-- d[y], not there: a KeyError -/
theorem d_missing {Q : Value → Shared → Prop} (hu : A.units + 1 < cLine) (hh : A.handled = none) (I : Inv X pins σ H s) (g : DGet H a y none) (ry : RelV y u)
    (h : ∀ h' e t', Heap.NewExc s.heap h' e "KeyError" → E (.ref e) { s with heap := h', toks := t' }) : wpAny (model X.prog X.w) A (getItem (.ref a) u) Q E s := by
  rcases g with ⟨kvs, k, e, ey, l⟩ | ⟨kvs, k, b, e, ey, eb, l⟩
  · subst ey
    obtain ⟨z, hd, vs, rel, dd⟩ := dk_rd I.hok e
    have hn : valueAt vs k = none := RelO.none_of (by rw [l]; exact rel.val k)
    exact wpAny_getItem_missing_of (kV_is ry) hd hh dd.mapOf hn fun h' ex ne => h h' ex _ ne
  · subst ey
    cases (show u = Value.ref b from ry)
    obtain ⟨z, hd, xs, rel, dd⟩ := dt_rd I.hok e
    have hn : (atKey xs k).map (·.2) = none := RelO.none_of (by rw [l]; exact rel.val k)
    exact wpAny_getItem_missing_heap (tupleKind_room_in1 hu) (key_of I.hok eb) hd hh dd (Option.map_eq_none_iff.mp hn) fun h' ex ne => h h' ex _ ne
end
end L2
set_option maxHeartbeats 4000000
namespace L2
open PySem PySem.Spec PyProof.Rows
/-! a list comprehension of one clause, whose target is a name: its block is a context of its own -/
/-- the cells that the block takes along -/
def clStep (env : Env) (cs : List (Str × Addr)) (y : Str × NameKind) : List (Str × Addr) :=
  if y.2 == .free then (match env.cells.lookup y.1 with | some c => (y.1, c) :: cs | none => cs) else cs
def clOf (sc : Scope) (env : Env) : List (Str × Addr) := sc.names.foldl (clStep env) []
theorem cl_sound {env : Env} : ∀ (ns : List (Str × NameKind)) (acc : List (Str × Addr)), (∀ y c, acc.lookup y = some c → env.cells.lookup y = some c) → ∀ y c, (ns.foldl (clStep env) acc).lookup y = some c → env.cells.lookup y = some c
  | [], acc, h, y, c, e => h y c e
  | n :: ns, acc, h, y, c, e => by
    refine cl_sound ns (clStep env acc n) (fun z d q => ?_) y c e
    unfold clStep at q
    split at q
    · split at q
      · rename_i c' hc'
        rw [List.lookup_cons] at q
        split at q
        · rename_i hz
          have hz' : z = n.1 := by simpa using hz
          cases q
          rw [hz']; exact hc'
        · exact h z d q
      · exact h z d q
    · exact h z d q
theorem clOf_sound {sc : Scope} {env : Env} {y : Str} {c : Addr} (e : (clOf sc env).lookup y = some c) : env.cells.lookup y = some c :=
  cl_sound sc.names [] (fun _ _ q => by simp at q) y c e
theorem cl_keep {env : Env} {y : Str} {c : Addr} (hc : env.cells.lookup y = some c) : ∀ (ns : List (Str × NameKind)) (acc : List (Str × Addr)), acc.lookup y = some c → (ns.foldl (clStep env) acc).lookup y = some c
  | [], acc, h => h
  | n :: ns, acc, h => by
    refine cl_keep hc ns (clStep env acc n) ?_
    unfold clStep
    split
    · split
      · rename_i c' hc'
        rw [List.lookup_cons]
        split
        · rename_i hz
          have hz' : y = n.1 := by simpa using hz
          rw [← hz', hc] at hc'
          exact hc'.symm
        · exact h
      · exact h
    · exact h
theorem cl_has {env : Env} {y : Str} {c : Addr} (hc : env.cells.lookup y = some c) : ∀ (ns : List (Str × NameKind)) (acc : List (Str × Addr)), (y, NameKind.free) ∈ ns → (ns.foldl (clStep env) acc).lookup y = some c
  | [], _, h => by simp at h
  | n :: ns, acc, h => by
    rcases List.mem_cons.mp h with e | h
    · subst e
      refine cl_keep hc ns _ ?_
      unfold clStep
      simp [hc]
    · exact cl_has hc ns _ h
theorem relabel_mem {sc : Scope} {env : Env} {x : Str} {k' : NameKind} (h : (relabel sc env).names.lookup x = some k') : ∃ k, (x, k) ∈ sc.names ∧ (k' = k ∨ (k = .free ∧ k' = .cell)) := by
  have m := PySem.mem_of_lookup h
  unfold relabel at m
  obtain ⟨⟨n, k⟩, hm, e⟩ := List.mem_map.mp m
  dsimp only at e
  split at e
  · rename_i hc
    injection e with e1 e2
    subst e1
    refine ⟨k, hm, .inr ⟨?_, e2.symm⟩⟩
    have : (k == NameKind.free) = true := by
      cases hk : (k == NameKind.free) with
      | true => rfl
      | false => rw [hk] at hc; simp at hc
    exact beq_iff_eq.mp this
  · injection e with e1 e2
    subst e1 e2
    exact ⟨k, hm, .inl rfl⟩
theorem relabel_free {env : Env} {x : Str} (hf : env.scope.kind = .function) (hk : env.kindOf x = some .cell) : ∀ (ns : List (Str × NameKind)), ns.lookup x = some .free →
    (ns.map fun (y : Str × NameKind) => if (y.2 == .free && env.scope.kind == .function && env.kindOf y.1 == some .cell) then (y.1, NameKind.cell) else (y.1, y.2)).lookup x = some .cell
  | [], h => by simp at h
  | (n, k) :: r, h => by
    have ih := relabel_free hf hk r
    rw [List.map_cons]
    cases hx : x == n with
    | true =>
      have e : x = n := by simpa using hx
      subst e
      simp only [List.lookup_cons, beq_self_eq_true] at h
      cases h
      dsimp only
      rw [if_pos (by simp [hf, hk])]
      simp [List.lookup_cons]
    | false =>
      simp only [List.lookup_cons, hx] at h
      dsimp only
      split
      · simp only [List.lookup_cons, hx]; exact ih h
      · simp only [List.lookup_cons, hx]; exact ih h

/-- the block's context: fp the iterator's objects, s and H as they stand where its frame is made -/
def cxC (X : Cx) (N' : List Str) (sc : Scope) (fp : List Addr) (s : Shared) (H : Hp) : Cx where
  prog := X.prog
  w := X.w
  K := X.K
  mg := X.mg
  base := X.base
  A := X.A
  N := N'
  s₀ := s
  H₀ := H
  env := compEnvC sc (clOf sc X.env) s.heap.objs.size X.env
  outer := X.stack
  stack := X.stack
  ex := fp
  fn := fun _ => false
  calm := X.calm
  pn := []
  xe := fun _ _ => False

/-- what is asked of the block's scope: N' = the target, then what it captures, which stands at the places js of the def's names -/
structure CSc (X : Cx) (N' : List Str) (js : List Nat) (sc : Scope) : Prop where
  kind : sc.kind = .function
  nocell : ∀ y ∈ sc.names, y.2 ≠ .cell
  names : ∀ y ∈ sc.names, y.2 = .local → sc.names.lookup y.1 = some .local
  clos : closureFor sc X.env = pure (clOf sc X.env)
  all : (sc.names.all fun y => y.2 != .free || (X.env.cells.lookup y.1).isSome) = true
  len : N'.length = js.length + 1
  cap : ∀ (i j : Nat), js[i]? = some j → N'[i + 1]? = X.N[j]?
  capk : ∀ y ∈ N'.tail, X.env.kindOf y = some .cell ∧ sc.names.lookup y = some .free
/-- the block's names at the start of a turn -/
def capS (js : List Nat) (σ : St) : St := js.map fun j => (σ[j]?).join

theorem inv_comp {X : Cx} {pins : List (Addr × Obj)} {σ : St} {H : Hp} {s : Shared} {fp : List Addr} {N' : List Str} {js : List Nat} {sc : Scope} {h1 : Heap} {tk : Nat} (I : Inv X pins σ H s) (hf : ∀ b ∈ fp, FpOk X pins H b) (hlt : ∀ b ∈ fp, b < s.heap.objs.size)
    (S : CSc X N' js sc) (hn : h1.Ns s.heap.objs.size fun _ => none) (hk : ∀ b o, s.heap.get? b = some o → h1.get? b = some o) : Inv (cxC X N' sc fp s H) [] (none :: capS js σ) H { s with heap := h1, toks := tk } := by
  refine ⟨⟨I.ok.mod, S.kind, I.ok.glob, I.ok.blt, Nat.le_refl _, fun x y c e1 e2 => I.ok.inj x y c (clOf_sound e1) (clOf_sound e2), fun x hx => ?_, fun x c e => absurd e (by show ¬ (false = true); simp), I.ok.hd, I.ok.frames, .inl rfl, fun b hb => ⟨Nat.ne_of_lt (hlt b hb), fun x c e => (hf b hb).2.2.2.2.1 x c (clOf_sound e)⟩, I.bs,
    Nat.le_trans I.ok.bsz I.sz, fun b o e hb => ?_, fun b hb z => ?_, I.stack, I.stkFree⟩, rfl, I.bare, Un.kept hk, ⟨fun _ => none, hn, fun i x v e1 e2 e3 => ?_⟩, fun x c e => ?_, I.hok.fresh (Nat.le_refl _), fun x c e => I.freeC x c (clOf_sound e), fun p hp => absurd (show p ∈ ([] : List (Addr × Obj)) from hp) (by simp), I.hok.kept hk, ?_⟩
  · have hx' : (relabel sc X.env).names.lookup x = some .cell ∨ (relabel sc X.env).names.lookup x = some .free := hx
    have key : (x, NameKind.free) ∈ sc.names := by
      rcases hx' with q | q
      · obtain ⟨k, hm, e | ⟨e, _⟩⟩ := relabel_mem q
        · exact absurd e.symm (S.nocell _ hm)
        · rw [← e]; exact hm
      · obtain ⟨k, hm, e | ⟨e, _⟩⟩ := relabel_mem q
        · rw [e]; exact hm
        · rw [← e]; exact hm
    have a := List.all_eq_true.mp S.all _ key
    have a' : (X.env.cells.lookup x).isSome = true := by simpa using a
    obtain ⟨c, hc⟩ := Option.isSome_iff_exists.mp a'
    exact ⟨c, cl_has hc sc.names [] key⟩
  · rcases (hf b hb).2.2.2.1 with z | z
    · exact I.ok.noex b o e z
    · exact absurd (Nat.lt_of_lt_of_le (Heap.lt_size e) (Nat.le_trans I.ok.bsz z)) (Nat.lt_irrefl _)
  · rcases List.mem_cons.mp (I.stkSub b z) with q | q
    · exact (hf b hb).2.1 q
    · exact (hf b hb).2.2.1 q
  · cases i with
    | zero => simp at e2
    | succ i =>
      have e2' : (capS js σ)[i]? = some (some v) := by simpa using e2
      unfold capS at e2'
      rw [List.getElem?_map] at e2'
      cases hj : js[i]? with
      | none => rw [hj] at e2'; simp at e2'
      | some j =>
        rw [hj] at e2'
        have e4 : (σ[j]?).join = some v := by simpa using e2'
        have e5 : σ[j]? = some (some v) := by
          cases q : σ[j]? with
          | none => rw [q] at e4; simp at e4
          | some z => rw [q] at e4; simp at e4; rw [e4]
        have e6 : X.N[j]? = some x := by rw [← S.cap i j hj]; exact e1
        have mem : x ∈ N'.tail := by
          have e1' : N'[i + 1]? = some x := e1
          cases hN : N' with
          | nil => rw [hN] at e1'; simp at e1'
          | cons a r => rw [hN] at e1'; exact List.mem_of_getElem? (by simpa using e1')
        obtain ⟨k1, k2⟩ := S.capk x mem
        obtain ⟨m, _, hl⟩ := I.loc
        obtain ⟨u, r, l⟩ := hl j x v e6 e5 (.inr (.inl k1))
        refine ⟨u, r, .inr ⟨.inl (relabel_free I.ok.kind k1 sc.names k2), ?_⟩⟩
        rcases l with ⟨z, _⟩ | ⟨_, c, hc, hcell⟩
        · rw [k1] at z; cases z
        · obtain ⟨o, ho, hd⟩ := hcell
          exact ⟨c, cl_has hc sc.names [] (PySem.mem_of_lookup k2), o, hk c o ho, hd⟩
  · obtain ⟨v, o, ho, hd⟩ := I.cell x c (clOf_sound e)
    exact ⟨v, o, hk c o ho, hd⟩
  · show (none :: capS js σ).length = N'.length
    rw [S.len]; simp [capS]

/-- the reading: W the invariant, by the turn, a measure, what is made so far -/
def tComp (js : List Nat) (wi : TI) (te : TE) : TE := fun σ H Q => wi σ H fun J H1 => ∀ acc, H1 acc = none → ∃ W : Nat → Nat → List V → Hp → Prop, (∃ m, W 0 m [] (upd H1 acc (.lst []))) ∧ ∀ i m ys H2, W i m ys H2 →
  (J.stop i H2 ∧ Q (.ref acc) H2) ∨ (J.go i H2 ∧ ∀ x H3, J.yld i H2 x H3 → te (some x :: capS js σ) H3 fun y H4 => H4 acc = some (.lst ys) ∧ ys.length < sizeLine ∧ ∃ m', m' < m ∧ W (i + 1) m' (ys ++ [y]) (upd H4 acc (.lst (ys ++ [y]))))

theorem compLoop_go {prog : Program} {w : World} {A : Around} {R : Result → Shared → Prop} {s : Shared} {elt target iter : Expr} {sc : Scope} {pos : Pos} {it acc : Value} {env : Env} (Iv : Nat → Shared → Prop)
    (turn : ∀ n s, Iv n s → wpAny (model prog w) A (pyNext it) (fun r s1 => match r with
      | none => R (.ok .next) s1
      | some v => wpAny (model prog w) A (letOwnedTupleGo target it v) (fun _ s2 => wpAny (model prog w) A (assign target env v) (fun _ s3 => wpAny (model prog w) A (eval elt env) (fun x s4 =>
          wpAny (model prog w) A (call (.builtin "list.append") [acc, x]) (fun _ s5 => ∃ m, m < n ∧ Iv m s5) (fun _ _ => False) s4) (fun _ _ => False) s3) (fun _ _ => False) s2) (fun _ _ => False) s1) (fun _ _ => False) s)
    (n : Nat) (h : Iv n s) : codeAny (model prog w) A (.compLoop (.ListComp elt [⟨target, iter, [], 0⟩] sc pos) 0 it acc env) R s := by
  refine codeAny_loop rfl Iv (fun n s hI => ?_) n h
  show wpAny _ _ ((compTurn (.ListComp elt [⟨target, iter, [], 0⟩] sc pos) 0 it acc env).onRaise (fun x => do noteFrame x env; theTreesLotGoes x)) _ _ s
  refine wpAny_noted ?_
  rw [compTurn_list1]
  refine wpAny_bind (wpAny_standAt (wpAny_bind (wpAny_mono (turn n s hI) (fun r s1 q1 => ?_) fun _ _ f => f.elim)))
  cases r with
  | none => exact wpAny_pure q1
  | some v =>
    refine wpAny_bind (wpAny_mono q1 (fun _ s2 q2 => ?_) fun _ _ f => f.elim)
    refine wpAny_bind (wpAny_mono q2 (fun _ s3 q3 => wpAny_bind (wpAny_bind (wpAny_mono q3 (fun x s4 q4 => wpAny_bind (wpAny_mono q4 (fun _ s5 q5 => wpAny_pure (wpAny_pure ⟨rfl, q5⟩)) fun _ _ f => f.elim)) fun _ _ f => f.elim))) fun _ _ f => f.elim)

theorem pe_comp {X : Cx} {elt iter : Expr} {x : Str} {px pos : Pos} {sc : Scope} {wi : TI} {te : TE} {N' : List Str} {js : List Nat} (hc : X.calm = true) (hi : PI X (.Name x px) iter wi) (S : CSc X N' js sc) (h0 : N'[0]? = some x) (nd : N'.Nodup)
    (hx : sc.names.lookup x = some .local) (he : ∀ fp s H, PE (cxC X N' sc fp s H) elt te) (hs : ∀ x, foldedSetIterable iter X.env x = pure x := by intro _; rfl) : PE X (.ListComp elt [⟨.Name x px, iter, [], 0⟩] sc pos) (tComp js wi te) := by
  refine .mk ?_
  intro pins s σ H Q I h
  rw [eval_ListComp]
  refine wpAny_comprehension_free (use := none) rfl hs S.clos S.kind S.names ?_
  refine thn (hi pins s σ H _ I h) fun v s1 q1 => thn q1 fun itv s2 q2 => ?_
  obtain ⟨it, fp, tn, J, H2, e, I2, T, st2, f2, q3⟩ := q2
  subst e
  refine wpAny_newObj_type ?_
  obtain ⟨W, ⟨m0, w0⟩, turn⟩ := q3 s2.heap.objs.size I2.fresh
  have I3 := I2.lnew (ys := []) (its := []) (t' := s2.toks) .nil (Nat.zero_le _)
  have lt2 : ∀ b ∈ fp, b < s2.heap.objs.size := fun b hb => by
    obtain ⟨o, ho, _⟩ := T.obj 0 _ st2 b hb
    exact Heap.lt_size ho
  generalize e3 : ({ s2 with heap := s2.heap.push { cls := .type "list", data := .seq ([] : List Value).toArray }, toks := s2.toks } : Shared) = s3 at I3
  have e3' : ({ s2 with heap := s2.heap.push { cls := .type "list", dict := none, data := .seq ([] : List Value).toArray } } : Shared) = s3 := e3
  have sz3 : s3.heap.objs.size = s2.heap.objs.size + 1 := by rw [← e3]; exact Heap.size_push ..
  have st3 : tn 0 s3.heap := T.keep 0 _ _ st2 fun b hb o ho => by rw [← e3]; exact Heap.get?_push_of_some _ ho
  have lt3 : ∀ b ∈ fp, b < s3.heap.objs.size := fun b hb => by rw [sz3]; exact Nat.lt_succ_of_lt (lt2 b hb)
  have f3 : ∀ b ∈ fp, FpOk X pins (upd H2 s2.heap.objs.size (.lst [])) b := fun b hb => ⟨by rw [upd_ne (Nat.ne_of_lt (lt2 b hb))]; exact (f2 b hb).1, (f2 b hb).2⟩
  generalize hH3 : upd H2 s2.heap.objs.size (.lst []) = H3 at I3 f3 w0
  refine wpAny_newFunctionEnv S.nocell (by intro y hy; simp at hy) (fun h1 hns hsb => ?_) S.kind
  have hk : ∀ b o, s3.heap.get? b = some o → h1.get? b = some o := fun b o q => hsb.extBut b o (Nat.ne_of_lt (Heap.lt_size q)) (Heap.get?_push_of_some _ q)
  have hns' : h1.Ns s3.heap.objs.size fun _ => none := hns
  have I4 : Inv (cxC X N' sc fp s3 H3) [] (none :: capS js σ) H3 { s3 with heap := h1, toks := s3.toks + ([] : List (Str × Value)).length } := inv_comp I3 f3 lt3 S hns' hk
  have st4 : tn 0 h1 := T.keep 0 _ _ st3 fun b hb o ho => hk b o ho
  have stat : ∀ {H' : Hp}, (∀ b ∈ fp, H' b = none) → ∀ b ∈ fp, FpOk (cxC X N' sc fp s3 H3) [] H' b := fun hn b hb => ⟨hn b hb, Nat.ne_of_lt (lt3 b hb), I4.ok.exfs b hb, .inl hb, (I4.ok.exf b hb).2, fun p hp => absurd (show p ∈ ([] : List (Addr × Obj)) from hp) (by simp)⟩
  have lx : Loc (cxC X N' sc fp s3 H3).env.scope x := .inl (lookup_relabel_local hx)
  -- the way out
  have out : ∀ {σ' : St} {H' : Hp} {s' : Shared}, Inv (cxC X N' sc fp s3 H3) [] σ' H' s' → Q (.ref s2.heap.objs.size) H' → compPost (model X.prog X.w) X.A X.xe none (EP X pins σ Q) (.ref s2.heap.objs.size) s3.heap.objs.size (.ok .next) s' := by
    intro σ' H' s' I' q'
    obtain ⟨m, hn, _⟩ := id I'.loc
    refine ⟨m, hn, fun h' sb => ?_⟩
    have I5 : Inv X pins σ H' s' := I3.call' I'.os I'.base I'.hok I'.bare fun b hb => ⟨(f3 b hb).2.2.2.1, (f3 b hb).2.1, (f3 b hb).2.2.2.2.1, (f3 b hb).2.2.2.2.2⟩
    refine ⟨.ref s2.heap.objs.size, H', I5.turned (it := s3.heap.objs.size) (t' := s'.toks) (fun b o hb q => sb.extBut b o hb q) I'.free (Nat.ne_of_gt I3.lt) (.inr I3.sz) (fun y c ec z => ?_) (fun p hp z => ?_), rfl, q'⟩
    · obtain ⟨v, hv⟩ := I3.cell y c ec
      have := hv.lt
      rw [z] at this
      exact Nat.lt_irrefl _ this
    · have := Heap.lt_size (I3.pin p hp).1
      rw [z] at this
      exact Nat.lt_irrefl _ this
  have loop : ∀ s4 : Shared, s4 = { s3 with heap := h1, toks := s3.toks + ([] : List (Str × Value)).length } → codeAny (model X.prog X.w) X.A (.compLoop (.ListComp elt [⟨.Name x px, iter, [], 0⟩] sc pos) 0 (.ref it) (.ref s2.heap.objs.size) (compEnvC sc (clOf sc X.env) s3.heap.objs.size X.env))
      (compPost (model X.prog X.w) X.A X.xe none (EP X pins σ Q) (.ref s2.heap.objs.size) s3.heap.objs.size) s4 := by
    rintro s4 rfl
    refine compLoop_go (fun n s' => ∃ i ys H', Inv (cxC X N' sc fp s3 H3) [] (none :: capS js σ) H' s' ∧ tn i s'.heap ∧ (∀ b ∈ fp, H' b = none) ∧ W i n ys H') ?_ m0 ⟨0, [], H3, I4, st4, fun b hb => (f3 b hb).1, w0⟩
    rintro n s5 ⟨i, ys, H5, I5, st5, fr5, w5⟩
    rcases turn i n ys H5 w5 with ⟨stop, qn⟩ | ⟨go, step⟩
    · refine thn (T.done (cxC X N' sc fp s3 H3) rfl rfl rfl hc i [] s5 _ H5 (fun _ _ => False) I5 (stat fr5) st5 stop) fun r s6 ⟨hr, I6⟩ => ?_
      subst hr
      exact out I6 qn
    · refine thn (T.item (cxC X N' sc fp s3 H3) rfl rfl rfl hc i [] s5 _ H5 (fun _ _ => False) I5 (stat fr5) st5 go) fun r s6 ⟨u, hr, q6⟩ => ?_
      subst hr
      refine thn q6 fun _ s7 ⟨y, H7, I7, r7, y7, st7, fr7⟩ => ?_
      have I7' := I7.pinned (stat fr7) (T.obj _ _ st7)
      have hg : PG (cxC X N' sc fp s3 H3) (.Name x px) (gName 0) := pg_name nd h0 lx (.inr (lookup_relabel_local hx))
      refine thn (hg _ s7 _ H7 y u (fun σ' H' => σ' = some y :: capS js σ ∧ H' = H7) I7' r7 ⟨rfl, rfl⟩) fun _ s8 ⟨σ8, H8, I8, e8, e8'⟩ => ?_
      subst e8 e8'
      refine thn (he fp s3 H3 _ s8 _ _ _ I8 (step y _ y7)) fun z s9 ⟨vz, H9, I9, r9, ha, hz, m', hm, w9⟩ => ?_
      refine thn (mt_append (X := cxC X N' sc fp s3 H3) _ s9 _ H9 (.ref s2.heap.objs.size) [vz] (.ref s2.heap.objs.size) [z] (fun _ H' => H' = upd H9 s2.heap.objs.size (.lst (ys ++ [vz]))) I9 rfl (.cons r9 .nil) ⟨_, ys, vz, rfl, rfl, ha, hz, rfl⟩) fun _ s10 ⟨_, H10, I10, _, e10⟩ => ?_
      subst e10
      refine ⟨m', hm, i + 1, ys ++ [vz], _, (I10.unpinned).weak rfl fun k v e => ?_, T.keep _ _ _ st7 fun b hb o e => (I10.pin (b, o) (List.mem_append_right _ (List.mem_append_right _ (mem_pinsAt hb e)))).1, fun b hb => ?_, w9⟩
      · cases k with
        | zero => simp at e
        | succ k => simpa using e
      · obtain ⟨o, e, d⟩ := T.obj _ _ st7 b hb
        exact (I10.pin (b, o) (List.mem_append_right _ (List.mem_append_right _ (mem_pinsAt hb e)))).2.1
  exact codeAny_compStart_list (loop _ rfl) (T.self X.A 0 _ _ _ st4 (loop _ rfl))
end L2
namespace L2
open PySem PySem.Spec PyProof.Rows
/-! ### data: what a value stands for in the tracked heap -/
def keyD : Key → PyData
  | .inl i => .int i
  | .inr x => .str x
mutual
def At (H : Hp) : PyData → V → Prop
  | .none, v => v = .non
  | .bool b, v => v = .bl b
  | .int i, v => v = .int i
  | .str x, v => v = .str x
  | .tuple ds, v => ∃ a xs, v = .ref a ∧ H a = some (.tup xs) ∧ AtAll H ds xs
  | .list ds, v => ∃ a xs, v = .ref a ∧ H a = some (.lst xs) ∧ AtAll H ds xs
  | .dict kvs, v => ∃ a es, v = .ref a ∧ H a = some (.dK es) ∧ AtKv H kvs es
def AtAll (H : Hp) : List PyData → List V → Prop
  | [], xs => xs = []
  | d :: ds, xs => ∃ x r, xs = x :: r ∧ At H d x ∧ AtAll H ds r
def AtKv (H : Hp) : List (PyData × PyData) → List (Key × V) → Prop
  | [], es => es = []
  | (k, d) :: r, es => ∃ q v t, es = (q, v) :: t ∧ k = keyD q ∧ At H d v ∧ AtKv H r t
end
mutual
theorem At.mono {H H' : Hp} (m : Same H H') : ∀ (d : PyData) (v : V), At H d v → At H' d v
  | .none, _, h => by unfold At at h ⊢; exact h
  | .bool _, _, h => by unfold At at h ⊢; exact h
  | .int _, _, h => by unfold At at h ⊢; exact h
  | .str _, _, h => by unfold At at h ⊢; exact h
  | .tuple ds, v, h => by
    unfold At at h ⊢
    obtain ⟨a, xs, e, h1, h2⟩ := h
    exact ⟨a, xs, e, m _ _ h1, AtAll.mono m ds xs h2⟩
  | .list ds, v, h => by
    unfold At at h ⊢
    obtain ⟨a, xs, e, h1, h2⟩ := h
    exact ⟨a, xs, e, m _ _ h1, AtAll.mono m ds xs h2⟩
  | .dict kvs, v, h => by
    unfold At at h ⊢
    obtain ⟨a, es, e, h1, h2⟩ := h
    exact ⟨a, es, e, m _ _ h1, AtKv.mono m kvs es h2⟩
theorem AtAll.mono {H H' : Hp} (m : Same H H') : ∀ (ds : List PyData) (xs : List V), AtAll H ds xs → AtAll H' ds xs
  | [], _, h => by unfold AtAll at h ⊢; exact h
  | d :: ds, xs, h => by
    unfold AtAll at h ⊢
    obtain ⟨x, r, e, h1, h2⟩ := h
    exact ⟨x, r, e, At.mono m d x h1, AtAll.mono m ds r h2⟩
theorem AtKv.mono {H H' : Hp} (m : Same H H') : ∀ (kvs : List (PyData × PyData)) (es : List (Key × V)), AtKv H kvs es → AtKv H' kvs es
  | [], _, h => by unfold AtKv at h ⊢; exact h
  | (k, d) :: r, es, h => by
    unfold AtKv at h ⊢
    obtain ⟨q, v, t, e, e', h1, h2⟩ := h
    exact ⟨q, v, t, e, e', At.mono m d v h1, AtKv.mono m r t h2⟩
end
theorem AtAll.length {H : Hp} : ∀ {ds : List PyData} {xs : List V}, AtAll H ds xs → xs.length = ds.length
  | [], xs, h => by unfold AtAll at h; rw [h]; rfl
  | d :: ds, xs, h => by
    unfold AtAll at h
    obtain ⟨x, r, e, _, h2⟩ := h
    rw [e, List.length_cons, List.length_cons, AtAll.length h2]
theorem AtAll.get {H : Hp} : ∀ {ds : List PyData} {xs : List V} {i : Nat} {x : V}, AtAll H ds xs → xs[i]? = some x → ∃ d, ds[i]? = some d ∧ At H d x
  | [], xs, i, x, h, e => by unfold AtAll at h; rw [h] at e; simp at e
  | d :: ds, xs, i, x, h, e => by
    unfold AtAll at h
    obtain ⟨y, r, e1, h1, h2⟩ := h
    subst e1
    cases i with
    | zero => simp at e; subst e; exact ⟨d, rfl, h1⟩
    | succ i =>
      obtain ⟨d', q1, q2⟩ := AtAll.get (i := i) (x := x) h2 (by simpa using e)
      exact ⟨d', by simpa using q1, q2⟩
theorem AtAll.getD {H : Hp} : ∀ {ds : List PyData} {xs : List V} {i : Nat} {d : PyData}, AtAll H ds xs → ds[i]? = some d → ∃ x, xs[i]? = some x ∧ At H d x
  | [], xs, i, d, h, e => by simp at e
  | d' :: ds, xs, i, d, h, e => by
    unfold AtAll at h
    obtain ⟨y, r, e1, h1, h2⟩ := h
    subst e1
    cases i with
    | zero => simp at e; subst e; exact ⟨y, rfl, h1⟩
    | succ i =>
      obtain ⟨x, q1, q2⟩ := AtAll.getD (i := i) (d := d) h2 (by simpa using e)
      exact ⟨x, by simpa using q1, q2⟩
theorem AtAll.append {H : Hp} : ∀ {ds es : List PyData} {xs ys : List V}, AtAll H ds xs → AtAll H es ys → AtAll H (ds ++ es) (xs ++ ys)
  | [], es, xs, ys, h, q => by unfold AtAll at h; subst h; exact q
  | d :: ds, es, xs, ys, h, q => by
    unfold AtAll at h
    obtain ⟨x, r, e, h1, h2⟩ := h
    subst e
    show AtAll H (d :: (ds ++ es)) (x :: (r ++ ys))
    unfold AtAll
    exact ⟨x, r ++ ys, rfl, h1, AtAll.append h2 q⟩
theorem AtAll.take {H : Hp} : ∀ {ds : List PyData} {xs : List V} (n : Nat), AtAll H ds xs → AtAll H (ds.take n) (xs.take n)
  | ds, xs, 0, h => by simp [AtAll]
  | [], xs, n + 1, h => by unfold AtAll at h; subst h; simp [AtAll]
  | d :: ds, xs, n + 1, h => by
    unfold AtAll at h
    obtain ⟨x, r, e, h1, h2⟩ := h
    subst e
    show AtAll H (d :: ds.take n) (x :: r.take n)
    unfold AtAll
    exact ⟨x, _, rfl, h1, AtAll.take n h2⟩
theorem AtAll.drop {H : Hp} : ∀ {ds : List PyData} {xs : List V} (n : Nat), AtAll H ds xs → AtAll H (ds.drop n) (xs.drop n)
  | ds, xs, 0, h => h
  | [], xs, n + 1, h => by unfold AtAll at h; subst h; simp [AtAll]
  | d :: ds, xs, n + 1, h => by
    unfold AtAll at h
    obtain ⟨x, r, e, h1, h2⟩ := h
    subst e
    exact AtAll.drop n h2
theorem AtAll.nil {H : Hp} : AtAll H [] [] := by unfold AtAll; rfl
theorem AtAll.cons {H : Hp} {d : PyData} {ds : List PyData} {x : V} {xs : List V} (h1 : At H d x) (h2 : AtAll H ds xs) : AtAll H (d :: ds) (x :: xs) := by
  unfold AtAll; exact ⟨x, xs, rfl, h1, h2⟩
theorem At.tup {H : Hp} {a : Addr} {xs : List V} {ds : List PyData} (h : H a = some (.tup xs)) (q : AtAll H ds xs) : At H (.tuple ds) (.ref a) := by
  unfold At; exact ⟨a, xs, rfl, h, q⟩
theorem At.lst {H : Hp} {a : Addr} {xs : List V} {ds : List PyData} (h : H a = some (.lst xs)) (q : AtAll H ds xs) : At H (.list ds) (.ref a) := by
  unfold At; exact ⟨a, xs, rfl, h, q⟩
theorem At.int {H : Hp} (i : Int) : At H (.int i) (.int i) := by unfold At; rfl
theorem At.str {H : Hp} (x : Str) : At H (.str x) (.str x) := by unfold At; rfl
theorem At.bool {H : Hp} (b : Bool) : At H (.bool b) (.bl b) := by unfold At; rfl
theorem At.non {H : Hp} : At H .none .non := by unfold At; rfl
theorem same_new {H : Hp} {p : Addr} (h : H p = none) (o : HO) : Same H (upd H p o) := fun b u q => by rw [upd_ne (ne_of_none q h)]; exact q
/-- the kind of a thing, by its name -/
def tyD : PyData → String
  | .none => "NoneType"
  | .bool _ => "bool"
  | .int _ => "int"
  | .str _ => "str"
  | .tuple _ => "tuple"
  | .list _ => "list"
  | .dict _ => "dict"
theorem At.ty {K : PySem.W.Frag} {H : Hp} {d : PyData} {v : V} (h : At H d v) : TyOf K H v (.type (tyD d)) := by
  cases d with
  | none => unfold At at h; subst h; exact .non
  | bool b => unfold At at h; subst h; exact .bl b
  | int i => unfold At at h; subst h; exact .int i
  | str x => unfold At at h; subst h; exact .str x
  | tuple ds => unfold At at h; obtain ⟨a, xs, e, h1, _⟩ := h; subst e; exact .tup h1
  | list ds => unfold At at h; obtain ⟨a, xs, e, h1, _⟩ := h; subst e; exact .lst h1
  | dict ds => unfold At at h; obtain ⟨a, xs, e, h1, _⟩ := h; subst e; exact .dK h1
def isInt : PyData → Bool
  | .int _ => true
  | .bool _ => true
  | _ => false
def isTup : PyData → Bool
  | .tuple _ => true
  | _ => false
def isBool : PyData → Bool
  | .bool _ => true
  | _ => false
def isStr : PyData → Bool
  | .str _ => true
  | _ => false
theorem kit_int (K : PySem.W.Frag) (d : PyData) : PySem.W.kitOne K (.type (tyD d)) (.type "int") = some (isInt d) := by cases d <;> kernel_rfl
theorem kit_tup (K : PySem.W.Frag) (d : PyData) : PySem.W.kitOne K (.type (tyD d)) (.type "tuple") = some (isTup d) := by cases d <;> kernel_rfl
theorem kit_bool (K : PySem.W.Frag) (d : PyData) : PySem.W.kitOne K (.type (tyD d)) (.type "bool") = some (isBool d) := by cases d <;> kernel_rfl
theorem kit_str (K : PySem.W.Frag) (d : PyData) : PySem.W.kitOne K (.type (tyD d)) (.type "str") = some (isStr d) := by cases d <;> kernel_rfl
section
variable {X : Cx}
def rIsi (T : String) (f : PyData → Bool) : List V → Hp → VK → Prop := fun vs H Q => ∃ v d, vs = [v, .ty T] ∧ At H d v ∧ Q (.bl (f d)) H
theorem isi_of {T : String} {f : PyData → Bool} (hf : ∀ K d, PySem.W.kitOne K (.type (tyD d)) (.type T) = some (f d)) : CallR X (.builtin "isinstance") (rIsi T f) := by
  refine .mk ?_
  intro pins s σ H vs us Q I r h
  obtain ⟨v, d, rfl, hv, q⟩ := h
  obtain ⟨u, t, rfl, ru, rt⟩ := r.two
  cases (show t = Value.type T from rt)
  exact isinst_ok I ru (hv.ty (K := X.K)) (hf X.K d) fun tk => ⟨.bl (f d), H, I.tok tk, rfl, q⟩
theorem isi_int : CallR X (.builtin "isinstance") (rIsi "int" isInt) := isi_of kit_int
theorem isi_tup : CallR X (.builtin "isinstance") (rIsi "tuple" isTup) := isi_of kit_tup
theorem isi_bool : CallR X (.builtin "isinstance") (rIsi "bool" isBool) := isi_of kit_bool
theorem isi_str : CallR X (.builtin "isinstance") (rIsi "str" isStr) := isi_of kit_str

/-! ### is True, is False -/
theorem op_isB : OpR X (compareOp .Is) (fun x y H Q => ∃ b, y = .bl b ∧ Q (.bl (decide (x = .bl b))) H) := by
  refine .mk ?_
  intro pins s σ H x y v u Q I rx ry h
  obtain ⟨b, rfl, q⟩ := h
  cases (show u = Value.bool b from ry)
  have hp : plainIs v (.bool b) = true := by
    cases x <;> first | (cases rx; rfl) | (obtain ⟨t, rfl⟩ := rx; rfl)
  refine wpAny_is_plain hp (fin_bl I q ?_)
  cases x with
  | bl c =>
    cases (show v = Value.bool c from rx)
    by_cases e : c = b
    · subst e; simp
    · rw [decide_eq_false (fun z => e (by injection z))]; exact (beq_eq_false_iff_ne.mpr (fun z => e (by injection z))).symm
  | _ => first
    | (cases rx; rw [decide_eq_false (fun z => nomatch z)]; rfl)
    | (obtain ⟨t, rfl⟩ := rx; rw [decide_eq_false (fun z => nomatch z)]; rfl)
theorem op_isnotB : OpR X (compareOp .IsNot) (fun x y H Q => ∃ b, y = .bl b ∧ Q (.bl (!decide (x = .bl b))) H) := by
  refine .mk ?_
  intro pins s σ H x y v u Q I rx ry h
  obtain ⟨b, rfl, q⟩ := h
  cases (show u = Value.bool b from ry)
  have hp : plainIs v (.bool b) = true := by
    cases x <;> first | (cases rx; rfl) | (obtain ⟨t, rfl⟩ := rx; rfl)
  refine wpAny_isNot_plain hp (fin_bl I q (congrArg (! ·) ?_))
  cases x with
  | bl c =>
    cases (show v = Value.bool c from rx)
    by_cases e : c = b
    · subst e; simp
    · rw [decide_eq_false (fun z => e (by injection z))]; exact (beq_eq_false_iff_ne.mpr (fun z => e (by injection z))).symm
  | _ => first
    | (cases rx; rw [decide_eq_false (fun z => nomatch z)]; rfl)
    | (obtain ⟨t, rfl⟩ := rx; rw [decide_eq_false (fun z => nomatch z)]; rfl)

/-! ### all, any of a made list of truths -/
theorem vals_bl : ∀ {bs : List Bool} {us : List Value}, Vals (bs.map V.bl) us → us = bs.map Value.bool
  | [], _, .nil => rfl
  | b :: bs, _, .cons r t => by
    cases (show _ = Value.bool b from r)
    rw [vals_bl t]; rfl
theorem range_all (bs : List Bool) : (List.range bs.length).all (fun i => bs.getD i false) = bs.all id := by
  rw [Bool.eq_iff_iff, List.all_eq_true, List.all_eq_true]
  constructor
  · intro h b hb
    obtain ⟨i, hi, rfl⟩ := List.mem_iff_getElem.mp hb
    have := h i (List.mem_range.mpr hi)
    simpa [List.getD_eq_getElem?_getD, hi] using this
  · intro h i hi
    have hi' := List.mem_range.mp hi
    have := h bs[i] (List.getElem_mem hi')
    simpa [List.getD_eq_getElem?_getD, hi'] using this
theorem range_any (bs : List Bool) : (List.range bs.length).any (fun i => bs.getD i false) = bs.any id := by
  rw [Bool.eq_iff_iff, List.any_eq_true, List.any_eq_true]
  constructor
  · rintro ⟨i, hi, h⟩
    have hi' := List.mem_range.mp hi
    exact ⟨bs[i], List.getElem_mem hi', by simpa [List.getD_eq_getElem?_getD, hi'] using h⟩
  · rintro ⟨b, hb, h⟩
    obtain ⟨i, hi, rfl⟩ := List.mem_iff_getElem.mp hb
    exact ⟨i, List.mem_range.mpr hi, by simpa [List.getD_eq_getElem?_getD, hi] using h⟩
theorem call_allB (hc : X.calm = true) : CallR X (.builtin "all") (fun vs H Q => ∃ (p : Addr) (bs : List Bool), vs = [.ref p] ∧ H p = some (.lst (bs.map V.bl)) ∧ Q (.bl (bs.all id)) H) := by
  refine .mk ?_
  intro pins s σ H vs us Q I r h
  obtain ⟨p, bs, rfl, hp, q⟩ := h
  obtain ⟨u, rfl, ru⟩ := r.one
  cases ru
  obtain ⟨z, its, n, rv, e⟩ := I.hok p _ hp
  have e2 := vals_bl rv
  subst e2
  have hl : s.heap.IsList p (bs.map Value.bool).toArray := ⟨_, e, rfl, n, rfl⟩
  have lt : p < s.heap.objs.size := Heap.lt_size e
  refine call_all_walk (wpAny_pyIter_list hl ?_)
  refine ⟨_, _, _, _, _, _, fun i => bs.getD i false, rfl, Walks.list (A := X.A.in1) (I.ok.hd hc) _ p (Nat.ne_of_lt lt) _, ⟨⟨_, Heap.get?_push_size _ rfl, rfl, rfl⟩, hl.push _⟩, fun i v s' Q' E' hv hq => ?_, fun h' tk hk => ?_⟩
  · have hv' : (bs.map Value.bool).toArray[i]? = some v := hv
    have : v = .bool (bs.getD i false) := by
      simp only [List.getElem?_toArray, List.getElem?_map] at hv'
      cases q : bs[i]? with
      | none => rw [q] at hv'; simp at hv'
      | some b => rw [q] at hv'; simp at hv'; simp [List.getD_eq_getElem?_getD, q, ← hv']
    rw [this]
    exact wpAny_truthy_bool hq
  · have e3 : (List.range (bs.map Value.bool).toArray.size).all (fun i => bs.getD i false) = bs.all id := by
      rw [List.size_toArray, List.length_map]; exact range_all bs
    refine ⟨.bl (bs.all id), H, I.kept (t' := tk) (fun b o eb => ?_), by rw [← e3]; rfl, q⟩
    exact hk b o (by simpa using Nat.ne_of_lt (Heap.lt_size eb)) (Heap.get?_push_of_some _ eb)
theorem call_anyB (hc : X.calm = true) : CallR X (.builtin "any") (fun vs H Q => ∃ (p : Addr) (bs : List Bool), vs = [.ref p] ∧ H p = some (.lst (bs.map V.bl)) ∧ Q (.bl (bs.any id)) H) := by
  refine .mk ?_
  intro pins s σ H vs us Q I r h
  obtain ⟨p, bs, rfl, hp, q⟩ := h
  obtain ⟨u, rfl, ru⟩ := r.one
  cases ru
  obtain ⟨z, its, n, rv, e⟩ := I.hok p _ hp
  have e2 := vals_bl rv
  subst e2
  have hl : s.heap.IsList p (bs.map Value.bool).toArray := ⟨_, e, rfl, n, rfl⟩
  have lt : p < s.heap.objs.size := Heap.lt_size e
  refine call_any_walk (wpAny_pyIter_list hl ?_)
  refine ⟨_, _, _, _, _, _, fun i => bs.getD i false, rfl, Walks.list (A := X.A.in1) (I.ok.hd hc) _ p (Nat.ne_of_lt lt) _, ⟨⟨_, Heap.get?_push_size _ rfl, rfl, rfl⟩, hl.push _⟩, fun i v s' Q' E' hv hq => ?_, fun h' tk hk => ?_⟩
  · have hv' : (bs.map Value.bool).toArray[i]? = some v := hv
    have : v = .bool (bs.getD i false) := by
      simp only [List.getElem?_toArray, List.getElem?_map] at hv'
      cases q : bs[i]? with
      | none => rw [q] at hv'; simp at hv'
      | some b => rw [q] at hv'; simp at hv'; simp [List.getD_eq_getElem?_getD, q, ← hv']
    rw [this]
    exact wpAny_truthy_bool hq
  · have e3 : (List.range (bs.map Value.bool).toArray.size).any (fun i => bs.getD i false) = bs.any id := by
      rw [List.size_toArray, List.length_map]; exact range_any bs
    refine ⟨.bl (bs.any id), H, I.kept (t' := tk) (fun b o eb => ?_), by rw [← e3]; rfl, q⟩
    exact hk b o (by simpa using Nat.ne_of_lt (Heap.lt_size eb)) (Heap.get?_push_of_some _ eb)

/-! ### sum of ints -/
theorem preSum_list : ∀ (ns : List Int), preSum (fun i => ns.getD i 0) ns.length = ns.sum := by
  have key : ∀ (ns : List Int) (k : Nat), k ≤ ns.length → preSum (fun i => ns.getD i 0) k = (ns.take k).sum := by
    intro ns k
    induction k with
    | zero => intro _; rfl
    | succ k ih =>
      intro hk
      have e : ns.take (k + 1) = ns.take k ++ [ns.getD k 0] := by
        rw [List.take_succ, List.getElem?_eq_getElem (by omega)]
        simp [List.getD_eq_getElem?_getD, List.getElem?_eq_getElem (show k < ns.length by omega)]
      show preSum _ k + ns.getD k 0 = _
      rw [ih (by omega), e, List.sum_append]
      simp
  intro ns
  rw [key ns ns.length (Nat.le_refl _), List.take_length]
theorem ints_at {ns : List Int} {its : List Value} (r : Vals (ns.map V.int) its) {i : Nat} {v : Value} (h : its.toArray[i]? = some v) : ∃ t, v = .int (ns.getD i 0) t := by
  have h' : its[i]? = some v := by simpa using h
  have hi : i < its.length := (List.getElem?_eq_some_iff.mp h').1
  have hl := r.length
  rw [List.length_map] at hl
  obtain ⟨u, hu, ru⟩ := r.get (i := i) (x := V.int (ns[i]'(by omega))) (by rw [List.getElem?_map, List.getElem?_eq_getElem (by omega)]; rfl)
  rw [h'] at hu
  cases hu
  obtain ⟨t, e⟩ := ru
  exact ⟨t, by rw [e, List.getD_eq_getElem?_getD, List.getElem?_eq_getElem (by omega)]; rfl⟩
theorem call_sumI (hc : X.calm = true) : CallR X (.builtin "sum") (fun vs H Q => ∃ (p : Addr) (ns : List Int), vs = [.ref p] ∧ (H p = some (.lst (ns.map V.int)) ∨ H p = some (.tup (ns.map V.int))) ∧ Q (.int ns.sum) H) := by
  refine .mk ?_
  intro pins s σ H vs us Q I r h
  obtain ⟨p, ns, rfl, hp, q⟩ := h
  obtain ⟨u, rfl, ru⟩ := r.one
  cases ru
  have fin : ∀ {h' : Heap} {tk : Nat} {t' : Tok} {o : Obj}, (∀ b o', b ∉ [s.heap.objs.size] → (s.heap.push o).get? b = some o' → h'.get? b = some o') → EP X pins σ Q (.int (preSum (fun i => ns.getD i 0) ns.length) t') { s with heap := h', toks := tk } := fun {h' tk t' o} hk =>
    ⟨.int ns.sum, H, I.kept (t' := tk) (fun b o' eb => hk b o' (by simpa using Nat.ne_of_lt (Heap.lt_size eb)) (Heap.get?_push_of_some _ eb)), ⟨t', by rw [preSum_list]⟩, q⟩
  rcases hp with hp | hp
  · obtain ⟨z, its, n, rv, e⟩ := I.hok p _ hp
    have hl : s.heap.IsList p its.toArray := ⟨_, e, rfl, n, rfl⟩
    have lt : p < s.heap.objs.size := Heap.lt_size e
    have hlen := rv.length
    rw [List.length_map] at hlen
    refine call_sum_walkG (wpAny_pyIter_list hl ?_)
    refine ⟨_, _, _, _, _, _, fun i => ns.getD i 0, rfl, Walks.list (A := X.A.in1) (I.ok.hd hc) _ p (Nat.ne_of_lt lt) _, ⟨⟨_, Heap.get?_push_size _ rfl, rfl, rfl⟩, hl.push _⟩, fun b hb => ?_, fun i v hv => ints_at rv hv, fun h' tk t' hk => ?_⟩
    · show b < (s.heap.push _).objs.size
      rw [Heap.size_push]
      rcases List.mem_cons.mp hb with rfl | hb
      · exact Nat.lt_succ_self _
      · rw [List.mem_singleton.mp hb]; exact Nat.lt_succ_of_lt lt
    · rw [List.size_toArray, ← hlen]; exact fin hk
  · obtain ⟨z, its, rv, ht⟩ := I.hok p _ hp
    have ht' : s.heap.IsTuple p its.toArray := ht
    have lt : p < s.heap.objs.size := by obtain ⟨o, e, _⟩ := ht; exact Heap.lt_size e
    have hlen := rv.length
    rw [List.length_map] at hlen
    refine call_sum_walkG (wpAny_pyIter_tuple ht' ?_)
    refine ⟨_, _, _, _, _, _, fun i => ns.getD i 0, rfl, Walks.tuple (A := X.A.in1) (I.ok.hd hc) _ p (Nat.ne_of_lt lt) _, ⟨⟨_, Heap.get?_push_size _ rfl, rfl, rfl⟩, ?_⟩, fun b hb => ?_, fun i v hv => ints_at rv hv, fun h' tk t' hk => ?_⟩
    · obtain ⟨o, e, c⟩ := ht'
      exact ⟨o, Heap.get?_push_of_some _ e, c⟩
    · show b < (s.heap.push _).objs.size
      rw [Heap.size_push]
      rcases List.mem_cons.mp hb with rfl | hb
      · exact Nat.lt_succ_self _
      · rw [List.mem_singleton.mp hb]; exact Nat.lt_succ_of_lt lt
    · rw [List.size_toArray, ← hlen]; exact fin hk

/-! ### abs, int of a truth, str of an int, the greater and the lesser of two -/
theorem call_intB : CallR X (.type "int") (fun vs H Q => ∃ (b : Bool), vs = [.bl b] ∧ Q (.int (if b then 1 else 0)) H) := by
  refine .mk ?_
  intro pins s σ H vs us Q I r h
  obtain ⟨b, rfl, q⟩ := h
  obtain ⟨u, rfl, ru⟩ := r.one
  cases (show u = Value.bool b from ru)
  exact call_int_bool ⟨.int (if b then 1 else 0), H, I.tok _, ⟨_, rfl⟩, q⟩
theorem call_strI : CallR X (.type "str") (fun vs H Q => ∃ i : Int, vs = [.int i] ∧ i.natAbs.log2 < 1920 ∧ Q (.str (toString i)) H) := by
  refine .mk ?_
  intro pins s σ H vs us Q I r h
  obtain ⟨i, rfl, hi, q⟩ := h
  obtain ⟨u, rfl, t, rfl⟩ := r.one
  exact PySem.P.str_of_int hi ⟨.str (toString i), H, I.tok _, ⟨_, rfl⟩, q⟩
/-! ### a tuple beside the empty one -/
theorem op_eqNil (hu : X.A.units < cLine) : OpR X (compareOp .Eq) (fun x y H Q => ∃ (a b : Addr) (xs : List V), x = .ref a ∧ y = .ref b ∧ H a = some (.tup xs) ∧ H b = some (.tup []) ∧ Q (.bl xs.isEmpty) H) := by
  refine .mk ?_
  intro pins s σ H x y v u Q I rx ry h
  obtain ⟨a, b, xs, rfl, rfl, ha, hb, q⟩ := h
  cases rx
  cases ry
  obtain ⟨_, its, r1, p1⟩ := I.hok a _ ha
  obtain ⟨_, its2, r2, p2⟩ := I.hok b _ hb
  cases r2
  refine SeqAt.eq_tupleAt (e := fun _ => true) (show s.heap.IsTuple a its.toArray from p1) (show s.heap.IsTuple b #[] from p2) hu (fun j _ h2 => absurd h2 (by simp)) (fin_bl I q ?_)
  cases r1 with
  | nil => rfl
  | cons _ _ => simp
end
end L2
namespace L2
open PySem PySem.Spec PyProof.Rows
/-! ### repr of data without dicts -/
mutual
theorem reads_of {P : Program} {w : World} {H : Hp} {h : Heap} (ok : HOk P w H h) : ∀ (d : PyData) (v : V) (u : Value), At H d v → RelV v u → d.hasDict = false → ∃ as, Reads h u d as
  | .none, v, u, a, r, _ => by unfold At at a; subst a; cases r; exact ⟨_, .none⟩
  | .bool b, v, u, a, r, _ => by unfold At at a; subst a; cases r; exact ⟨_, .bool b⟩
  | .int i, v, u, a, r, _ => by unfold At at a; subst a; obtain ⟨t, rfl⟩ := r; exact ⟨_, .int i t⟩
  | .str x, v, u, a, r, _ => by unfold At at a; subst a; obtain ⟨t, rfl⟩ := r; exact ⟨_, .str x t⟩
  | .tuple ds, v, u, a, r, nd => by
    unfold At at a
    obtain ⟨p, xs, e, hp, ha⟩ := a
    subst e
    cases r
    obtain ⟨_, its, rv, o, e1, e2, n, e3⟩ := ok p _ hp
    obtain ⟨as, ra⟩ := reads_all ok ds xs its ha rv (by simpa [PyData.hasDict] using nd)
    exact ⟨_, .tuple e1 e2 e3 (by simpa using ra)⟩
  | .list ds, v, u, a, r, nd => by
    unfold At at a
    obtain ⟨p, xs, e, hp, ha⟩ := a
    subst e
    cases r
    obtain ⟨_, its, n, rv, e1⟩ := ok p _ hp
    obtain ⟨as, ra⟩ := reads_all ok ds xs its ha rv (by simpa [PyData.hasDict] using nd)
    exact ⟨_, .list e1 rfl rfl (by simpa using ra)⟩
  | .dict kvs, v, u, a, r, nd => by simp [PyData.hasDict] at nd
theorem reads_all {P : Program} {w : World} {H : Hp} {h : Heap} (ok : HOk P w H h) : ∀ (ds : List PyData) (xs : List V) (us : List Value), AtAll H ds xs → Vals xs us → PyData.hasDictAll ds = false → ∃ as, ReadsAll h us ds as
  | [], xs, us, a, r, _ => by unfold AtAll at a; subst a; cases r; exact ⟨_, .nil⟩
  | d :: ds, xs, us, a, r, nd => by
    unfold AtAll at a
    obtain ⟨x, t, e, h1, h2⟩ := a
    subst e
    have nd' : d.hasDict = false ∧ PyData.hasDictAll ds = false := by simpa [PyData.hasDictAll] using nd
    cases r with
    | cons r1 r2 =>
      obtain ⟨as, q1⟩ := reads_of ok d x _ h1 r1 nd'.1
      obtain ⟨bs, q2⟩ := reads_all ok ds t _ h2 r2 nd'.2
      exact ⟨_, .cons q1 q2⟩
end
/-- what repr asks of a thing -/
structure Shows (d : PyData) : Prop where
  can : d.showable = true
  nod : d.hasDict = false
  len : d.shown.length ≤ sizeLine
  dep : d.depth ≤ 60
section
variable {X : Cx}
theorem call_reprD {k : Nat} (hr : Room k X.A) : CallR X (.builtin "repr") (fun vs H Q => ∃ (v : V) (d : PyData), vs = [v] ∧ At H d v ∧ Shows d ∧ Q (.str d.shown) H) := by
  refine .mk ?_
  intro pins s σ H vs us Q I r h
  obtain ⟨v, d, rfl, hv, hs, q⟩ := h
  obtain ⟨u, rfl, ru⟩ := r.one
  cases d with
  | none =>
    unfold At at hv; subst hv
    cases (show u = Value.none from ru)
    exact PySem.P.repr_of_none ⟨.str "None", H, I.tok _, ⟨_, rfl⟩, q⟩
  | bool b =>
    unfold At at hv; subst hv
    cases (show u = Value.bool b from ru)
    exact PySem.P.repr_of_bool ⟨.str (if b then "True" else "False"), H, I.tok _, ⟨_, rfl⟩, q⟩
  | int i =>
    unfold At at hv; subst hv
    obtain ⟨t, rfl⟩ := ru
    exact PySem.P.repr_of_int (of_decide_eq_true hs.can) ⟨.str (toString i), H, I.tok _, ⟨_, rfl⟩, q⟩
  | str x =>
    unfold At at hv; subst hv
    obtain ⟨t, rfl⟩ := ru
    exact PySem.P.repr_of_str ⟨.str (reprText x), H, I.tok _, ⟨_, rfl⟩, q⟩ hs.len
  | _ =>
    obtain ⟨as, R⟩ := reads_of I.hok _ _ _ hv ru hs.nod
    unfold At at hv
    obtain ⟨a, xs, e, _⟩ := hv
    subst e
    cases (show u = Value.ref a from ru)
    have hu := hr.units
    have hd := hs.dep
    exact repr_of_reads' R hs.can (fun z => by rw [hs.nod] at z; cases z) hr.gd (by omega) (fun _ _ e => e) (fun h' t tk hk => ⟨.str _, H, I.kept (t' := tk) hk, ⟨t, rfl⟩, q⟩) hs.len

/-! ### a name that is bound at the top to an int; the defs' promises in one parcel -/
def Gi (mg : Str → Option Value) (x : Str) (i : Int) : Prop := ∃ t, mg x = some (.int i t)
theorem pglobI {x : Str} {i : Int} {pos : Pos} (h : Gi X.mg x i) (hg : Gl X x := by rfl) (hd : (x == ("__debug__" : Str)) = false := by decide) : PE X (.Name x pos) (tC (.int i)) := by
  obtain ⟨t, ht⟩ := h
  exact pe_glob hg ht ⟨t, rfl⟩ hd
/-- a callee: what it promises, how it is found -/
structure Ct (P : Program) (w : World) (K : PySem.W.Frag) (mg : Str → Option Value) (base : Heap) (k : Nat) (x : Str) (ps : List Str) (sp : Sp) where
  f : Addr
  fd : FuncData
  G : FnOk P w K mg base CX0 k f fd ps sp
  kp : PySem.W.keepIn K (.ref f) = true
  b : Binds K fd ps []
  m : mg x = some (.ref f)
def Ct.mono {P : Program} {w : World} {K : PySem.W.Frag} {mg : Str → Option Value} {base : Heap} {j k : Nat} {x : Str} {ps : List Str} {sp : Sp} (c : Ct P w K mg base j x ps sp) (h : j ≤ k) : Ct P w K mg base k x ps sp := { c with G := c.G.mono h }
theorem pcall {k : Nat} {x : Str} {ps : List Str} {sp : Sp} {e : Expr} {es : List Expr} {t : TA} {p pos : Pos} (c : Ct X.prog X.w X.K X.mg X.base k x ps sp) (hr : Room k X.A) (ha : PA X (e :: es) t) (hg : Gl X x := by rfl)
    (hdb : (x == ("__debug__" : Str)) = false := by decide) (he : starEach (e :: es) X.env = (false, eval e X.env) :: starEach es X.env := by rfl) (hpl : (backTo pos (starEach es X.env)).any (·.1) = false := by rfl) :
    PE X (.Call (.Name x p) (e :: es) [] pos) (tCall sp [] E0 t) := pe_call c.G hr hg c.m c.kp c.b .nil pass0 ha hdb he hpl
/-- a callee that tells a truth of things and changes nothing -/
def spB1 (f : PyData → Bool) : Sp := fun vs H Q _ => ∃ v d, vs = [v] ∧ At H d v ∧ ∀ H', Same H H' → Q (.bl (f d)) H'
def spB2 (f : PyData → PyData → Bool) : Sp := fun vs H Q _ => ∃ v d v' d', vs = [v, v'] ∧ At H d v ∧ At H d' v' ∧ ∀ H', Same H H' → Q (.bl (f d d')) H'
/-- .. beside a thing ints -/
def spBI1 (f : PyData → Int → Bool) : Sp := fun vs H Q _ => ∃ v d i, vs = [v, .int i] ∧ At H d v ∧ ∀ H', Same H H' → Q (.bl (f d i)) H'
def spBI2 (f : PyData → Int → Int → Bool) : Sp := fun vs H Q _ => ∃ v d i j, vs = [v, .int i, .int j] ∧ At H d v ∧ ∀ H', Same H H' → Q (.bl (f d i j)) H'
theorem spB1.len {f : PyData → Bool} {ps : List Str} (h : ps.length = 1) : ∀ vs H Q E, spB1 f vs H Q E → vs.length = ps.length := by rintro vs H Q E ⟨v, d, rfl, _⟩; exact h.symm
theorem spB2.len {f : PyData → PyData → Bool} {ps : List Str} (h : ps.length = 2) : ∀ vs H Q E, spB2 f vs H Q E → vs.length = ps.length := by rintro vs H Q E ⟨v, d, v', d', rfl, _⟩; exact h.symm
theorem spBI1.len {f : PyData → Int → Bool} {ps : List Str} (h : ps.length = 2) : ∀ vs H Q E, spBI1 f vs H Q E → vs.length = ps.length := by rintro vs H Q E ⟨v, d, i, rfl, _⟩; exact h.symm
theorem spBI2.len {f : PyData → Int → Int → Bool} {ps : List Str} (h : ps.length = 3) : ∀ vs H Q E, spBI2 f vs H Q E → vs.length = ps.length := by rintro vs H Q E ⟨v, d, i, j, rfl, _⟩; exact h.symm
theorem B1.of {f : PyData → Bool} {v : V} {d : PyData} {H : Hp} {Q : VK} {E : XK} (h : At H d v) (q : ∀ H', Same H H' → Q (.bl (f d)) H') : spB1 f ([v] ++ []) H Q E := ⟨v, d, rfl, h, q⟩
theorem BI1.of {f : PyData → Int → Bool} {v : V} {d : PyData} {i : Int} {H : Hp} {Q : VK} {E : XK} (h : At H d v) (q : ∀ H', Same H H' → Q (.bl (f d i)) H') : spBI1 f ([v, .int i] ++ []) H Q E := ⟨v, d, i, rfl, h, q⟩
theorem BI2.of {f : PyData → Int → Int → Bool} {v : V} {d : PyData} {i j : Int} {H : Hp} {Q : VK} {E : XK} (h : At H d v) (q : ∀ H', Same H H' → Q (.bl (f d i j)) H') : spBI2 f ([v, .int i, .int j] ++ []) H Q E := ⟨v, d, i, j, rfl, h, q⟩
theorem B2.of {f : PyData → PyData → Bool} {v v' : V} {d d' : PyData} {H : Hp} {Q : VK} {E : XK} (h : At H d v) (h' : At H d' v') (q : ∀ H', Same H H' → Q (.bl (f d d')) H') : spB2 f ([v, v'] ++ []) H Q E := ⟨v, d, v', d', rfl, h, h', q⟩

/-! ### a comprehension over a tuple of things, each told a truth -/
theorem comp_truths {K : PySem.W.Frag} {a acc : Addr} {xs : List V} {ds : List PyData} {f : PyData → Bool} {te : TE} {cap : St} {H : Hp} {Q : VK} (hacc : H acc = none) (ha : H a = some (.tup xs)) (hd : AtAll H ds xs) (hz : ds.length ≤ sizeLine)
    (step : ∀ x d H', Same H H' → At H' d x → ∀ R : VK, (∀ H'', Same H' H'' → R (.bl (f d)) H'') → te (some x :: cap) H' R)
    (fin : ∀ H', Same H H' → H' acc = some (.lst ((ds.map f).map V.bl)) → Q (.ref acc) H') :
    ∃ W : Nat → Nat → List V → Hp → Prop, (∃ m, W 0 m [] (upd H acc (.lst []))) ∧ ∀ i m ys H2, W i m ys H2 →
      ((Itt K a).stop i H2 ∧ Q (.ref acc) H2) ∨ ((Itt K a).go i H2 ∧ ∀ x H3, (Itt K a).yld i H2 x H3 → te (some x :: cap) H3 fun y H4 => H4 acc = some (.lst ys) ∧ ys.length < sizeLine ∧ ∃ m', m' < m ∧ W (i + 1) m' (ys ++ [y]) (upd H4 acc (.lst (ys ++ [y])))) := by
  have hlen := hd.length
  refine ⟨fun i m ys H2 => m = ds.length - i ∧ i ≤ ds.length ∧ ys = ((ds.take i).map f).map V.bl ∧ Same H H2 ∧ H2 acc = some (.lst ys), ⟨_, rfl, Nat.zero_le _, rfl, same_new hacc _, upd_same⟩, ?_⟩
  rintro i m ys H2 ⟨rfl, hi, rfl, sm, hy⟩
  have ht : SqT K H2 a xs := SqT.of (sm _ _ ha)
  by_cases hlt : i < ds.length
  · refine .inr ⟨⟨xs, xs[i]'(by omega), ht, List.getElem?_eq_getElem (by omega)⟩, fun x H3 y => ?_⟩
    obtain ⟨e, y⟩ := y
    subst e
    obtain ⟨d, e1, e2⟩ := hd.get (y xs ht)
    refine step x d _ sm (e2.mono sm) _ fun H4 s4 => ⟨s4 _ _ hy, ?_, ds.length - (i + 1), by omega, rfl, hlt, ?_, ?_, upd_same⟩
    · rw [List.length_map, List.length_map, List.length_take]; omega
    · rw [List.take_succ, e1]; simp
    · refine fun b o q => ?_
      have nb : b ≠ acc := ne_of_none q hacc
      rw [upd_ne nb]
      exact s4 _ _ (sm _ _ q)
  · have e : i = ds.length := by omega
    subst e
    refine .inl ⟨⟨xs, ht, by omega⟩, fin _ sm ?_⟩
    rw [hy, List.take_length]
theorem comp_T {K : PySem.W.Frag} {js : List Nat} {a : Addr} {xs : List V} {ds : List PyData} {f : PyData → Bool} {tl te : TE} {σ : St} {H : Hp} {Q : VK} (hl : ∀ R : VK, R (.ref a) H → tl σ H R) (ha : H a = some (.tup xs)) (hd : AtAll H ds xs) (hz : ds.length ≤ sizeLine)
    (step : ∀ x d H', Same H H' → At H' d x → ∀ R : VK, (∀ H'', Same H' H'' → R (.bl (f d)) H'') → te (some x :: capS js σ) H' R)
    (fin : ∀ acc H', Same H H' → H' acc = some (.lst ((ds.map f).map V.bl)) → Q (.ref acc) H') : tComp js (iTup K tl) te σ H Q :=
  hl _ ⟨a, rfl, ⟨xs, SqT.of ha⟩, fun acc hacc => comp_truths hacc ha hd hz step fun H' s' e => fin acc H' s' e⟩
end
/-! ### the words by which a reading is opened -/
theorem rd_var0 {v : V} {σ : St} {H : Hp} {Q : VK} : tVar 0 (some v :: σ) H Q = Q v H := by
  unfold tVar; simp
theorem rd_varS {i : Nat} {o : Option V} {σ : St} {H : Hp} {Q : VK} : tVar (i + 1) (o :: σ) H Q = tVar i σ H Q := by
  unfold tVar; simp
theorem rd_set0 {v : V} {o : Option V} {σ : St} : (o :: σ).set 0 (some v) = some v :: σ := rfl
theorem rd_setS {i : Nat} {v : V} {o : Option V} {σ : St} : (o :: σ).set (i + 1) (some v) = o :: σ.set i (some v) := rfl
theorem rd_gcons {t : TG} {u : TGs} {v : V} {r : List V} {σ : St} {H : Hp} {Q : St → Hp → Prop} : gCons t u (v :: r) σ H Q = t v σ H fun σ' H' => u r σ' H' Q := by
  unfold gCons
  refine propext ⟨?_, fun h => ⟨v, r, rfl, h⟩⟩
  rintro ⟨v', r', e, h⟩
  cases e
  exact h
theorem rd_gnil {σ : St} {H : Hp} {Q : St → Hp → Prop} : gNil [] σ H Q = Q σ H := by
  unfold gNil; simp
theorem and_if {b : Bool} {A B : Prop} (h1 : b = true → A) (h2 : b = false → B) : if b = true then A else B := by
  cases b
  · rw [if_neg (by decide)]; exact h2 rfl
  · rw [if_pos rfl]; exact h1 rfl
theorem not_if {b : Bool} {A B : Prop} (h1 : b = false → A) (h2 : b = true → B) : if (!b) = true then A else B := by
  cases b
  · rw [if_pos (by decide)]; exact h1 rfl
  · rw [if_neg (by decide)]; exact h2 rfl
theorem rd_eqI {i j : Int} {H : Hp} {Q : VK} : rEq (.int i) (.int j) H Q = Q (.bl (decide (i = j))) H := by
  unfold rEq scal; simp
theorem rd_neI {i j : Int} {H : Hp} {Q : VK} : rNe (.int i) (.int j) H Q = Q (.bl (!decide (i = j))) H := by
  unfold rNe scal; simp
theorem rd_eqS {i j : Str} {H : Hp} {Q : VK} : rEq (.str i) (.str j) H Q = Q (.bl (decide (i = j))) H := by
  unfold rEq scal; simp
theorem rd_neS {i j : Str} {H : Hp} {Q : VK} : rNe (.str i) (.str j) H Q = Q (.bl (!decide (i = j))) H := by
  unfold rNe scal; simp
theorem rd_args1 {v : V} {P : V → Prop} : (∃ i, [v] = [i] ∧ P i) = P v := by
  simp
theorem rd_argI {i : Int} {P : Int → Prop} : (∃ k, [V.int i] = [V.int k] ∧ P k) = P i := by
  simp
theorem rd_argB {i : Bool} {P : Bool → Prop} : (∃ k, [V.bl i] = [V.bl k] ∧ P k) = P i := by
  simp
theorem rd_argII {i j : Int} {P : Int → Int → Prop} : (∃ a b, [V.int i, V.int j] = [V.int a, V.int b] ∧ P a b) = P i j := by
  refine propext ⟨?_, fun h => ⟨i, j, rfl, h⟩⟩
  rintro ⟨a, b, e, h⟩
  cases e
  exact h
theorem rd_test {b : Bool} {P : Bool → Prop} : (∃ k, V.bl b = V.bl k ∧ P k) = P b := by
  simp
theorem rd_int {i : Int} {P : Int → Prop} : (∃ k, V.int i = V.int k ∧ P k) = P i := by
  simp
theorem rd_ii {i j : Int} {P : Int → Int → Prop} : (∃ a b, V.int i = V.int a ∧ V.int j = V.int b ∧ P a b) = P i j := by
  simp
end L2
namespace L2
open PySem PySem.Spec PyProof.Rows
theorem forIn_steps {α β : Type} {g : β → α → β} {f : α → β → Sem (ForInStep β)} : ∀ (l : List α) (c : β), (∀ x ∈ l, ∀ c, f x c = pure (.yield (g c x))) → forIn l c f = (pure (l.foldl g c) : Sem β)
  | [], c, _ => rfl
  | x :: l, c, h => by
    rw [List.forIn_cons, h x List.mem_cons_self c, pure_bind]
    exact forIn_steps l (g c x) fun y hy => h y (List.mem_cons_of_mem _ hy)
theorem closure_is {sc : Scope} {env : Env} (h : (sc.names.all fun y => y.2 != .free || (env.cells.lookup y.1).isSome) = true) : closureFor sc env = pure (clOf sc env) := by
  unfold closureFor clOf
  dsimp only
  rw [forIn_steps (g := clStep env) sc.names [] (fun y hy c => ?_)]
  · rfl
  obtain ⟨n, k⟩ := y
  have a := List.all_eq_true.mp h _ hy
  dsimp only
  unfold clStep
  dsimp only
  cases hk : (k == NameKind.free) with
  | false => simp
  | true =>
    have hk' : k = .free := beq_iff_eq.mp hk
    subst hk'
    have a' : (env.cells.lookup n).isSome = true := by simpa using a
    obtain ⟨c', hc'⟩ := Option.isSome_iff_exists.mp a'
    simp [cellOf, hc']
theorem names_ok {sc : Scope} (h : (sc.names.all fun y => y.2 != .local || sc.names.lookup y.1 == some .local) = true) : ∀ y ∈ sc.names, y.2 = .local → sc.names.lookup y.1 = some .local := fun y hy e => by
  have a := List.all_eq_true.mp h y hy
  rw [e] at a
  simpa using a
theorem CSc.mk0 {X : Cx} {x : Str} {sc : Scope} (k : sc.kind = .function := by rfl) (n : (sc.names.all fun y => y.2 != .cell && y.2 != .free) = true := by decide +kernel) (l : (sc.names.all fun y => y.2 != .local || sc.names.lookup y.1 == some .local) = true := by decide +kernel) : CSc X [x] [] sc := by
  have n' : ∀ y ∈ sc.names, y.2 ≠ .cell ∧ y.2 ≠ .free := fun y hy => by have := List.all_eq_true.mp n y hy; simpa using this
  have al : (sc.names.all fun y => y.2 != .free || (X.env.cells.lookup y.1).isSome) = true := List.all_eq_true.mpr fun y hy => by simp [(n' y hy).2]
  exact ⟨k, fun y hy => (n' y hy).1, names_ok l, closure_is al, al, rfl, fun i j h => by simp at h, fun y h => by simp at h⟩
theorem CSc.mk1 {X : Cx} {x y : Str} {sc : Scope} {j : Nat} (hj : X.N[j]? = some y := by rfl) (k : sc.kind = .function := by rfl) (n : (sc.names.all fun y => y.2 != .cell) = true := by decide +kernel)
    (l : (sc.names.all fun y => y.2 != .local || sc.names.lookup y.1 == some .local) = true := by decide +kernel) (al : (sc.names.all fun y => y.2 != .free || (X.env.cells.lookup y.1).isSome) = true := by rfl)
    (k1 : X.env.kindOf y = some .cell := by rfl) (k2 : sc.names.lookup y = some .free := by rfl) : CSc X [x, y] [j] sc := by
  have n' : ∀ y ∈ sc.names, y.2 ≠ .cell := fun y hy => by have := List.all_eq_true.mp n y hy; simpa using this
  refine ⟨k, n', names_ok l, closure_is al, al, rfl, fun i j' h => ?_, fun z h => ?_⟩
  · cases i with
    | zero => simp at h; subst h; exact hj.symm
    | succ i => simp at h
  · have e : z = y := by simpa using h
    subst e; exact ⟨k1, k2⟩
theorem CSc.mk2 {X : Cx} {x y z : Str} {sc : Scope} {j j2 : Nat} (hj : X.N[j]? = some y := by rfl) (hj2 : X.N[j2]? = some z := by rfl) (k : sc.kind = .function := by rfl) (n : (sc.names.all fun y => y.2 != .cell) = true := by decide +kernel)
    (l : (sc.names.all fun y => y.2 != .local || sc.names.lookup y.1 == some .local) = true := by decide +kernel) (al : (sc.names.all fun y => y.2 != .free || (X.env.cells.lookup y.1).isSome) = true := by rfl)
    (k1 : X.env.kindOf y = some .cell := by rfl) (k2 : sc.names.lookup y = some .free := by rfl) (k3 : X.env.kindOf z = some .cell := by rfl) (k4 : sc.names.lookup z = some .free := by rfl) : CSc X [x, y, z] [j, j2] sc := by
  have n' : ∀ y ∈ sc.names, y.2 ≠ .cell := fun y hy => by have := List.all_eq_true.mp n y hy; simpa using this
  refine ⟨k, n', names_ok l, closure_is al, al, rfl, fun i j' h => ?_, fun v h => ?_⟩
  · match i, h with
    | 0, h => simp at h; subst h; exact hj.symm
    | 1, h => simp at h; subst h; exact hj2.symm
    | i + 2, h => simp at h
  · have e : v = y ∨ v = z := by simpa using h
    rcases e with e | e
    · subst e; exact ⟨k1, k2⟩
    · subst e; exact ⟨k3, k4⟩
/-! ### arguments without a star -/
def plainE : Expr → Bool
  | .Starred _ _ => false
  | _ => true
theorem star_one {env : Env} {e : Expr} {es : List Expr} (h : plainE e = true) : starEach (e :: es) env = (false, eval e env) :: starEach es env := by
  cases e <;> first | rfl | exact absurd h (by simp [plainE])
theorem star_none {env : Env} {pos : Pos} : ∀ {es : List Expr}, es.all plainE = true → (backTo pos (starEach es env)).any (·.1) = false
  | [], _ => rfl
  | e :: es, h => by
    have h' : plainE e = true ∧ es.all plainE = true := by simpa using h
    rw [star_one h'.1]
    show (false || (backTo pos (starEach es env)).any (·.1)) = false
    rw [star_none h'.2]; rfl
section
variable {X : Cx} {x : Str} {p pos : Pos} {e : Expr} {es : List Expr} {te : TE} {t : TA} {id T : String} {r : List V → Hp → VK → Prop}
theorem pa_c (ha : PE X e te) (hr : PA X es t) (h : plainE e = true := by rfl) : PA X (e :: es) (tCons te t) := pa_cons ha hr (star_one h)
theorem pf {k : Nat} {ps : List Str} {sp : Sp} (c : Ct X.prog X.w X.K X.mg X.base k x ps sp) (hr : Room k X.A) (ha : PA X (e :: es) t) (hg : Gl X x := by rfl) (hdb : (x == ("__debug__" : Str)) = false := by decide) (h1 : plainE e = true := by rfl) (h2 : es.all plainE = true := by rfl) :
    PE X (.Call (.Name x p) (e :: es) [] pos) (tCall sp [] E0 t) := pcall c hr ha hg hdb (star_one h1) (star_none h2)
theorem pb (hc : CallR X (.builtin id) r) (hm : X.mg x = none) (hv : bootBuiltins x = some (.builtin id)) (ha : PA X (e :: es) t) (hg : Gl X x := by rfl) (hn : x ≠ "__name__" := by decide) (hdb : (x == ("__debug__" : Str)) = false := by decide)
    (h1 : plainE e = true := by rfl) (h2 : es.all plainE = true := by rfl) : PE X (.Call (.Name x p) (e :: es) [] pos) (tCB r t) := pe_callB hc hg hm hv ha hn hdb (star_one h1) (star_none h2)
theorem pt (hc : CallR X (.type T) r) (hm : X.mg x = none) (hv : bootBuiltins x = some (.type T)) (ha : PA X (e :: es) t) (hg : Gl X x := by rfl) (hn : x ≠ "__name__" := by decide) (hdb : (x == ("__debug__" : Str)) = false := by decide)
    (h1 : plainE e = true := by rfl) (h2 : es.all plainE = true := by rfl) : PE X (.Call (.Name x p) (e :: es) [] pos) (tCB r t) := pe_callTy hc hg hm hv ha hn hdb (star_one h1) (star_none h2)
end
end L2
namespace HT
open PySem PyProof.Rows
section
variable {prog : Program} {w : World} {A : Around} {E : Value → Shared → Prop} {s : Shared}
/-- t[a:b] where that is the whole of t: t itself -/
theorem getItem_tuple_all {t sl : Addr} {items : Array Value} {vl vu : Value} {lo hi : Option Int} {Q : Value → Shared → Prop} (ht : IsTup s.heap t items) (hs : s.heap.IsSliceOf sl vl vu .none) (pl : IsPart vl lo) (pu : IsPart vu hi)
    (hw1 : sIx items.size 0 lo = 0) (hw2 : sIx items.size items.size hi = items.size) (h : Q (.ref t) s) : wpAny (model prog w) A (getItem (.ref t) (.ref sl)) Q E s := by
  obtain ⟨os, hos, hcs, hds⟩ := id hs
  have tyS : s.TypeIs (.ref sl) "slice" := ⟨os, hos, hcs⟩
  unfold getItem
  try with_reducible refine wpAny_holding ?_
  first | refine wpAny_bind (wpAny_pure ?_) | skip
  refine wpAny_bind (wpAny_sequenceKey ht.typeIs (by decide) ?_)
  refine wpAny_bind (wpAny_callSpecial?_slot (name := Str.ofString "__getitem__") ht.typeIs PyProof.Rows.slot_tuple_getitem (wpAny_call_entry PyProof.Rows.slot_tuple_getitem ht.typeIs entry_tuple_getitem ?_ (args_tuple_getitem _ _)))
  show wpAny _ _ (Builtin.Tuple.tupleItemsOf (.ref t) >>= _) _ _ s
  refine wpAny_bind (tupleItemsOf_ ht ?_)
  refine wpAny_bind (wpAny_typeOf tyS ?_)
  rw [if_pos (by decide)]
  refine wpAny_bind (sliceApplied_gen hs pl pu ?_)
  have yes : (((sIx items.size 0 lo : Nat) : Int) == 0 && (1 : Int) == 1 && (sIx items.size items.size hi - sIx items.size 0 lo) == items.size) = true := by
    rw [hw1, hw2]; simp
  show wpAny _ _ (if (((sIx items.size 0 lo : Nat) : Int) == 0 && (1 : Int) == 1 && (sIx items.size items.size hi - sIx items.size 0 lo) == items.size) = true then _ else _) _ _ s
  rw [if_pos yes]
  have ex : ∀ {R : Bool → Shared → Prop}, R true s → wpAny (model prog w) A.in1 (Builtin.Tuple.tupleIsExact (.ref t)) R E s := fun {R} q => by
    unfold Builtin.Tuple.tupleIsExact
    refine wpAny_bind (wpAny_typeOf ht.typeIs (wpAny_pure ?_))
    rw [beq_self_eq_true]
    exact q
  refine wpAny_bind (ex ?_)
  rw [if_pos rfl]
  exact wpAny_bind (wpAny_rule (wpAny_pure ⟨_, rfl, wpAny_pure h⟩))
end
end HT
namespace L2
open PySem PySem.Spec PyProof.Rows
/-! ### Python's own names -/
theorem bt_isinstance : bootBuiltins "isinstance" = some (.builtin "isinstance") := by decide +kernel
theorem bt_len : bootBuiltins "len" = some (.builtin "len") := by decide +kernel
theorem bt_all : bootBuiltins "all" = some (.builtin "all") := by decide +kernel
theorem bt_any : bootBuiltins "any" = some (.builtin "any") := by decide +kernel
theorem bt_sum : bootBuiltins "sum" = some (.builtin "sum") := by decide +kernel
theorem bt_repr : bootBuiltins "repr" = some (.builtin "repr") := by decide +kernel
theorem bt_abs : bootBuiltins "abs" = some (.builtin "abs") := by decide +kernel
theorem bt_min : bootBuiltins "min" = some (.builtin "min") := by decide +kernel
theorem bt_max : bootBuiltins "max" = some (.builtin "max") := by decide +kernel
theorem bt_sorted : bootBuiltins "sorted" = some (.builtin "sorted") := by decide +kernel
theorem bt_int : bootBuiltins "int" = some (.type "int") := by decide +kernel
theorem bt_str : bootBuiltins "str" = some (.type "str") := by decide +kernel
theorem bt_bool : bootBuiltins "bool" = some (.type "bool") := by decide +kernel
theorem bt_list : bootBuiltins "list" = some (.type "list") := by decide +kernel
theorem bt_tuple : bootBuiltins "tuple" = some (.type "tuple") := by decide +kernel
theorem bt_dict : bootBuiltins "dict" = some (.type "dict") := by decide +kernel
theorem bt_range : bootBuiltins "range" = some (.type "range") := by decide +kernel
theorem bt_enumerate : bootBuiltins "enumerate" = some (.type "enumerate") := by decide +kernel
theorem bt_zip : bootBuiltins "zip" = some (.type "zip") := by decide +kernel
section
variable {X : Cx}
theorem pty {x : Str} {T : String} {pos : Pos} (hg : Gl X x) (hm : X.mg x = none) (hv : bootBuiltins x = some (.type T)) (hn : x ≠ "__name__" := by decide) (hd : (x == ("__debug__" : Str)) = false := by decide) : PE X (.Name x pos) (tC (.ty T)) :=
  pe_bltn (v := .ty T) hg hm hv rfl hn hd
theorem Isi.of {T : String} {g : PyData → Bool} {v : V} {d : PyData} {H : Hp} {Q : VK} (h : At H d v) (q : Q (.bl (g d)) H) : rIsi T g [v, .ty T] H Q := ⟨v, d, rfl, h, q⟩
/-- a name that is bound at the top to a tuple -/
def GT (K : PySem.W.Frag) (mg : Str → Option Value) (x : Str) (W : List V) : Prop := ∃ a, mg x = some (.ref a) ∧ ∀ H, SqT K H a W
def tGT (K : PySem.W.Frag) (W : List V) : TE := fun _ H Q => ∀ a, (∀ H', SqT K H' a W) → Q (.ref a) H
theorem pglobT {K : PySem.W.Frag} {x : Str} {W : List V} {pos : Pos} (hK : X.K = K) (h : GT K X.mg x W) (hg : Gl X x := by rfl) (hd : (x == ("__debug__" : Str)) = false := by decide) : PE X (.Name x pos) (tGT K W) := by
  obtain ⟨a, ha, hs⟩ := h
  refine .mk ?_
  intro pins s σ H Q I q
  exact pe_glob (v := .ref a) hg ha rfl hd pins s σ H Q I (q a hs)
/-- len of a list or a tuple, tracked or of the top -/
def rLen (K : PySem.W.Frag) : List V → Hp → VK → Prop := fun vs H Q => ∃ (p : Addr) (ys : List V), vs = [.ref p] ∧ (SqL K H p ys ∨ SqT K H p ys) ∧ Q (.int ys.length) H
theorem call_lenK {K : PySem.W.Frag} (hK : X.K = K) : CallR X (.builtin "len") (rLen K) := by
  subst hK
  exact call_len_seq
def rSlW : V → Option Int → Option Int → Hp → VK → Prop := fun x lo hi H Q => ∃ (a : Addr) (xs : List V), x = .ref a ∧ H a = some (.tup xs) ∧ ∀ p H', Same H H' → H' p = some (.tup (cutV xs lo hi)) → Q (.ref p) H'
theorem sl_tupW : SlR X rSlW := by
  refine .mk ?_
  intro pins s σ H x v vl vu lo hi sl Q I rx hs pl pu h
  obtain ⟨a, xs, e, hx, q⟩ := h
  by_cases hw : HT.sIx xs.length 0 lo = 0 ∧ HT.sIx xs.length xs.length hi = xs.length
  · subst e
    cases rx
    obtain ⟨its, r, ht, hz⟩ := I.tuple (SqT.of (K := X.K) hx)
    have hlen : its.toArray.size = xs.length := by rw [List.size_toArray]; exact r.length.symm
    refine ⟨"tuple", _, PyProof.Rows.slot_tuple_getitem.lookup, ht.typeIs, ?_⟩
    refine HT.getItem_tuple_all ht hs pl pu (by rw [hlen]; exact hw.1) (by rw [hlen]; exact hw.2) ⟨.ref a, H, I, rfl, q a H (Same.refl H) ?_⟩
    rw [hx]
    unfold cutV
    rw [hw.1, hw.2, List.drop_zero, Nat.sub_zero, List.take_length]
  · exact sl_tup pins s σ H x v vl vu lo hi sl Q I rx hs pl pu ⟨a, xs, e, SqT.of hx, hw, fun p hp => q p _ (same_new hp _) upd_same⟩
def rCatW : R2 := fun x y H Q => ∃ (a b : Addr) (xs ys : List V), x = .ref a ∧ y = .ref b ∧ H a = some (.tup xs) ∧ H b = some (.tup ys) ∧ xs.length + ys.length ≤ sizeLine ∧ ∀ p H', Same H H' → H' p = some (.tup (xs ++ ys)) → Q (.ref p) H'
theorem op_catW : OpR X (binaryOp .Add) rCatW := by
  refine .mk ?_
  intro pins s σ H x y v u Q I rx ry h
  obtain ⟨a, b, xs, ys, e1, e2, ha, hb, hz, q⟩ := h
  by_cases hx : xs = []
  · subst hx e1 e2
    cases rx
    cases ry
    obtain ⟨its, r1, p1, _⟩ := I.tuple (SqT.of (K := X.K) ha)
    obtain ⟨its2, r2, p2, _⟩ := I.tuple (SqT.of (K := X.K) hb)
    cases r1
    obtain ⟨⟨cls, dd, data, sl⟩, ho, hc, n, hd⟩ := id p1
    obtain ⟨⟨cls2, dd2, data2, sl2⟩, ho2, hc2, n2, hd2⟩ := id p2
    simp only at hc hd hc2 hd2
    subst hc hd hc2 hd2
    exact concat_meets ⟨_, ho, rfl⟩ ⟨_, ho2, rfl⟩ noFill_tuple_add seq_tuple_add PySem.F.slot_tuple_add PySem.F.entry_tuple_add (PySem.F.args_tuple_add_2 _ _) (tuple_addW0 a b _ _ n n2 dd dd2 sl sl2 (by rfl)) ⟨ho, ho2, ⟨.ref b, H, I, rfl, q b H (Same.refl H) hb⟩⟩
  · refine op_catT pins s σ H x y v u Q I rx ry ⟨a, b, xs, ys, e1, e2, SqT.of ha, SqT.of hb, hx, hz, fun z => ?_, fun _ p hp => q p _ (same_new hp _) upd_same⟩
    subst z
    exact q a H (Same.refl H) (by rw [ha, List.append_nil])
def rIxO : R2 := fun x y H Q => ∃ (p : Addr) (xs : List V) (i : Int) (v : V), x = .ref p ∧ y = .int i ∧ (H p = some (.lst xs) ∨ H p = some (.tup xs)) ∧ atI xs i = some v ∧ Q v H
theorem ix_obj : IxR X rIxO := by
  have h := (ix_list (X := X)).or ix_tup
  refine .mk ?_
  intro a b pins s σ H x y v u Q I rx ry q
  obtain ⟨p, xs, i, z, e1, e2, hp, ha, q⟩ := q
  intro hs
  refine h a b pins s σ H x y v u Q I rx ry ?_ hs
  rcases hp with hp | hp
  · exact .inl ⟨p, xs, i, z, e1, e2, SqL.of hp, ha, q⟩
  · exact .inr ⟨p, xs, i, z, e1, e2, SqT.of hp, ha, q⟩
theorem Ix.tup {a : Addr} {xs : List V} {i : Int} {v : V} {H : Hp} {Q : VK} (h : H a = some (.tup xs)) (e : atI xs i = some v) (q : Q v H) : rIxO (.ref a) (.int i) H Q := ⟨a, xs, i, v, rfl, rfl, .inr h, e, q⟩
theorem Ix.lst {a : Addr} {xs : List V} {i : Int} {v : V} {H : Hp} {Q : VK} (h : H a = some (.lst xs)) (e : atI xs i = some v) (q : Q v H) : rIxO (.ref a) (.int i) H Q := ⟨a, xs, i, v, rfl, rfl, .inl h, e, q⟩
/-- a comprehension over range(n), by an invariant -/
theorem comp_R {js : List Nat} {ta : TA} {te : TE} {σ : St} {H : Hp} {Q : VK} {n : Nat} (hl : ∀ R : List V → Hp → Prop, R [.int n] H → ta σ H R) (hn : n ≤ 1000000)
    (h : ∀ acc, H acc = none → ∃ Pv : Nat → List V → Hp → Prop, Pv 0 [] (upd H acc (.lst [])) ∧
      (∀ i ys H', i < n → Pv i ys H' → te (some (.int (0 + (i : Nat))) :: capS js σ) H' fun y H'' => H'' acc = some (.lst ys) ∧ ys.length < sizeLine ∧ Pv (i + 1) (ys ++ [y]) (upd H'' acc (.lst (ys ++ [y])))) ∧
      ∀ ys H', Pv n ys H' → Q (.ref acc) H') : tComp js (iRng1 ta) te σ H Q := by
  refine hl _ ⟨n, rfl, by omega, by omega, fun acc hacc => ?_⟩
  obtain ⟨Pv, h0, hs, hd⟩ := h acc hacc
  have en : ((n : Int)).toNat = n := Int.toNat_natCast n
  rw [en]
  refine ⟨fun i m ys H' => m = n - i ∧ i ≤ n ∧ Pv i ys H', ⟨n, rfl, Nat.zero_le _, h0⟩, ?_⟩
  rintro i m ys H2 ⟨rfl, hi, p⟩
  by_cases hlt : i < n
  · refine .inr ⟨hlt, fun x H3 y => ?_⟩
    obtain ⟨e, y⟩ := y
    subst e y
    have tmono := hs i ys _ hlt p
    have fe : (fun (y : V) (H'' : Hp) => H'' acc = some (.lst ys) ∧ ys.length < sizeLine ∧ Pv (i + 1) (ys ++ [y]) (upd H'' acc (.lst (ys ++ [y])))) = fun y H4 => H4 acc = some (.lst ys) ∧ ys.length < sizeLine ∧ ∃ m', m' < n - i ∧ (m' = n - (i + 1) ∧ i + 1 ≤ n ∧ Pv (i + 1) (ys ++ [y]) (upd H4 acc (.lst (ys ++ [y])))) := by
      funext y H''
      refine propext ⟨fun ⟨a, b, c⟩ => ⟨a, b, _, by omega, rfl, hlt, c⟩, fun ⟨a, b, m', _, _, _, c⟩ => ⟨a, b, c⟩⟩
    rw [fe] at tmono
    exact tmono
  · have e : i = n := by omega
    subst e
    exact .inl ⟨Nat.le_refl _, hd ys _ p⟩
theorem call_tupL : CallR X (.type "tuple") (fun vs H Q => ∃ (p : Addr) (ys : List V), vs = [.ref p] ∧ H p = some (.lst ys) ∧ ∀ l, H l = none → Q (.ref l) (upd H l (.tup ys))) := by
  refine .mk ?_
  intro pins s σ H vs us Q I r h
  obtain ⟨p, ys, e, hp, q⟩ := h
  exact call_tuple_of pins s σ H vs us Q I r ⟨p, ys, e, .inl ⟨SqL.of hp, q⟩⟩
theorem call_lstT : CallR X (.type "list") (fun vs H Q => ∃ (p : Addr) (ys : List V), vs = [.ref p] ∧ H p = some (.tup ys) ∧ ∀ l, H l = none → Q (.ref l) (upd H l (.lst ys))) := by
  refine .mk ?_
  intro pins s σ H vs us Q I r h
  obtain ⟨p, ys, e, hp, q⟩ := h
  exact call_list_of pins s σ H vs us Q I r ⟨p, ys, e, .inr (SqT.of hp), q⟩
/-- for k in range(n), by an invariant -/
theorem for_R {ta : TA} {g : TG} {tb : TS} {D : Ends} {σ : St} {H : Hp} {n : Nat} (hl : ∀ R : List V → Hp → Prop, R [.int n] H → ta σ H R) (hn : n ≤ 1000000) (Pv : Nat → St → Hp → Prop) (h0 : Pv 0 σ H)
    (hs : ∀ i σ H, i < n → Pv i σ H → g (.int (0 + (i : Nat))) σ H fun σ2 H2 => tb { D with nx := Pv (i + 1), ct := Pv (i + 1), bk := D.nx } σ2 H2) (hd : ∀ σ H, Pv n σ H → D.nx σ H) : tFor (iRng1 ta) g tb D σ H := by
  refine hl _ ⟨n, rfl, by omega, by omega, ?_⟩
  rw [Int.toNat_natCast]
  exact for_range Pv h0 hs hd
/-- displays, the new heap a letter -/
def tLstW (t : TA) : TE := fun σ H Q => t σ H fun xs H1 => xs.length ≤ sizeLine ∧ ∀ p H', H1 p = none → Same H1 H' → H' p = some (.lst xs) → Q (.ref p) H'
def tTupW (t : TA) : TE := fun σ H Q => t σ H fun xs H1 => xs.length ≤ sizeLine ∧ ∀ p H', H1 p = none → Same H1 H' → H' p = some (.tup xs) → Q (.ref p) H'
theorem pe_lstW {es : List Expr} {t : TA} {pos : Pos} (h : PA X es t) : PE X (.List es pos) (tLstW t) := by
  refine .mk ?_
  intro pins s σ H Q I hq
  refine wpAny_List_spliced (thn (h pos pins s σ H _ I hq) fun us s1 ⟨xs, H1, I1, r, z, q⟩ => ⟨by rw [← r.length]; exact z, ?_⟩)
  have fr : H1 s1.heap.objs.size = none := I1.hok.fresh (Nat.le_refl _)
  exact ⟨.ref s1.heap.objs.size, upd H1 s1.heap.objs.size (.lst xs), I1.laid (t' := s1.toks) (fun b u e => Heap.get?_push_of_some _ e) (Nat.le_refl _) ⟨z, us, 0, r, Heap.get?_push_size _ rfl⟩, rfl, q _ _ fr (same_new fr _) upd_same⟩
theorem pe_tupW {es : List Expr} {t : TA} {x1} {pos : Pos} (h : PA X es t) : PE X (.Tuple es x1 pos) (tTupW t) := by
  refine .mk ?_
  intro pins s σ H Q I hq
  refine wpAny_Tuple_spliced (thn (h pos pins s σ H _ I hq) fun us s1 ⟨xs, H1, I1, r, z, q⟩ => ⟨by rw [← r.length]; exact z, ?_⟩)
  have fr : H1 s1.heap.objs.size = none := I1.hok.fresh (Nat.le_refl _)
  exact ⟨.ref s1.heap.objs.size, upd H1 s1.heap.objs.size (.tup xs), I1.laid (t' := s1.toks) (fun b u e => Heap.get?_push_of_some _ e) (Nat.le_refl _) ⟨z, us, r, ⟨_, Heap.get?_push_size _ rfl, rfl, _, rfl⟩⟩, rfl, q _ _ fr (same_new fr _) upd_same⟩
/-- a comprehension over a list of things, each told a truth -/
theorem comp_L {K : PySem.W.Frag} {js : List Nat} {a : Addr} {xs : List V} {ds : List PyData} {g : PyData → Bool} {tl te : TE} {σ : St} {H : Hp} {Q : VK} (hl : ∀ R : VK, R (.ref a) H → tl σ H R) (ha : H a = some (.lst xs)) (hd : AtAll H ds xs) (hz : ds.length ≤ sizeLine)
    (step : ∀ x d H', Same H H' → At H' d x → ∀ R : VK, (∀ H'', Same H' H'' → R (.bl (g d)) H'') → te (some x :: capS js σ) H' R)
    (fin : ∀ acc H', Same H H' → H' acc = some (.lst ((ds.map g).map V.bl)) → Q (.ref acc) H') : tComp js (iList K tl) te σ H Q := by
  refine hl _ ⟨a, rfl, ⟨xs, SqL.of ha⟩, fun acc hacc => ?_⟩
  have hlen := hd.length
  refine ⟨fun i m ys H2 => m = ds.length - i ∧ i ≤ ds.length ∧ ys = ((ds.take i).map g).map V.bl ∧ Same H H2 ∧ H2 acc = some (.lst ys), ⟨_, rfl, Nat.zero_le _, rfl, same_new hacc _, upd_same⟩, ?_⟩
  rintro i m ys H2 ⟨rfl, hi, rfl, sm, hy⟩
  have ht : SqL K H2 a xs := SqL.of (sm _ _ ha)
  by_cases hlt : i < ds.length
  · refine .inr ⟨⟨xs, xs[i]'(by omega), ht, List.getElem?_eq_getElem (by omega)⟩, fun x H3 y => ?_⟩
    obtain ⟨e, y⟩ := y
    subst e
    obtain ⟨d, e1, e2⟩ := hd.get (y xs ht)
    refine step x d _ sm (e2.mono sm) _ fun H4 s4 => ⟨s4 _ _ hy, ?_, ds.length - (i + 1), by omega, rfl, hlt, ?_, ?_, upd_same⟩
    · rw [List.length_map, List.length_map, List.length_take]; omega
    · rw [List.take_succ, e1]; simp
    · refine fun b o q => ?_
      have nb : b ≠ acc := ne_of_none q hacc
      rw [upd_ne nb]
      exact s4 _ _ (sm _ _ q)
  · have e : i = ds.length := by omega
    subst e
    refine .inl ⟨⟨xs, ht, by omega⟩, fin _ _ sm ?_⟩
    rw [hy, List.take_length]
/-! ### all but one object -/
def hid (a : Addr) (H : Hp) : Hp := fun b => if b = a then none else H b
theorem hid_ne {a b : Addr} {H : Hp} (h : b ≠ a) : hid a H b = H b := if_neg h
theorem hid_self {a : Addr} {H : Hp} : hid a H a = none := if_pos rfl
theorem hid_some {a b : Addr} {H : Hp} {o : HO} (h : hid a H b = some o) : b ≠ a ∧ H b = some o := by
  by_cases e : b = a
  · subst e; rw [hid_self] at h; cases h
  · exact ⟨e, by rw [hid_ne e] at h; exact h⟩
theorem hid_upd {a : Addr} {H : Hp} {o : HO} : hid a (upd H a o) = hid a H := by
  funext b
  by_cases e : b = a
  · subst e; rw [hid_self, hid_self]
  · rw [hid_ne e, hid_ne e, upd_ne e]
theorem hid_upd_ne {a p : Addr} {H : Hp} {o : HO} (h : p ≠ a) : hid a (upd H p o) = upd (hid a H) p o := by
  funext b
  by_cases e : b = a
  · subst e; rw [hid_self, upd_ne (Ne.symm h), hid_self]
  · rw [hid_ne e]
    by_cases e' : b = p
    · subst e'; rw [upd_same, upd_same]
    · rw [upd_ne e', upd_ne e', hid_ne e]
theorem hid_sub {a : Addr} {H : Hp} : Same (hid a H) H := fun b o h => (hid_some h).2
/-- what is tracked stays, but for the object at a -/
def SX (a : Addr) (H H' : Hp) : Prop := Same (hid a H) (hid a H')
theorem SX.refl (a : Addr) (H : Hp) : SX a H H := Same.refl _
theorem SX.trans {a : Addr} {H H1 H2 : Hp} (x : SX a H H1) (y : SX a H1 H2) : SX a H H2 := Same.trans x y
theorem SX.of {a : Addr} {H H' : Hp} (s : Same H H') : SX a H H' := fun b o h => by
  obtain ⟨n, e⟩ := hid_some h
  rw [hid_ne n]; exact s _ _ e
theorem SX.upd {a : Addr} {H : Hp} {o : HO} : SX a H (upd H a o) := by unfold SX; rw [hid_upd]; exact Same.refl _
theorem SX.get {a b : Addr} {H H' : Hp} {o : HO} (s : SX a H H') (n : b ≠ a) (h : H b = some o) : H' b = some o := by
  have := s b o (by rw [hid_ne n]; exact h)
  exact (hid_some this).2
/-- the law's tape: three ints, how many draws there were at most -/
def Tp (H : Hp) (a : Addr) (n : Nat) : Prop := ∃ x y z : Int, H a = some (.lst [.int x, .int y, .int z]) ∧ 0 ≤ x ∧ 0 ≤ y ∧ y < 4611686018427387904 ∧ 0 ≤ z ∧ z ≤ n
theorem Tp.mono {H : Hp} {a : Addr} {n m : Nat} (h : Tp H a n) (l : n ≤ m) : Tp H a m := by
  obtain ⟨x, y, z, e, h1, h2, h3, h4, h5⟩ := h
  exact ⟨x, y, z, e, h1, h2, h3, h4, by omega⟩
theorem Tp.same {H H' : Hp} {a : Addr} {n : Nat} (h : Tp H a n) (s : Same H H') : Tp H' a n := by
  obtain ⟨x, y, z, e, r⟩ := h
  exact ⟨x, y, z, s _ _ e, r⟩
theorem Tp.ne {H : Hp} {a b : Addr} {n : Nat} (h : Tp H a n) (e : H b = none) : b ≠ a := by
  obtain ⟨x, y, z, q, _⟩ := h
  intro z; subst z; rw [e] at q; cases q
theorem Tp.neT {H : Hp} {a b : Addr} {n : Nat} {xs : List V} (h : Tp H a n) (e : H b = some (.tup xs)) : b ≠ a := by
  obtain ⟨x, y, z, q, _⟩ := h
  intro z; subst z; rw [e] at q; cases q
theorem Same.hid {a : Addr} {H H' : Hp} (s : Same H H') : Same (L2.hid a H) (L2.hid a H') := fun b o h => by
  obtain ⟨n, e⟩ := hid_some h
  rw [hid_ne n]; exact s _ _ e
theorem Ap.of {K : PySem.W.Frag} {p : Addr} {xs : List V} {v : V} {H : Hp} {Q : VK} (h : H p = some (.lst xs)) (z : xs.length < sizeLine) (q : Q .non (upd H p (.lst (xs ++ [v])))) : rAppend (.ref p) [v] H Q := ⟨p, xs, v, rfl, rfl, h, z, q⟩
theorem SX.updN {a p : Addr} {H H' : Hp} {o : HO} (s : SX a H H') (hp : H p = none) (pa : p ≠ a) : SX a H (L2.upd H' p o) := fun b u h => by
  obtain ⟨n, e⟩ := hid_some h
  rw [hid_upd_ne pa, upd_ne (ne_of_none e hp)]
  exact s b u h
theorem Tp.updN {H : Hp} {a p : Addr} {n : Nat} {o : HO} (t : Tp H a n) (pa : p ≠ a) : Tp (L2.upd H p o) a n := by
  obtain ⟨x, y, z, e, r⟩ := t
  exact ⟨x, y, z, by rw [upd_ne (Ne.symm pa)]; exact e, r⟩
/-- the script: the caller's own list, which nothing here may change -/
def Scr (K : PySem.W.Frag) (H : Hp) (p : Addr) (xs : List V) : Prop := (∃ o, H p = some (.frz o (.lst xs))) ∨
  ∃ (o : Obj) (its : Array Value) (n : Nat), K.lookup p = some o ∧ o.cls = .type "list" ∧ o.dict = none ∧ o.data = .seq its n ∧ its.size ≤ sizeLine ∧ Vals xs its.toList
theorem Scr.sq {K : PySem.W.Frag} {H : Hp} {p : Addr} {xs : List V} (h : Scr K H p xs) : SqL K H p xs := by
  rcases h with ⟨o, h⟩ | h
  · exact .inl (.inr ⟨o, h⟩)
  · exact .inr h
theorem Scr.of {K : PySem.W.Frag} {H : Hp} {p : Addr} {xs : List V} (h : SqL K H p xs) (o : Only H) : Scr K H p xs := by
  rcases h with (h | h) | h
  · rcases o p with e | ⟨ob, ys, e⟩
    · rw [e] at h; cases h
    · rw [e] at h; cases h
  · exact .inl h
  · exact .inr h
theorem Scr.same {K : PySem.W.Frag} {H H' : Hp} {p : Addr} {xs : List V} (h : Scr K H p xs) (s : Same H H') : Scr K H' p xs := by
  rcases h with ⟨o, h⟩ | h
  · exact .inl ⟨o, s _ _ h⟩
  · exact .inr h
theorem Scr.sx {K : PySem.W.Frag} {H H' : Hp} {p a : Addr} {n : Nat} {xs : List V} (h : Scr K H p xs) (t : Tp H a n) (s : SX a H H') : Scr K H' p xs := by
  rcases h with ⟨o, h⟩ | h
  · refine .inl ⟨o, s.get (fun z => ?_) h⟩
    obtain ⟨x, y, w, e, _⟩ := t
    subst z; rw [e] at h; cases h
  · exact .inr h
end
end L2
namespace L2
open PySem PySem.Spec PyProof.Rows
/-! ### things of a known make: their numbers, their texts, how much they weigh when they are shown -/
mutual
def fine (b : Nat) : PyData → Bool
  | .none => true
  | .bool _ => true
  | .int i => decide (i.natAbs ≤ b)
  | .str x => decide (x.length ≤ 40) && x.cps.toList.all fun c => decide (c < 4294967296)
  | .tuple ds => fineAll b ds
  | .list ds => fineAll b ds
  | .dict _ => false
def fineAll (b : Nat) : List PyData → Bool
  | [] => true
  | d :: ds => fine b d && fineAll b ds
end
mutual
def mass : PyData → Nat
  | .tuple ds => massAll ds + 3
  | .list ds => massAll ds + 3
  | .dict _ => 500
  | .none => 500
  | .bool _ => 500
  | .int _ => 500
  | .str _ => 500
def massAll : List PyData → Nat
  | [] => 0
  | d :: ds => mass d + 2 + massAll ds
end
theorem fineAll_iff {b : Nat} : ∀ {ds : List PyData}, fineAll b ds = true ↔ ∀ d ∈ ds, fine b d = true
  | [] => by simp [fineAll]
  | d :: ds => by
    have ih := fineAll_iff (b := b) (ds := ds)
    simp only [fineAll, Bool.and_eq_true, ih, List.mem_cons, forall_eq_or_imp]
theorem depthAll_iff {k : Nat} : ∀ {ds : List PyData}, PyData.depthAll ds ≤ k ↔ ∀ d ∈ ds, d.depth ≤ k
  | [] => by simp [PyData.depthAll]
  | d :: ds => by
    have ih := depthAll_iff (k := k) (ds := ds)
    simp only [PyData.depthAll, List.mem_cons, forall_eq_or_imp, ← ih]
    omega
theorem massAll_append : ∀ (ds es : List PyData), massAll (ds ++ es) = massAll ds + massAll es
  | [], es => by simp [massAll]
  | d :: ds, es => by simp only [List.cons_append, massAll, massAll_append ds es]; omega
theorem massAll_mem : ∀ {ds : List PyData} {d : PyData}, d ∈ ds → mass d + 2 ≤ massAll ds
  | d' :: ds, d, h => by
    simp only [massAll]
    rcases List.mem_cons.mp h with e | h
    · subst e; omega
    · have := massAll_mem h; omega
mutual
theorem fine_mono {b b' : Nat} (h : b ≤ b') : ∀ d : PyData, fine b d = true → fine b' d = true
  | .none, _ => by simp [fine]
  | .bool _, _ => by simp [fine]
  | .int i, e => by
    have := of_decide_eq_true (show decide (i.natAbs ≤ b) = true from by simpa [fine] using e)
    simp only [fine]; exact decide_eq_true (by omega)
  | .str x, e => by simpa [fine] using e
  | .tuple ds, e => by simp only [fine] at e ⊢; exact fineAll_mono h ds e
  | .list ds, e => by simp only [fine] at e ⊢; exact fineAll_mono h ds e
  | .dict _, e => by simp [fine] at e
theorem fineAll_mono {b b' : Nat} (h : b ≤ b') : ∀ ds : List PyData, fineAll b ds = true → fineAll b' ds = true
  | [], _ => rfl
  | d :: ds, e => by
    simp only [fineAll, Bool.and_eq_true] at e ⊢
    exact ⟨fine_mono h d e.1, fineAll_mono h ds e.2⟩
end
mutual
theorem fine_shows {b : Nat} (hb : b < 10 ^ 60) : ∀ d : PyData, fine b d = true → d.showable = true ∧ d.hasDict = false ∧ d.shown.length ≤ mass d
  | .none, _ => ⟨rfl, rfl, by decide +kernel⟩
  | .bool c, _ => ⟨rfl, rfl, by cases c <;> decide +kernel⟩
  | .int i, e => by
    have h1 := of_decide_eq_true (show decide (i.natAbs ≤ b) = true from by simpa [fine] using e)
    have h2 : i.natAbs < 10 ^ 60 := Nat.lt_of_le_of_lt h1 hb
    refine ⟨?_, rfl, ?_⟩
    · show decide (i.natAbs.log2 < 1920) = true
      refine decide_eq_true (log2_small (Nat.lt_trans h2 ?_))
      decide +kernel
    · have := int_text_length_le10 (k := 60) (by decide) h2
      show (Str.ofString (toString i)).length ≤ 500
      rw [PySem.ofString_length]; omega
  | .str x, e => by
    have e' : (decide (x.length ≤ 40) && x.cps.toList.all fun c => decide (c < 4294967296)) = true := by simpa [fine] using e
    rw [Bool.and_eq_true] at e'
    have h1 := of_decide_eq_true e'.1
    have h2 := StrLaws.reprText_len x (fun c hc => by have := List.all_eq_true.mp e'.2 c hc; have := of_decide_eq_true this; omega)
    refine ⟨rfl, rfl, ?_⟩
    show (reprText x).length ≤ 500
    omega
  | .tuple ds, e => by
    have e' : fineAll b ds = true := by simpa [fine] using e
    obtain ⟨h1, h2, h3⟩ := fineAll_shows hb ds e'
    refine ⟨by simpa [PyData.showable] using h1, by simpa [PyData.hasDict] using h2, ?_⟩
    have q := tupleText_len_le (PyData.shownAll ds)
    show (tupleText (PyData.shownAll ds)).length ≤ massAll ds + 3
    omega
  | .list ds, e => by
    have e' : fineAll b ds = true := by simpa [fine] using e
    obtain ⟨h1, h2, h3⟩ := fineAll_shows hb ds e'
    refine ⟨by simpa [PyData.showable] using h1, by simpa [PyData.hasDict] using h2, ?_⟩
    have q := listText_len_le (PyData.shownAll ds)
    show (listText (PyData.shownAll ds)).length ≤ massAll ds + 3
    omega
  | .dict _, e => by simp [fine] at e
theorem fineAll_shows {b : Nat} (hb : b < 10 ^ 60) : ∀ ds : List PyData, fineAll b ds = true → PyData.showableAll ds = true ∧ PyData.hasDictAll ds = false ∧ ((PyData.shownAll ds).map (·.length)).sum + 2 * (PyData.shownAll ds).length ≤ massAll ds
  | [], _ => ⟨rfl, rfl, by decide⟩
  | d :: ds, e => by
    have e' : fine b d = true ∧ fineAll b ds = true := by simpa [fineAll] using e
    obtain ⟨h1, h2, h3⟩ := fine_shows hb d e'.1
    obtain ⟨g1, g2, g3⟩ := fineAll_shows hb ds e'.2
    refine ⟨by simp [PyData.showableAll, h1, g1], by simp [PyData.hasDictAll, h2, g2], ?_⟩
    simp only [PyData.shownAll, List.map_cons, List.sum_cons, List.length_cons, massAll]
    omega
end
/-- numbers to b, at most D deep, at most so heavy -/
structure Nice (b D M : Nat) (d : PyData) : Prop where
  f : fine b d = true
  dp : d.depth ≤ D
  m : mass d ≤ M
theorem Nice.mono {b b' D D' M M' : Nat} {d : PyData} (h : Nice b D M d) (h1 : b ≤ b') (h2 : D ≤ D') (h3 : M ≤ M') : Nice b' D' M' d := ⟨fine_mono h1 d h.f, Nat.le_trans h.dp h2, Nat.le_trans h.m h3⟩
theorem Nice.shows {b D M : Nat} {d : PyData} (h : Nice b D M d) (hb : b < 10 ^ 60) (hD : D ≤ 60) (hM : M ≤ sizeLine) : Shows d := by
  obtain ⟨h1, h2, h3⟩ := fine_shows hb d h.f
  exact ⟨h1, h2, Nat.le_trans h3 (Nat.le_trans h.m hM), Nat.le_trans h.dp hD⟩
theorem fine_text (i : Int) (h : i.natAbs < 10 ^ 30) : fine 0 (.str (toString i)) = true := by
  have l := int_text_length_le10 (k := 30) (by decide) h
  show (decide ((Str.ofString (toString i)).length ≤ 40) && (Str.ofString (toString i)).cps.toList.all fun c => decide (c < 4294967296)) = true
  rw [Bool.and_eq_true]
  refine ⟨decide_eq_true (by rw [PySem.ofString_length]; omega), List.all_eq_true.mpr fun c hc => decide_eq_true ?_⟩
  rw [Str.ofString_eq_toList] at hc
  have hc' : c ∈ (toString i).toList.map Char.toNat := by simpa using hc
  obtain ⟨ch, _, rfl⟩ := List.mem_map.mp hc'
  have := ch.valid
  have : ch.toNat < 4294967296 := ch.val.toNat_lt
  exact this
/-- lists of things, all at once -/
structure NiceAll (b D M : Nat) (ds : List PyData) : Prop where
  f : ∀ d ∈ ds, fine b d = true
  dp : ∀ d ∈ ds, d.depth ≤ D
  m : massAll ds ≤ M
theorem NiceAll.tup {b D M : Nat} {ds : List PyData} (h : NiceAll b D M ds) : Nice b (D + 1) (M + 3) (.tuple ds) :=
  ⟨by simp only [fine]; exact fineAll_iff.mpr h.f, by simp only [PyData.depth]; have := depthAll_iff.mpr h.dp; omega, by simp only [mass]; have := h.m; omega⟩
theorem NiceAll.lst {b D M : Nat} {ds : List PyData} (h : NiceAll b D M ds) : Nice b (D + 1) (M + 3) (.list ds) :=
  ⟨by simp only [fine]; exact fineAll_iff.mpr h.f, by simp only [PyData.depth]; have := depthAll_iff.mpr h.dp; omega, by simp only [mass]; have := h.m; omega⟩
theorem Nice.parts {b D M : Nat} {ds : List PyData} (h : Nice b D M (.tuple ds)) : NiceAll b (D - 1) (M - 3) ds ∧ 1 ≤ D ∧ 3 ≤ M := by
  have h1 := h.f; have h2 := h.dp; have h3 := h.m
  simp only [fine] at h1
  simp only [PyData.depth] at h2
  simp only [mass] at h3
  exact ⟨⟨fineAll_iff.mp h1, depthAll_iff.mp (by omega), by omega⟩, by omega, by omega⟩
theorem NiceAll.mono {b b' D D' M M' : Nat} {ds : List PyData} (h : NiceAll b D M ds) (h1 : b ≤ b') (h2 : D ≤ D') (h3 : M ≤ M') : NiceAll b' D' M' ds :=
  ⟨fun d hd => fine_mono h1 d (h.f d hd), fun d hd => Nat.le_trans (h.dp d hd) h2, Nat.le_trans h.m h3⟩
theorem NiceAll.append {b D M M' : Nat} {ds es : List PyData} (h : NiceAll b D M ds) (h' : NiceAll b D M' es) : NiceAll b D (M + M') (ds ++ es) := by
  refine ⟨fun d hd => ?_, fun d hd => ?_, by rw [massAll_append]; have := h.m; have := h'.m; omega⟩
  · rcases List.mem_append.mp hd with z | z
    · exact h.f d z
    · exact h'.f d z
  · rcases List.mem_append.mp hd with z | z
    · exact h.dp d z
    · exact h'.dp d z
theorem NiceAll.one {b D M : Nat} {d : PyData} (h : Nice b D M d) : NiceAll b D (M + 2) [d] :=
  ⟨fun x hx => by rw [List.mem_singleton.mp hx]; exact h.f, fun x hx => by rw [List.mem_singleton.mp hx]; exact h.dp, by simp only [massAll]; have := h.m; omega⟩
/-- ds = its part ahead of i, the one at i, its part behind -/
theorem split_at {ds : List PyData} {i : Nat} {d : PyData} (h : ds[i]? = some d) : ds = ds.take i ++ d :: ds.drop (i + 1) := by
  obtain ⟨hi, e⟩ := List.getElem?_eq_some_iff.mp h
  rw [← e]; simp
theorem NiceAll.at {b D M : Nat} {ds : List PyData} {i : Nat} {d : PyData} (h : NiceAll b D M ds) (e : ds[i]? = some d) : ∃ M1 M2 M3, NiceAll b D M1 (ds.take i) ∧ Nice b D M2 d ∧ NiceAll b D M3 (ds.drop (i + 1)) ∧ M1 + (M2 + 2) + M3 ≤ M := by
  have m := h.m
  rw [split_at e, massAll_append] at m
  simp only [massAll] at m
  have hm : d ∈ ds := List.mem_of_getElem? e
  exact ⟨_, _, _, ⟨fun x hx => h.f x (List.mem_of_mem_take hx), fun x hx => h.dp x (List.mem_of_mem_take hx), Nat.le_refl _⟩, ⟨h.f d hm, h.dp d hm, Nat.le_refl _⟩, ⟨fun x hx => h.f x (List.mem_of_mem_drop hx), fun x hx => h.dp x (List.mem_of_mem_drop hx), Nat.le_refl _⟩, by omega⟩
theorem nice_int {b : Nat} {i : Int} (h : i.natAbs ≤ b) : Nice b 0 500 (.int i) := ⟨by simp only [fine]; exact decide_eq_true h, Nat.le_refl _, Nat.le_refl _⟩
theorem nice_leaf {b : Nat} {d : PyData} (h : d = .none ∨ (∃ c, d = .bool c)) : Nice b 0 500 d := by
  rcases h with rfl | ⟨c, rfl⟩
  · exact ⟨rfl, Nat.le_refl _, Nat.le_refl _⟩
  · exact ⟨rfl, Nat.le_refl _, Nat.le_refl _⟩
theorem nice_nil {b : Nat} : NiceAll b 0 0 [] := ⟨fun _ h => by simp at h, fun _ h => by simp at h, Nat.le_refl _⟩
theorem nice_str {b : Nat} {x : Str} (h : fine 0 (.str x) = true) : Nice b 0 500 (.str x) := ⟨fine_mono (Nat.zero_le _) _ h, Nat.le_refl _, Nat.le_refl _⟩
/-! ### a number or a truth, reckoned with -/
def numV : V → Option Int
  | .int i => some i
  | .bl b => some (if b = true then 1 else 0)
  | _ => none
section
variable {X : Cx}
theorem op_addN : OpR X (binaryOp .Add) (fun x y H Q => ∃ n j, numV x = some n ∧ y = .int j ∧ Q (.int (n + j)) H) := by
  refine .mk ?_
  intro pins s σ H x y v u Q I rx ry h
  obtain ⟨n, j, hx, rfl, q⟩ := h
  obtain ⟨t', rfl⟩ := ry
  cases x <;> first | (cases hx; done) | skip
  · cases (show v = Value.bool _ from rx); cases hx; exact PySem.IntBool.add_bool_int ⟨.int _, H, I.tok _, ⟨_, rfl⟩, q⟩
  · obtain ⟨t, rfl⟩ := rx; cases hx; exact add_int ⟨.int _, H, I.tok _, ⟨_, rfl⟩, q⟩
theorem op_subN : OpR X (binaryOp .Sub) (fun x y H Q => ∃ n j, numV x = some n ∧ y = .int j ∧ Q (.int (n - j)) H) := by
  refine .mk ?_
  intro pins s σ H x y v u Q I rx ry h
  obtain ⟨n, j, hx, rfl, q⟩ := h
  obtain ⟨t', rfl⟩ := ry
  cases x <;> first | (cases hx; done) | skip
  · cases (show v = Value.bool _ from rx); cases hx; exact PySem.IntBool.sub_bool_int ⟨.int _, H, I.tok _, ⟨_, rfl⟩, q⟩
  · obtain ⟨t, rfl⟩ := rx; cases hx; exact sub_int ⟨.int _, H, I.tok _, ⟨_, rfl⟩, q⟩
theorem call_strN : CallR X (.type "str") (fun vs H Q => ∃ x n, vs = [x] ∧ numV x = some n ∧ n.natAbs < 10 ^ 30 ∧ ∀ t, fine 0 (.str t) = true → Q (.str t) H) := by
  refine .mk ?_
  intro pins s σ H vs us Q I r h
  obtain ⟨x, n, rfl, hx, hn, q⟩ := h
  obtain ⟨u, rfl, rx⟩ := r.one
  cases x <;> first | (cases hx; done) | skip
  · rename_i b
    cases (show u = Value.bool b from rx)
    exact PySem.P.str_of_bool ⟨.str (if b = true then "True" else "False"), H, I.tok _, ⟨_, rfl⟩, q _ (by cases b <;> decide +kernel)⟩
  · rename_i i
    obtain ⟨t, rfl⟩ := rx
    cases hx
    refine PySem.P.str_of_int (log2_small (Nat.lt_trans hn ?_)) ⟨.str (toString n), H, I.tok _, ⟨_, rfl⟩, q _ (fine_text n hn)⟩
    decide +kernel
end
/-- an item at a drawn place -/
theorem pick_at {G : Hp} {ds : List PyData} {xs : List V} {i : Int} (h : AtAll G ds xs) (h0 : 0 ≤ i) (h1 : i < ds.length) : ∃ v d, atI xs i = some v ∧ ds[i.toNat]? = some d ∧ d ∈ ds ∧ At G d v := by
  have hi : i.toNat < ds.length := by omega
  have hd : ds[i.toNat]? = some ds[i.toNat] := List.getElem?_eq_getElem hi
  obtain ⟨x, q1, q2⟩ := h.getD hd
  have := atI_nat q1
  rw [show ((i.toNat : Nat) : Int) = i by omega] at this
  exact ⟨x, _, this, hd, List.getElem_mem hi, q2⟩
theorem cut_to {xs : List V} {i : Int} (h : 0 ≤ i) : cutV xs none (some i) = xs.take i.toNat := by
  obtain ⟨j, rfl⟩ : ∃ j : Nat, i = j := ⟨i.toNat, by omega⟩
  unfold cutV
  rw [HT.sIx_none, HT.sIx_nat, List.drop_zero, Nat.sub_zero, Int.toNat_natCast]
  by_cases q : j ≤ xs.length
  · rw [Nat.min_eq_left q]
  · rw [Nat.min_eq_right (by omega), List.take_length, List.take_of_length_le (by omega)]
theorem cut_from {xs : List V} {i : Int} (h : 0 ≤ i) : cutV xs (some i) none = xs.drop i.toNat := by
  obtain ⟨j, rfl⟩ : ∃ j : Nat, i = j := ⟨i.toNat, by omega⟩
  unfold cutV
  rw [HT.sIx_none, HT.sIx_nat, Int.toNat_natCast]
  by_cases q : j ≤ xs.length
  · rw [Nat.min_eq_left q, List.take_of_length_le (by rw [List.length_drop]; omega)]
  · rw [Nat.min_eq_right (by omega), List.drop_length, List.take_nil, List.drop_of_length_le (by omega)]
theorem cut_one {xs : List V} {i : Int} (h : 0 ≤ i) (h1 : i < xs.length) : cutV xs (some i) (some (i + 1)) = (xs.drop i.toNat).take 1 := by
  obtain ⟨j, rfl⟩ : ∃ j : Nat, i = j := ⟨i.toNat, by omega⟩
  unfold cutV
  have e : ((j : Int) + 1) = ((j + 1 : Nat) : Int) := by omega
  rw [e, HT.sIx_nat, HT.sIx_nat, Int.toNat_natCast, Nat.min_eq_left (by omega), Nat.min_eq_left (by omega)]
  congr 1
  omega
theorem len_mass : ∀ ds : List PyData, 2 * ds.length ≤ massAll ds
  | [] => by simp [massAll]
  | d :: ds => by have := len_mass ds; simp only [massAll, List.length_cons]; omega
end L2
namespace L2
open PySem PySem.Spec PyProof.Rows
/-- whether a thing is that text -/
def isS (d : PyData) (t : Str) : Bool := match d with
  | .str y => y == t
  | _ => false
def isDct : PyData → Bool
  | .dict _ => true
  | _ => false
/-- without dicts, or no tuple at all -/
def NoDT (d : PyData) : Prop := d.hasDict = false ∨ isTup d = false
theorem nodct {d : PyData} (h : d.hasDict = false) : isDct d = false := by
  cases d <;> first | rfl | (exfalso; revert h; simp [PyData.hasDict])
section
variable {X : Cx}
theorem str_beq_comm (x y : Str) : (x == y) = (y == x) := by
  by_cases e : x = y
  · subst e; rfl
  · rw [beq_eq_false_iff_ne.mpr e, beq_eq_false_iff_ne.mpr (Ne.symm e)]
theorem op_eqStr (hu : X.A.units < cLine) : OpR X (compareOp .Eq) (fun x y H Q => ∃ d t, y = .str t ∧ At H d x ∧ isDct d = false ∧ Q (.bl (isS d t)) H) := by
  refine .mk ?_
  intro pins s σ H x y v u Q I rx ry h
  obtain ⟨d, t, rfl, hd, nd, q⟩ := h
  obtain ⟨tk, rfl⟩ := ry
  cases d with
  | none => unfold At at hd; subst hd; cases rx; exact SeqAt.RcAt.none_str t tk _ _ _ _ (fin_bl I q rfl)
  | bool b => unfold At at hd; subst hd; cases rx; exact SeqAt.RcAt.bool_str b t tk _ _ _ _ (fin_bl I q rfl)
  | int i => unfold At at hd; subst hd; obtain ⟨t', rfl⟩ := rx; exact SeqAt.RcAt.int_str i t' t tk _ _ _ _ (fin_bl I q rfl)
  | str z => unfold At at hd; subst hd; obtain ⟨t', rfl⟩ := rx; exact SeqAt.RcAt.str_str z t' t tk _ _ _ _ (fin_bl I q rfl)
  | tuple ds =>
    unfold At at hd
    obtain ⟨a, xs, rfl, ha, _⟩ := hd
    cases rx
    obtain ⟨its, r, p, _⟩ := I.tuple (SqT.of (K := X.K) ha)
    exact SeqAt.RcAt.tuple_str t tk p hu _ _ _ _ (fin_bl I q rfl)
  | list ds =>
    unfold At at hd
    obtain ⟨a, xs, rfl, ha, _⟩ := hd
    cases rx
    obtain ⟨_, its, n, rv, e⟩ := I.hok a _ ha
    exact SeqAt.RcAt.list_str t tk (show s.heap.IsList a its.toArray from ⟨_, e, rfl, n, rfl⟩) hu _ _ _ _ (fin_bl I q rfl)
  | dict ds => cases nd
theorem eqAt_strD {pins : List (Addr × Obj)} {s : Shared} {σ : St} {H : Hp} {A : Around} (I : Inv X pins σ H s) (hu : A.units < cLine) {d : PyData} {x : V} {v : Value} (hd : At H d x) (rx : RelV x v) (nd : isDct d = false) (t : Str) (tk : Tok) : SeqAt.EqAt A s (.str t tk) v (isS d t) := by
  cases d with
  | none => unfold At at hd; subst hd; cases rx; exact SeqAt.EqAt.str_none t tk
  | bool b => unfold At at hd; subst hd; cases rx; exact SeqAt.EqAt.str_bool t tk b
  | int i => unfold At at hd; subst hd; obtain ⟨t', rfl⟩ := rx; exact SeqAt.EqAt.str_int t tk i t'
  | str z => unfold At at hd; subst hd; obtain ⟨t', rfl⟩ := rx; show SeqAt.EqAt A s _ _ (z == t); rw [str_beq_comm]; exact SeqAt.EqAt.str_str t tk z t'
  | tuple ds =>
    unfold At at hd
    obtain ⟨a, xs, rfl, ha, _⟩ := hd
    cases rx
    obtain ⟨its, r, p, _⟩ := I.tuple (SqT.of (K := X.K) ha)
    exact SeqAt.EqAt.str_tuple t tk p hu
  | list ds =>
    unfold At at hd
    obtain ⟨a, xs, rfl, ha, _⟩ := hd
    cases rx
    obtain ⟨_, its, n, rv, e⟩ := I.hok a _ ha
    exact SeqAt.EqAt.str_list t tk (show s.heap.IsList a its.toArray from ⟨_, e, rfl, n, rfl⟩) hu
  | dict ds => cases nd
def strOfV : Value → Str
  | .str t _ => t
  | _ => ""
theorem vals_str : ∀ {ts : List Str} {us : List Value}, Vals (ts.map V.str) us → us.map strOfV = ts ∧ ∀ u ∈ us, ∃ t tk, u = .str t tk
  | [], _, .nil => ⟨rfl, fun u h => by simp at h⟩
  | b :: bs, _, .cons r t => by
    obtain ⟨tk, rfl⟩ := (r : ∃ tk, _ = Value.str b tk)
    obtain ⟨h1, h2⟩ := vals_str t
    refine ⟨by rw [List.map_cons, h1]; rfl, fun u hu => ?_⟩
    rcases List.mem_cons.mp hu with e | e
    · exact ⟨_, _, e⟩
    · exact h2 u e
theorem op_notInStr {K : PySem.W.Frag} (hK : X.K = K) (hu : X.A.units + 64 < cLine) : OpR X (compareOp .NotIn) (fun x y H Q => ∃ (d : PyData) (ts : List Str) (p : Addr), y = .ref p ∧ SqT K H p (ts.map V.str) ∧ At H d x ∧ isDct d = false ∧ Q (.bl (!ts.any (isS d ·))) H) := by
  subst hK
  refine .mk ?_
  intro pins s σ H x y v u Q I rx ry h
  obtain ⟨d, ts, p, rfl, hp, hd, nd, q⟩ := h
  cases ry
  obtain ⟨its, r, pt, _⟩ := I.tuple hp
  obtain ⟨e1, e2⟩ := vals_str r
  refine SeqAt.notIn_tupleAt (fun y => isS d (strOfV y)) pt (fun y hy => ?_) (fin_bl I q ?_)
  · obtain ⟨t, tk, rfl⟩ := e2 y (by simpa using hy)
    exact eqAt_strD I (by show X.A.units + 1 < cLine; omega) hd rx nd t tk
  · rw [← e1, ← Array.any_toList, List.any_map]; rfl
theorem op_neD (hu : X.A.units + 64 < cLine) : OpR X (compareOp .NotEq) (fun x y H Q => ∃ d e, At H d x ∧ At H e y ∧ d.hasDict = false ∧ e.hasDict = false ∧ d.canLay0 = true ∧ e.canLay0 = true ∧ d.depth ≤ 60 ∧ Q (.bl (!PyData.eqv d e)) H) := by
  refine .mk ?_
  intro pins s σ H x y v u Q I rx ry h
  obtain ⟨d, e, hd, he, n1, n2, c1, c2, dp, q⟩ := h
  obtain ⟨as, r1⟩ := reads_of I.hok _ _ _ hd rx n1
  obtain ⟨bs, r2⟩ := reads_of I.hok _ _ _ he ry n2
  exact SeqAt.compareNe_reads r1 r2 c1 c2 (by have := Nat.min_le_left d.depth e.depth; omega) (fin_bl I q rfl)
theorem op_eqD (hu : X.A.units + 64 < cLine) : OpR X (compareOp .Eq) (fun x y H Q => ∃ d e, At H d x ∧ At H e y ∧ d.hasDict = false ∧ e.hasDict = false ∧ d.canLay0 = true ∧ e.canLay0 = true ∧ d.depth ≤ 60 ∧ Q (.bl (PyData.eqv d e)) H) := by
  refine .mk ?_
  intro pins s σ H x y v u Q I rx ry h
  obtain ⟨d, e, hd, he, n1, n2, c1, c2, dp, q⟩ := h
  obtain ⟨as, r1⟩ := reads_of I.hok _ _ _ hd rx n1
  obtain ⟨bs, r2⟩ := reads_of I.hok _ _ _ he ry n2
  exact SeqAt.compareEq_reads r1 r2 c1 c2 (by have := Nat.min_le_left d.depth e.depth; omega) (fin_bl I q rfl)
end
/-! ### for and comprehensions whose range or tuple is reckoned with a change of the heap -/
def FK (g : TG) (tb : TS) (D : Ends) (σ : St) (vs : List V) (H1 : Hp) : Prop := ∃ j : Int, vs = [.int j] ∧ -(2 ^ 62) ≤ j ∧ j < 2 ^ 62 ∧ ∃ W : Nat → Nat → St → Hp → Prop, (∃ m, W 0 m σ H1) ∧ ∀ i m σ H, W i m σ H →
  ((Itr 0 j.toNat).stop i H ∧ D.nx σ H) ∨ ((Itr 0 j.toNat).go i H ∧ ∃ N : St → Hp → Prop, (∀ σ' H', N σ' H' → ∃ m', m' < m ∧ W (i + 1) m' σ' H') ∧ ∀ x H', (Itr 0 j.toNat).yld i H x H' → g x σ H' fun σ2 H2 => tb { D with nx := N, ct := N, bk := D.nx } σ2 H2)
theorem tFor_rng {ta : TA} {g : TG} {tb : TS} {D : Ends} {σ : St} {H : Hp} : tFor (iRng1 ta) g tb D σ H = ta σ H (FK g tb D σ) := rfl
theorem FK.of {g : TG} {tb : TS} {D : Ends} {σ : St} {H : Hp} {n : Nat} {i : Int} (ei : i = n) (hn : n ≤ 1000000) (Pv : Nat → St → Hp → Prop) (h0 : Pv 0 σ H)
    (hs : ∀ i σ H, i < n → Pv i σ H → g (.int (0 + (i : Nat))) σ H fun σ2 H2 => tb { D with nx := Pv (i + 1), ct := Pv (i + 1), bk := D.nx } σ2 H2) (hd : ∀ σ H, Pv n σ H → D.nx σ H) : FK g tb D σ [.int i] H := by
  subst ei
  refine ⟨n, rfl, by omega, by omega, ?_⟩
  rw [Int.toNat_natCast]
  exact for_range Pv h0 hs hd
def TK (K : PySem.W.Frag) (g : TG) (tb : TS) (D : Ends) (σ : St) (x : V) (H1 : Hp) : Prop := ∃ a, x = .ref a ∧ (∃ xs, SqT K H1 a xs) ∧ ∃ W : Nat → Nat → St → Hp → Prop, (∃ m, W 0 m σ H1) ∧ ∀ i m σ H, W i m σ H →
  ((Itt K a).stop i H ∧ D.nx σ H) ∨ ((Itt K a).go i H ∧ ∃ N : St → Hp → Prop, (∀ σ' H', N σ' H' → ∃ m', m' < m ∧ W (i + 1) m' σ' H') ∧ ∀ x H', (Itt K a).yld i H x H' → g x σ H' fun σ2 H2 => tb { D with nx := N, ct := N, bk := D.nx } σ2 H2)
theorem tFor_tup {K : PySem.W.Frag} {tl : TE} {g : TG} {tb : TS} {D : Ends} {σ : St} {H : Hp} : tFor (iTup K tl) g tb D σ H = tl σ H (TK K g tb D σ) := rfl
theorem TK.of {K : PySem.W.Frag} {g : TG} {tb : TS} {D : Ends} {σ : St} {H : Hp} {a : Addr} {xs : List V} (ha : H a = some (.tup xs)) (Pv : Nat → St → Hp → Prop) (h0 : Pv 0 σ H) (hl : ∀ i σ H', i ≤ xs.length → Pv i σ H' → H' a = some (.tup xs))
    (hs : ∀ i x σ H, xs[i]? = some x → Pv i σ H → g x σ H fun σ2 H2 => tb { D with nx := Pv (i + 1), ct := Pv (i + 1), bk := D.nx } σ2 H2) (hd : ∀ σ H, Pv xs.length σ H → D.nx σ H) : TK K g tb D σ (.ref a) H :=
  ⟨a, rfl, ⟨xs, SqT.of ha⟩, for_tup (xs := xs) Pv h0 (fun i σ H' hi p => SqT.of (hl i σ H' hi p)) hs hd⟩
def CK (js : List Nat) (te : TE) (σ : St) (Q : VK) (vs : List V) (H1 : Hp) : Prop := ∃ j : Int, vs = [.int j] ∧ -(2 ^ 62) ≤ j ∧ j < 2 ^ 62 ∧ ∀ acc, H1 acc = none → ∃ W : Nat → Nat → List V → Hp → Prop, (∃ m, W 0 m [] (upd H1 acc (.lst []))) ∧ ∀ i m ys H2, W i m ys H2 →
  ((Itr 0 j.toNat).stop i H2 ∧ Q (.ref acc) H2) ∨ ((Itr 0 j.toNat).go i H2 ∧ ∀ x H3, (Itr 0 j.toNat).yld i H2 x H3 → te (some x :: capS js σ) H3 fun y H4 => H4 acc = some (.lst ys) ∧ ys.length < sizeLine ∧ ∃ m', m' < m ∧ W (i + 1) m' (ys ++ [y]) (upd H4 acc (.lst (ys ++ [y]))))
theorem tComp_rng {js : List Nat} {ta : TA} {te : TE} {σ : St} {H : Hp} {Q : VK} : tComp js (iRng1 ta) te σ H Q = ta σ H (CK js te σ Q) := rfl
theorem CK.of {js : List Nat} {te : TE} {σ : St} {H : Hp} {Q : VK} {n : Nat} {i : Int} (ei : i = n) (hn : n ≤ 1000000)
    (h : ∀ acc, H acc = none → ∃ Pv : Nat → List V → Hp → Prop, Pv 0 [] (upd H acc (.lst [])) ∧
      (∀ i ys H', i < n → Pv i ys H' → te (some (.int (0 + (i : Nat))) :: capS js σ) H' fun y H'' => H'' acc = some (.lst ys) ∧ ys.length < sizeLine ∧ Pv (i + 1) (ys ++ [y]) (upd H'' acc (.lst (ys ++ [y])))) ∧
      ∀ ys H', Pv n ys H' → Q (.ref acc) H') : CK js te σ Q [.int i] H := by
  subst ei
  have := comp_R (ta := fun _ H R => R [.int n] H) (σ := σ) (H := H) (Q := Q) (js := js) (te := te) (n := n) (fun R hR => hR) hn h
  exact this
end L2
namespace L2
open PySem PySem.Spec PyProof.Rows
def Gs (mg : Str → Option Value) (x : Str) (i : Str) : Prop := ∃ t, mg x = some (.str i t)
theorem pglobS {X : Cx} {x : Str} {i : Str} {pos : Pos} (h : Gs X.mg x i) (hg : Gl X x := by rfl) (hd : (x == ("__debug__" : Str)) = false := by decide) : PE X (.Name x pos) (tC (.str i)) := by
  obtain ⟨t, ht⟩ := h
  exact pe_glob hg ht ⟨t, rfl⟩ hd
/-- a callee that tells a truth of things without dicts, or of no tuples -/
def spN (f : PyData → Bool) : Sp := fun vs H Q _ => ∃ v d, vs = [v] ∧ At H d v ∧ NoDT d ∧ ∀ H', Same H H' → Q (.bl (f d)) H'
theorem spN.len {f : PyData → Bool} {ps : List Str} (h : ps.length = 1) : ∀ vs H Q E, spN f vs H Q E → vs.length = ps.length := by rintro vs H Q E ⟨v, d, rfl, _⟩; exact h.symm
theorem N1.of {f : PyData → Bool} {v : V} {d : PyData} {H : Hp} {Q : VK} {E : XK} (h : At H d v) (n : NoDT d) (q : ∀ H', Same H H' → Q (.bl (f d)) H') : spN f ([v] ++ []) H Q E := ⟨v, d, rfl, h, n, q⟩
theorem hasDict_parts : ∀ {ds : List PyData}, PyData.hasDictAll ds = false → ∀ d ∈ ds, d.hasDict = false
  | d :: ds, h, x, hx => by
    have h' : d.hasDict = false ∧ PyData.hasDictAll ds = false := by simpa [PyData.hasDictAll] using h
    rcases List.mem_cons.mp hx with e | e
    · subst e; exact h'.1
    · exact hasDict_parts h'.2 x e
theorem NoDT.parts {ds : List PyData} (h : NoDT (.tuple ds)) : ∀ d ∈ ds, d.hasDict = false := by
  rcases h with h | h
  · exact hasDict_parts (by simpa [PyData.hasDict] using h)
  · cases h
end L2
namespace L2
open PySem PySem.Spec PyProof.Rows
/-! ### max(numbers, default=d) -/
def maxI (b : Int) : List Int → Int
  | [] => b
  | x :: r => maxI (if x > b then x else b) r
section
variable {prog : Program} {w : World} {A : Around} {R : Result → Shared → Prop} {It : Addr} {fp wr : List Addr} {n : Nat} {Pv : Nat → Value → Prop} {St : Nat → Heap → Prop}
theorem mxd_loop {ns : List Int} (W : Walks prog w A.in1 It fp wr n Pv St) (hn : n = ns.length) (hv : ∀ i v, Pv i v → ∃ t, v = .int (ns.getD i 0) t) (C : Addr) (nf : C ∉ fp) (d : Value) : ∀ (m j : Nat) (z : Shared) (best : Int) (tb : Tok) (c : Nat), ns.length - j = m → j ≤ ns.length → St j z.heap →
    z.heap.get? C = some ⟨.type "list", none, .seq #[.int best tb, .int best tb] c, #[]⟩ →
    (∀ t h' tk, (∀ b o, b ∉ wr → b ≠ C → z.heap.get? b = some o → h'.get? b = some o) → R (.ok (.ret (.int (maxI best (ns.drop j)) t))) { z with heap := h', toks := tk }) →
    codeAny (model prog w) A (.builtin "max.loop" ⟨[.ref It, .none, .ref C], [("default", d)]⟩) R z := by
  subst hn
  have nw : C ∉ wr := fun q => nf (W.sub _ q)
  have nm : (toString "max" ++ toString ".loop" : String) = "max.loop" := by decide
  intro m
  induction m with
  | zero =>
    intro j z best tb c hm hj st hC fin
    have e : j = ns.length := by omega
    subst e
    refine codeAny_builtin PySem.F.entry_max_loop ?_
    rw [Around.under_plainId PySem.F.plain_max_loop _]
    show wpAny _ A.in1 (seqItems? (.ref C) >>= _) _ _ z
    refine wpAny_bind (wpAny_seqItems hC rfl ?_)
    show wpAny _ A.in1 (tryCatch (pyNext (.ref It)) _ >>= _) _ _ z
    refine wpAny_bind (wpAny_tryCatch (W.done z _ _ st fun h' tk kp => ?_))
    refine wpAny_bind (wpAny_updateSeq (kp C _ nw hC) rfl (wpAny_bind (wpAny_letGo (wpAny_pure ?_))))
    rw [List.drop_length] at fin
    exact fin tb _ tk fun b o h1 h2 h3 => (Heap.get?_update_other _ _ (Ne.symm h2)).trans (kp b o h1 h3)
  | succ m ih =>
    intro j z best tb c hm hj st hC fin
    have lt : j < ns.length := by omega
    refine codeAny_builtin PySem.F.entry_max_loop ?_
    rw [Around.under_plainId PySem.F.plain_max_loop _]
    show wpAny _ A.in1 (seqItems? (.ref C) >>= _) _ _ z
    refine wpAny_bind (wpAny_seqItems hC rfl ?_)
    show wpAny _ A.in1 (tryCatch (pyNext (.ref It)) _ >>= _) _ _ z
    refine wpAny_bind (wpAny_tryCatch (W.item j z _ _ lt st fun v h' tk hP st' kp => ?_))
    obtain ⟨t, rfl⟩ := hv j v hP
    have hC' := kp C _ nw hC
    show wpAny _ A.in1 (tryCatch (holding [_, _] (richCompare .Gt _ (.int best tb) >>= _)) _ >>= _) _ _ _
    refine wpAny_bind (wpAny_tryCatch (wpAny_holding (wpAny_bind (richCompare_gives (op := .Gt) (typeIs_int _ _ t) (typeIs_int _ _ tb) PySem.F.slot_int_gt PySem.F.entry_int_gt (PySem.F.args_int_gt_2 _ _) (gives_int_gt _ _ t tb) (fun x => nomatch x) ?_))))
    refine wpAny_bind (wpAny_holding (wpAny_truthy_bool (wpAny_bind (wpAny_letGo (wpAny_pure ?_)))))
    have dr : ns.drop j = ns.getD j 0 :: ns.drop (j + 1) := by
      rw [List.drop_eq_getElem_cons lt, List.getD_eq_getElem?_getD, List.getElem?_eq_getElem lt]; rfl
    rw [dr] at fin
    by_cases hb : ns.getD j 0 > best
    · have e1 : maxI best (ns.getD j 0 :: ns.drop (j + 1)) = maxI (ns.getD j 0) (ns.drop (j + 1)) := by rw [maxI, if_pos hb]
      rw [e1] at fin
      rw [decide_eq_true hb]
      simp only [if_true]
      refine wpAny_bind (wpAny_updateSeq hC' rfl (wpAny_bind (wpAny_letGo ?_)))
      rw [nm]
      refine wpAny_pure ⟨plainId_quiet PySem.F.plain_max_loop _, ih (j + 1) _ _ t _ (by omega) lt (W.frame _ _ _ st' fun b hb o e => ?_) (Heap.get?_update_self _ hC' rfl) fun t2 h2 tk2 k2 => ?_⟩
      · exact (Heap.get?_update_other _ _ (fun q : C = b => nf (by rw [q]; exact hb))).trans e
      · exact fin t2 h2 tk2 fun b o h1 h3 e => k2 b o h1 h3 ((Heap.get?_update_other _ _ (Ne.symm h3)).trans (kp b o h1 e))
    · have e1 : maxI best (ns.getD j 0 :: ns.drop (j + 1)) = maxI best (ns.drop (j + 1)) := by rw [maxI, if_neg hb]
      rw [e1] at fin
      rw [decide_eq_false hb]
      simp only [Bool.false_eq_true, if_false]
      refine wpAny_bind (wpAny_letGo ?_)
      rw [nm]
      refine wpAny_pure ⟨plainId_quiet PySem.F.plain_max_loop _, ih (j + 1) _ best tb c (by omega) lt st' hC' fun t2 h2 tk2 k2 => ?_⟩
      exact fin t2 h2 tk2 fun b o h1 h3 e => k2 b o h1 h3 (kp b o h1 e)
theorem mxd_first {ns : List Int} (W : Walks prog w A.in1 It fp wr n Pv St) (hn : n = ns.length) (hv : ∀ i v, Pv i v → ∃ t, v = .int (ns.getD i 0) t) (C : Addr) (nf : C ∉ fp) (d : Value) (z : Shared) (c : Nat) (st : St 0 z.heap)
    (hC : z.heap.get? C = some ⟨.type "list", none, .seq #[] c, #[]⟩)
    (f0 : ns = [] → ∀ h' tk, (∀ b o, b ∉ wr → b ≠ C → z.heap.get? b = some o → h'.get? b = some o) → R (.ok (.ret d)) { z with heap := h', toks := tk })
    (f1 : ∀ x r, ns = x :: r → ∀ t h' tk, (∀ b o, b ∉ wr → b ≠ C → z.heap.get? b = some o → h'.get? b = some o) → R (.ok (.ret (.int (maxI x r) t))) { z with heap := h', toks := tk }) :
    codeAny (model prog w) A (.builtin "max.loop" ⟨[.ref It, .none, .ref C], [("default", d)]⟩) R z := by
  have nw : C ∉ wr := fun q => nf (W.sub _ q)
  have nm : (toString "max" ++ toString ".loop" : String) = "max.loop" := by decide
  refine codeAny_builtin PySem.F.entry_max_loop ?_
  rw [Around.under_plainId PySem.F.plain_max_loop _]
  show wpAny _ A.in1 (seqItems? (.ref C) >>= _) _ _ z
  refine wpAny_bind (wpAny_seqItems hC rfl ?_)
  show wpAny _ A.in1 (tryCatch (pyNext (.ref It)) _ >>= _) _ _ z
  cases ns with
  | nil =>
    subst hn
    refine wpAny_bind (wpAny_tryCatch (W.done z _ _ st fun h' tk kp => ?_))
    show wpAny _ A.in1 (rule _ >>= _) _ _ _
    exact wpAny_bind (wpAny_rule (wpAny_pure (f0 rfl h' tk fun b o h1 _ e => kp b o h1 e)))
  | cons x r =>
    refine wpAny_bind (wpAny_tryCatch (W.item 0 z _ _ (by rw [hn]; exact Nat.succ_pos _) st fun v h' tk hP st' kp => ?_))
    obtain ⟨t, e⟩ := hv 0 v hP
    have e : v = .int x t := e
    subst e
    have hC' := kp C _ nw hC
    show wpAny _ A.in1 (updateSeq C (fun _ => #[Value.int x t, Value.int x t]) >>= _) _ _ _
    refine wpAny_bind (wpAny_updateSeq hC' rfl ?_)
    rw [nm]
    refine wpAny_pure ⟨plainId_quiet PySem.F.plain_max_loop _, mxd_loop W hn hv C nf d _ 1 _ x t _ rfl (by simp) (W.frame _ _ _ st' fun b hb o e => ?_) (Heap.get?_update_self _ hC' rfl) fun t2 h2 tk2 k2 => ?_⟩
    · exact (Heap.get?_update_other _ _ (fun q : C = b => nf (by rw [q]; exact hb))).trans e
    · exact f1 x r rfl t2 h2 tk2 fun b o h1 h3 e => k2 b o h1 h3 ((Heap.get?_update_other _ _ (Ne.symm h3)).trans (kp b o h1 e))
end
theorem args_maxD (a v : Value) : argsOk "max" ⟨[a], [("default", v)]⟩ := by unfold argsOk; kernel_rfl
section
variable {prog : Program} {w : World} {A : Around} {E : Value → Shared → Prop} {s : Shared}
theorem call_maxD {l : Addr} {its : List Value} {ns : List Int} {d : Value} {Q : Value → Shared → Prop} (hh : A.handled = none) (hl : s.heap.IsList l its.toArray) (hi : ∀ i v, its[i]? = some v → ∃ t, v = Value.int (ns.getD i 0) t) (hlen : its.length = ns.length)
    (h0 : ns = [] → ∀ h' tk, (∀ b o, s.heap.get? b = some o → h'.get? b = some o) → Q d { s with heap := h', toks := tk })
    (h1 : ∀ b r, ns = b :: r → ∀ t h' tk, (∀ b o, s.heap.get? b = some o → h'.get? b = some o) → Q (Value.int (maxI b r) t) { s with heap := h', toks := tk }) :
    wpAny (model prog w) A (call (.builtin "max") [.ref l] [("default", d)]) Q E s := by
  have nm : (toString "max" ++ toString ".loop" : String) = "max.loop" := by decide
  have lt : l < s.heap.objs.size := by obtain ⟨_, e, _⟩ := hl; exact Heap.lt_size e
  refine kmk_tree PySem.F.kind_max PySem.F.plain_max PySem.F.entry_max (args_maxD _ _) ?_
  show wpAny _ A.in1 (Builtin.Builtins.bindParams "max" ["key", "default"] 0 ⟨[], [("default", d)]⟩ >>= _) _ _ s
  refine wpAny_bind (wpAny_of_eq (show Builtin.Builtins.bindParams "max" ["key", "default"] 0 ⟨[], [("default", d)]⟩ = pure [none, some d] from rfl) ?_)
  refine wpAny_bind (wpAny_pure ?_)
  refine wpAny_bind (wpAny_pyIter_list hl ?_)
  refine wpAny_bind (wpAny_newObj_type ?_)
  rw [nm]
  have W := Walks.list (prog := prog) (w := w) (A := A.in1) hh s.heap.objs.size l (Nat.ne_of_lt lt) its.toArray
  generalize eh : s.heap.push { cls := .type "list_iterator", data := .fields #[.ref l, .int 0 0] } = h1'
  have sz : h1'.objs.size = s.heap.objs.size + 1 := by rw [← eh, Heap.size_push]
  have k1 : ∀ b o, s.heap.get? b = some o → h1'.get? b = some o := fun b o e => by rw [← eh]; exact Heap.get?_push_of_some _ e
  have hit : h1'.IsListIter s.heap.objs.size l 0 := by rw [← eh]; exact ⟨_, Heap.get?_push_size _ rfl, rfl, rfl⟩
  have hl1 : h1'.IsList l its.toArray := by rw [← eh]; exact hl.push _
  have nf : h1'.objs.size ∉ [s.heap.objs.size, l] := fun q => by
    rcases List.mem_cons.mp q with e | q
    · rw [sz] at e; exact Nat.succ_ne_self _ e
    · have e := List.mem_singleton.mp q; rw [sz] at e; rw [← e] at lt; exact Nat.lt_irrefl _ (Nat.lt_trans (Nat.lt_succ_self _) lt)
  have ol : ∀ {h' : Heap}, (∀ b o, b ∉ [s.heap.objs.size] → b ≠ h1'.objs.size → (h1'.push { cls := .type "list", data := .seq #[] 0 }).get? b = some o → h'.get? b = some o) → ∀ b o, s.heap.get? b = some o → h'.get? b = some o := fun k b o e => by
    have lb := Heap.lt_size e
    refine k b o (fun q => ?_) (fun q => ?_) (Heap.get?_push_of_some _ (k1 b o e))
    · rw [List.mem_singleton.mp q] at lb; exact Nat.lt_irrefl _ lb
    · rw [q, sz] at lb; exact Nat.lt_irrefl _ (Nat.lt_trans (Nat.lt_succ_self _) lb)
  refine wpAny_pure ⟨plainId_quiet PySem.F.plain_max_loop _, mxd_first (ns := ns) W (by rw [List.size_toArray, hlen]) (fun i v e => hi i v (by simpa using e)) h1'.objs.size nf d _ _ ?_ (Heap.get?_push_size _ rfl) (fun e h' tk k => h0 e h' tk (ol k)) (fun x r e t h' tk k => h1 x r e t h' tk (ol k))⟩
  exact W.frame _ _ _ (show h1'.IsListIter s.heap.objs.size l 0 ∧ h1'.IsList l its.toArray from ⟨hit, hl1⟩) fun b _ o e => Heap.get?_push_of_some _ e
end
end L2
namespace L2
open PySem PySem.Spec PyProof.Rows
section
variable {X : Cx}
def tMaxD (t : TA) (te : TE) : TE := fun σ H Q => t σ H fun vs H1 => te σ H1 fun y H2 => ∃ (p : Addr) (ns : List Int), vs = [.ref p] ∧ H2 p = some (.lst (ns.map V.int)) ∧ (ns = [] → Q y H2) ∧ ∀ b r, ns = b :: r → Q (.int (maxI b r)) H2
theorem vals_ints_at {ns : List Int} : ∀ {us : List Value}, Vals (ns.map V.int) us → ∀ i v, us[i]? = some v → ∃ t, v = Value.int (ns.getD i 0) t := by
  induction ns with
  | nil => intro us r i v e; cases r; simp at e
  | cons n ns ih =>
    intro us r i v e
    cases r with
    | cons r1 r2 =>
      cases i with
      | zero =>
        obtain ⟨t, rfl⟩ := (r1 : ∃ t, _ = Value.int n t)
        simp at e
        exact ⟨t, e.symm⟩
      | succ i => simpa using ih r2 i v (by simpa using e)
theorem pe_maxD {e e2 : Expr} {t : TA} {te : TE} {p pos kpos : Pos} (hc : X.calm = true) (hm : X.mg "max" = none) (ha : PA X [e] t) (hk : PE X e2 te) (hg : Gl X "max" := by rfl) (h1 : plainE e = true := by rfl) :
    PE X (.Call (.Name "max" p) [e] [⟨some "default", e2, kpos⟩] pos) (tMaxD t te) := by
  refine .mk ?_
  intro pins s σ H Q I h
  refine wpAny_Call_Name_kw (ld_blt I hg hm bt_max ?_ (by decide) (by decide))
  refine callWith_kw ?_ ?_ ?_ ?_ ?_
  · refine thn (ha pos pins s σ H _ I h) fun us s1 ⟨vs, H1, I1, r, q⟩ => ?_
    refine thn ((pk_cons hk pk_nil : PK X [⟨some "default", e2, kpos⟩] _) pos pins s1 σ H1 (fun ys H2 => ∃ y, ys = [y] ∧ (∃ (p : Addr) (ns : List Int), vs = [.ref p] ∧ H2 p = some (.lst (ns.map V.int)) ∧ (ns = [] → Q y H2) ∧ ∀ b r, ns = b :: r → Q (.int (maxI b r)) H2)) I1 ?_) fun ws s2 ⟨zs, H2, I2, rz, q2⟩ => ?_
    · show te σ H1 (fun x H2 => ∃ y, [x] = [y] ∧ _)
      have fe : (fun (x : V) (H2 : Hp) => ∃ y, [x] = [y] ∧ (∃ (p : Addr) (ns : List Int), vs = [.ref p] ∧ H2 p = some (.lst (ns.map V.int)) ∧ (ns = [] → Q y H2) ∧ ∀ b r, ns = b :: r → Q (.int (maxI b r)) H2)) = fun y H2 => ∃ (p : Addr) (ns : List Int), vs = [.ref p] ∧ H2 p = some (.lst (ns.map V.int)) ∧ (ns = [] → Q y H2) ∧ ∀ b r, ns = b :: r → Q (.int (maxI b r)) H2 := by
        funext x H2
        refine propext ⟨?_, fun z => ⟨x, rfl, z⟩⟩
        rintro ⟨y, ey, z⟩
        cases ey
        exact z
      rw [fe]
      exact q
    · obtain ⟨y, rfl, l, ns, rfl, hl, q0, q1⟩ := q2
      obtain ⟨u, rfl, ru⟩ := r.one
      cases ru
      obtain ⟨v, rfl, rv⟩ := rz.one
      obtain ⟨_, its, n, rvs, eo⟩ := I2.hok l _ hl
      have hlen := rvs.length
      rw [List.length_map] at hlen
      refine call_maxD (ns := ns) (I2.ok.hd hc) (show s2.heap.IsList l its.toArray from ⟨_, eo, rfl, n, rfl⟩) (vals_ints_at rvs) hlen.symm (fun e h' tk k => ⟨y, H2, I2.kept (t' := tk) k, rv, q0 e⟩) (fun b r e t h' tk k => ⟨.int (maxI b r), H2, I2.kept (t' := tk) k, ⟨t, rfl⟩, q1 b r e⟩)
  · rw [star_one h1]; rfl
  · exact star_none (es := [e]) (by simp [h1])
  · rfl
  · rfl
end
end L2
namespace L2
open PySem PySem.Spec PyProof.Rows
def whatIx (t : Str) : Nat := if (("come" : Str) == t) = true then 0 else if (("done" : Str) == t) = true then 1 else 2
def whats : List V := [.str "come", .str "done", .str "wait"]
def rWhat (K : PySem.W.Frag) : V → List V → Hp → VK → Prop := fun x xs H Q => ∃ (p : Addr) (t : Str), x = .ref p ∧ SqT K H p whats ∧ xs = [.str t] ∧ t ∈ (["come", "done", "wait"] : List Str) ∧ Q (.int (whatIx t)) H
def rWhatL : V → List V → Hp → VK → Prop := fun x xs H Q => ∃ (p : Addr) (t : Str), x = .ref p ∧ H p = some (.lst whats) ∧ xs = [.str t] ∧ t ∈ (["come", "done", "wait"] : List Str) ∧ Q (.int (whatIx t)) H
theorem vals_three {x y z : V} : ∀ {us : List Value}, Vals [x, y, z] us → ∃ u v q, us = [u, v, q] ∧ RelV x u ∧ RelV y v ∧ RelV z q
  | _, .cons r (.cons q (.cons p .nil)) => ⟨_, _, _, rfl, r, q, p⟩
theorem ix_last {t : Str} (h : t ∈ (["come", "done", "wait"] : List Str)) (h0 : (("come" : Str) == t) = false) (h1 : (("done" : Str) == t) = false) : (("wait" : Str) == t) = true := by
  simp only [List.mem_cons, List.not_mem_nil, or_false] at h
  rcases h with rfl | rfl | rfl
  · revert h0; decide +kernel
  · revert h1; decide +kernel
  · decide +kernel
section
variable {X : Cx}
theorem tup_index3' {prog : Program} {w : World} {A : Around} {E : Value → Shared → Prop} {s : Shared} {p : Addr} {a b c t : Str} {k0 k1 k2 k3 : Tok} {Q : Value → Shared → Prop} (ht : IsTup s.heap p #[.str a k0, .str b k1, .str c k2]) (hl : (a == t) = false → (b == t) = false → (c == t) = true)
    (q : ∀ tk, Q (Value.int (if (a == t) = true then 0 else if (b == t) = true then 1 else 2) tk) { s with toks := s.toks + 1 }) : wpAny (model prog w) A (call (.builtin "tuple.index") [.ref p, .str t k3]) Q E s := by
  refine wpAny_call_entry PySem.F.slot_tuple_index ht.typeIs PySem.F.entry_tuple_index ?_ (PySem.F.args_tuple_index_2 _ _)
  show wpAny _ A.in1 (Builtin.Tuple.tupleItemsOf (.ref p) >>= _) _ _ s
  refine wpAny_bind (tupleItemsOf_ ht ?_)
  show wpAny _ _ ((pure 0 : Sem Nat) >>= _) _ _ s
  refine wpAny_bind (wpAny_pure ?_)
  show wpAny _ _ ((pure 3 : Sem Nat) >>= _) _ _ s
  refine wpAny_bind (wpAny_pure ?_)
  show wpAny _ _ (forIn [0:3] _ _ >>= _) _ _ s
  rw [Std.Legacy.Range.forIn_eq_forIn_range']
  have e : List.range' [0:3].start [0:3].size [0:3].step = [0, 1, 2] := rfl
  rw [e, List.forIn_cons]
  have mk : ∀ (i : Int) {R : PySem.Fin → Shared → Prop}, (∀ tk, R (.done (.ret (.int i tk))) { s with toks := s.toks + 1 }) → wpAny (model prog w) A.in1 (retInt i) R E s := fun i {R} h => by
    unfold retInt
    refine wpAny_bind (wpAny_mkInt (wpAny_pure (h _)))
  have eq : ∀ (z : Str) (k : Tok), SeqAt.EqAt A.in1 s (.str z k) (.str t k3) (z == t) := fun z k => SeqAt.EqAt.str_str z k t k3
  cases e0 : (a == t) with
  | true =>
    rw [e0] at q
    refine wpAny_bind (wpAny_bind (wpAny_bind (eq a k0 _ _ _ _ ?_)))
    rw [e0, if_pos rfl]
    refine wpAny_bind (mk 0 fun tk => wpAny_pure (wpAny_pure (wpAny_pure ⟨_, rfl, q tk⟩)))
  | false =>
    rw [e0] at q
    refine wpAny_bind (wpAny_bind (wpAny_bind (eq a k0 _ _ _ _ ?_)))
    rw [e0, if_neg (by decide)]
    refine wpAny_pure ?_
    show wpAny _ _ (forIn [1, 2] _ _) _ _ s
    rw [List.forIn_cons]
    cases e1 : (b == t) with
    | true =>
      rw [e1] at q
      refine wpAny_bind (wpAny_bind (eq b k1 _ _ _ _ ?_))
      rw [e1, if_pos rfl]
      refine wpAny_bind (mk 1 fun tk => wpAny_pure (wpAny_pure (wpAny_pure ⟨_, rfl, q tk⟩)))
    | false =>
      rw [e1] at q
      refine wpAny_bind (wpAny_bind (eq b k1 _ _ _ _ ?_))
      rw [e1, if_neg (by decide)]
      refine wpAny_pure ?_
      show wpAny _ _ (forIn [2] _ _) _ _ s
      rw [List.forIn_cons]
      refine wpAny_bind (wpAny_bind (eq c k2 _ _ _ _ ?_))
      rw [hl e0 e1, if_pos rfl]
      refine wpAny_bind (mk 2 fun tk => wpAny_pure (wpAny_pure (wpAny_pure ⟨_, rfl, q tk⟩)))
theorem mt_tindex {K : PySem.W.Frag} (hK : X.K = K) : MtR X "tuple.index" (rWhat K) := by
  subst hK
  intro pins s σ H x xs v us Q I rx rv h
  obtain ⟨p, t, rfl, hp, rfl, ht, q⟩ := h
  cases rx
  obtain ⟨u, rfl, tk, rfl⟩ := rv.one
  obtain ⟨its, r, pt, _⟩ := I.tuple hp
  obtain ⟨u0, u1, u2, rfl, ⟨k0, rfl⟩, ⟨k1, rfl⟩, ⟨k2, rfl⟩⟩ := vals_three r
  refine tup_index3' pt (ix_last ht) fun tk' => ⟨.int (whatIx t), H, I.tok _, ⟨tk', ?_⟩, q⟩
  unfold whatIx
  split
  · rfl
  · split <;> rfl
theorem mt_lindex : MtR X "list.index" rWhatL := by
  intro pins s σ H x xs v us Q I rx rv h
  obtain ⟨p, t, rfl, hp, rfl, ht, q⟩ := h
  cases rx
  obtain ⟨u, rfl, tk, rfl⟩ := rv.one
  obtain ⟨_, its, n, r, e⟩ := I.hok p _ hp
  obtain ⟨u0, u1, u2, rfl, ⟨k0, rfl⟩, ⟨k1, rfl⟩, ⟨k2, rfl⟩⟩ := vals_three r
  have ee : ∀ y, y ∈ #[Value.str "come" k0, Value.str "done" k1, Value.str "wait" k2] → SeqAt.EqAt X.A.in1 s y (.str t tk) (strOfV y == t) := fun y hy => by
    simp only [List.mem_toArray, List.mem_cons, List.not_mem_nil, or_false] at hy
    rcases hy with rfl | rfl | rfl <;> exact SeqAt.EqAt.str_str _ _ _ _
  have fin : ∀ j : Nat, whatIx t = j → (∃ x H', Inv X pins σ H' { s with toks := s.toks + 1 } ∧ RelV x (.int (j : Int) s.toks) ∧ Q x H') := fun j ej => ⟨.int j, H, I.tok _, ⟨_, rfl⟩, by rw [← ej]; exact q⟩
  cases e0 : (("come" : Str) == t) with
  | true =>
    refine call_meets PySem.F.slot_list_index ⟨_, e, rfl⟩ PySem.F.entry_list_index (PySem.F.args_list_index_2 _ _) (SeqAt.list_indexAt p #[.str "come" k0, .str "done" k1, .str "wait" k2] n none #[] (.str t tk) (fun y => strOfV y == t) 0 (by show 0 < 3; decide) (by decide) e0 (fun m hm h => by omega)) ⟨e, ee, ?_⟩
    exact fin 0 (by unfold whatIx; rw [if_pos e0])
  | false =>
    cases e1 : (("done" : Str) == t) with
    | true =>
      refine call_meets PySem.F.slot_list_index ⟨_, e, rfl⟩ PySem.F.entry_list_index (PySem.F.args_list_index_2 _ _) (SeqAt.list_indexAt p #[.str "come" k0, .str "done" k1, .str "wait" k2] n none #[] (.str t tk) (fun y => strOfV y == t) 1 (by show 1 < 3; decide) (by decide) e1 (fun m hm h => by
        have : m = 0 := by omega
        subst this; exact e0)) ⟨e, ee, ?_⟩
      exact fin 1 (by unfold whatIx; rw [if_neg (by rw [e0]; decide), if_pos e1])
    | false =>
      refine call_meets PySem.F.slot_list_index ⟨_, e, rfl⟩ PySem.F.entry_list_index (PySem.F.args_list_index_2 _ _) (SeqAt.list_indexAt p #[.str "come" k0, .str "done" k1, .str "wait" k2] n none #[] (.str t tk) (fun y => strOfV y == t) 2 (by show 2 < 3; decide) (by decide) (ix_last ht e0 e1) (fun m hm h => by
        have : m = 0 ∨ m = 1 := by omega
        rcases this with rfl | rfl
        · exact e0
        · exact e1)) ⟨e, ee, ?_⟩
      exact fin 2 (by unfold whatIx; rw [if_neg (by rw [e0]; decide), if_neg (by rw [e1]; decide)])
/-- a name that is bound at the top to a tuple, asked for a method -/
def GT2 (K : PySem.W.Frag) (mg : Str → Option Value) (x : Str) (W : List V) : Prop := ∃ a, mg x = some (.ref a) ∧ (∃ o, K.lookup a = some o ∧ o.cls = .type "tuple" ∧ o.dict = none) ∧ ∀ H, SqT K H a W
def tGT2 (K : PySem.W.Frag) (W : List V) : TE := fun _ H Q => ∀ a, (∃ o, K.lookup a = some o ∧ o.cls = .type "tuple" ∧ o.dict = none) → (∀ H', SqT K H' a W) → Q (.ref a) H
theorem pglobT2 {K : PySem.W.Frag} {x : Str} {W : List V} {pos : Pos} (hK : X.K = K) (h : GT2 K X.mg x W) (hg : Gl X x := by rfl) (hd : (x == ("__debug__" : Str)) = false := by decide) : PE X (.Name x pos) (tGT2 K W) := by
  obtain ⟨a, ha, ho, hs⟩ := h
  refine .mk ?_
  intro pins s σ H Q I q
  exact pe_glob (v := .ref a) hg ha rfl hd pins s σ H Q I (q a ho hs)
end
end L2
namespace L2
open PySem PySem.Spec PyProof.Rows
theorem comp_core {X : Cx} {elt iter : Expr} {x : Str} {px pos : Pos} {sc : Scope} {wi : TI} {te : TE} {N' : List Str} {js : List Nat} {use : Option (Value → Sem Unit)} {Qc : Value → Shared → Prop} {pins : List (Addr × Obj)} {s : Shared} {σ : St} {H : Hp} {Q : VK} {kp : Pos} (hc : X.calm = true) (hi : PI X (.Name x px) iter wi) (S : CSc X N' js sc) (h0 : N'[0]? = some x) (nd : N'.Nodup)
    (hx : sc.names.lookup x = some .local) (he : ∀ fp s H, PE (cxC X N' sc fp s H) elt te) (hs : ∀ x, foldedSetIterable iter X.env x = pure x) (I : Inv X pins σ H s) (h : tComp js wi te σ H Q)
    (fin : ∀ (acc C : Addr) (H' : Hp) (s' : Shared), Inv X pins σ H' s' → FpOk X pins H' C → (∃ m, s'.heap.Ns C m) → Q (.ref acc) H' → compPost (model X.prog X.w) X.A X.xe use Qc (.ref acc) C (.ok .next) s') :
    wpAny (model X.prog X.w) X.A (comprehension (.ListComp elt [⟨.Name x px, iter, [], 0⟩] sc pos) sc X.env kp (newList []) false (eval iter X.env) use) Qc X.xe s := by
  refine wpAny_comprehension_free (use := use) rfl hs S.clos S.kind S.names ?_
  refine thn (hi pins s σ H _ I h) fun v s1 q1 => thn q1 fun itv s2 q2 => ?_
  obtain ⟨it, fp, tn, J, H2, e, I2, T, st2, f2, q3⟩ := q2
  subst e
  refine wpAny_newObj_type ?_
  obtain ⟨W, ⟨m0, w0⟩, turn⟩ := q3 s2.heap.objs.size I2.fresh
  have I3 := I2.lnew (ys := []) (its := []) (t' := s2.toks) .nil (Nat.zero_le _)
  have lt2 : ∀ b ∈ fp, b < s2.heap.objs.size := fun b hb => by
    obtain ⟨o, ho, _⟩ := T.obj 0 _ st2 b hb
    exact Heap.lt_size ho
  generalize e3 : ({ s2 with heap := s2.heap.push { cls := .type "list", data := .seq ([] : List Value).toArray }, toks := s2.toks } : Shared) = s3 at I3
  have e3' : ({ s2 with heap := s2.heap.push { cls := .type "list", dict := none, data := .seq ([] : List Value).toArray } } : Shared) = s3 := e3
  have sz3 : s3.heap.objs.size = s2.heap.objs.size + 1 := by rw [← e3]; exact Heap.size_push ..
  have st3 : tn 0 s3.heap := T.keep 0 _ _ st2 fun b hb o ho => by rw [← e3]; exact Heap.get?_push_of_some _ ho
  have lt3 : ∀ b ∈ fp, b < s3.heap.objs.size := fun b hb => by rw [sz3]; exact Nat.lt_succ_of_lt (lt2 b hb)
  have f3 : ∀ b ∈ fp, FpOk X pins (upd H2 s2.heap.objs.size (.lst [])) b := fun b hb => ⟨by rw [upd_ne (Nat.ne_of_lt (lt2 b hb))]; exact (f2 b hb).1, (f2 b hb).2⟩
  generalize hH3 : upd H2 s2.heap.objs.size (.lst []) = H3 at I3 f3 w0
  refine wpAny_newFunctionEnv S.nocell (by intro y hy; simp at hy) (fun h1 hns hsb => ?_) S.kind
  have hk : ∀ b o, s3.heap.get? b = some o → h1.get? b = some o := fun b o q => hsb.extBut b o (Nat.ne_of_lt (Heap.lt_size q)) (Heap.get?_push_of_some _ q)
  have hns' : h1.Ns s3.heap.objs.size fun _ => none := hns
  have I4 : Inv (cxC X N' sc fp s3 H3) [] (none :: capS js σ) H3 { s3 with heap := h1, toks := s3.toks + ([] : List (Str × Value)).length } := inv_comp I3 f3 lt3 S hns' hk
  have st4 : tn 0 h1 := T.keep 0 _ _ st3 fun b hb o ho => hk b o ho
  have stat : ∀ {H' : Hp}, (∀ b ∈ fp, H' b = none) → ∀ b ∈ fp, FpOk (cxC X N' sc fp s3 H3) [] H' b := fun hn b hb => ⟨hn b hb, Nat.ne_of_lt (lt3 b hb), I4.ok.exfs b hb, .inl hb, (I4.ok.exf b hb).2, fun p hp => absurd (show p ∈ ([] : List (Addr × Obj)) from hp) (by simp)⟩
  have lx : Loc (cxC X N' sc fp s3 H3).env.scope x := .inl (lookup_relabel_local hx)
  -- the way out
  have out : ∀ {σ' : St} {H' : Hp} {s' : Shared}, Inv (cxC X N' sc fp s3 H3) [] σ' H' s' → Q (.ref s2.heap.objs.size) H' → compPost (model X.prog X.w) X.A X.xe use Qc (.ref s2.heap.objs.size) s3.heap.objs.size (.ok .next) s' := by
    intro σ' H' s' I' q'
    obtain ⟨m, hn, _⟩ := id I'.loc
    have I5 : Inv X pins σ H' s' := I3.call' I'.os I'.base I'.hok I'.bare fun b hb => ⟨(f3 b hb).2.2.2.1, (f3 b hb).2.1, (f3 b hb).2.2.2.2.1, (f3 b hb).2.2.2.2.2⟩
    exact fin _ _ H' s' I5 (I3.fpOk (Nat.le_refl _) I'.free) ⟨m, hn⟩ q'
  have loop : ∀ s4 : Shared, s4 = { s3 with heap := h1, toks := s3.toks + ([] : List (Str × Value)).length } → codeAny (model X.prog X.w) X.A (.compLoop (.ListComp elt [⟨.Name x px, iter, [], 0⟩] sc pos) 0 (.ref it) (.ref s2.heap.objs.size) (compEnvC sc (clOf sc X.env) s3.heap.objs.size X.env))
      (compPost (model X.prog X.w) X.A X.xe use Qc (.ref s2.heap.objs.size) s3.heap.objs.size) s4 := by
    rintro s4 rfl
    refine compLoop_go (fun n s' => ∃ i ys H', Inv (cxC X N' sc fp s3 H3) [] (none :: capS js σ) H' s' ∧ tn i s'.heap ∧ (∀ b ∈ fp, H' b = none) ∧ W i n ys H') ?_ m0 ⟨0, [], H3, I4, st4, fun b hb => (f3 b hb).1, w0⟩
    rintro n s5 ⟨i, ys, H5, I5, st5, fr5, w5⟩
    rcases turn i n ys H5 w5 with ⟨stop, qn⟩ | ⟨go, step⟩
    · refine thn (T.done (cxC X N' sc fp s3 H3) rfl rfl rfl hc i [] s5 _ H5 (fun _ _ => False) I5 (stat fr5) st5 stop) fun r s6 ⟨hr, I6⟩ => ?_
      subst hr
      exact out I6 qn
    · refine thn (T.item (cxC X N' sc fp s3 H3) rfl rfl rfl hc i [] s5 _ H5 (fun _ _ => False) I5 (stat fr5) st5 go) fun r s6 ⟨u, hr, q6⟩ => ?_
      subst hr
      refine thn q6 fun _ s7 ⟨y, H7, I7, r7, y7, st7, fr7⟩ => ?_
      have I7' := I7.pinned (stat fr7) (T.obj _ _ st7)
      have hg : PG (cxC X N' sc fp s3 H3) (.Name x px) (gName 0) := pg_name nd h0 lx (.inr (lookup_relabel_local hx))
      refine thn (hg _ s7 _ H7 y u (fun σ' H' => σ' = some y :: capS js σ ∧ H' = H7) I7' r7 ⟨rfl, rfl⟩) fun _ s8 ⟨σ8, H8, I8, e8, e8'⟩ => ?_
      subst e8 e8'
      refine thn (he fp s3 H3 _ s8 _ _ _ I8 (step y _ y7)) fun z s9 ⟨vz, H9, I9, r9, ha, hz, m', hm, w9⟩ => ?_
      refine thn (mt_append (X := cxC X N' sc fp s3 H3) _ s9 _ H9 (.ref s2.heap.objs.size) [vz] (.ref s2.heap.objs.size) [z] (fun _ H' => H' = upd H9 s2.heap.objs.size (.lst (ys ++ [vz]))) I9 rfl (.cons r9 .nil) ⟨_, ys, vz, rfl, rfl, ha, hz, rfl⟩) fun _ s10 ⟨_, H10, I10, _, e10⟩ => ?_
      subst e10
      refine ⟨m', hm, i + 1, ys ++ [vz], _, (I10.unpinned).weak rfl fun k v e => ?_, T.keep _ _ _ st7 fun b hb o e => (I10.pin (b, o) (List.mem_append_right _ (List.mem_append_right _ (mem_pinsAt hb e)))).1, fun b hb => ?_, w9⟩
      · cases k with
        | zero => simp at e
        | succ k => simpa using e
      · obtain ⟨o, e, d⟩ := T.obj _ _ st7 b hb
        exact (I10.pin (b, o) (List.mem_append_right _ (List.mem_append_right _ (mem_pinsAt hb e)))).2.1
  exact codeAny_compStart_list (loop _ rfl) (T.self X.A 0 _ _ _ st4 (loop _ rfl))

theorem ps_comp {X : Cx} {elt iter : Expr} {x y : Str} {px py pos spos : Pos} {sc : Scope} {wi : TI} {te : TE} {N' : List Str} {js : List Nat} {i : Nat} (hN : X.N.Nodup) (hi' : X.N[i]? = some y) (hy : Loc X.env.scope y) (hc : X.calm = true) (hi : PI X (.Name x px) iter wi) (S : CSc X N' js sc) (h0 : N'[0]? = some x) (nd : N'.Nodup)
    (hx : sc.names.lookup x = some .local) (he : ∀ fp s H, PE (cxC X N' sc fp s H) elt te) (hs : ∀ x, foldedSetIterable iter X.env x = pure x := by intro _; rfl) (hw : swapsWith (.ListComp elt [⟨.Name x px, iter, [], 0⟩] sc pos) (some (.Name y py)) spos.line X.env = pure true := by rfl)
    (hf : X.fn y = true ∨ X.env.scope.names.lookup y = some .local := by first | exact .inl rfl | exact .inr rfl | assumption) :
    PS X (.Assign [.Name y py] (.ListComp elt [⟨.Name x px, iter, [], 0⟩] sc pos) spos) (tAsg (tComp js wi te) (gName i)) := by
  refine .mk ?_
  intro pins s σ H D I h
  rw [exec_Assign_Name_used _ _ _ _ hw]
  refine wpAny_bind (wpAny_standAt (wpAny_bind ?_))
  refine wpAny_bind (comp_core hc hi S h0 nd hx he hs I h fun acc C H' s' I5 fc ⟨m, hn⟩ q => ?_)
  have ho : ∀ b ∈ [C], ∃ o, s'.heap.get? b = some o ∧ ∀ v, o.data ≠ .cell v := fun b hb => by
    rw [List.mem_singleton.mp hb]
    obtain ⟨o, es, n, e, ed, _⟩ := hn
    exact ⟨o, e, fun v z => by rw [ed] at z; cases z⟩
  have I6 := I5.pinned (fp := [C]) (fun b hb => by rw [List.mem_singleton.mp hb]; exact fc) ho
  have hg : PG X (.Name y py) (gName i) := pg_name hN hi' hy hf
  show wpAny _ _ (assign (.Name y py) X.env (.ref acc)) (fun _ s'' => ∃ m, s''.heap.Ns C m ∧ ∀ h', Heap.SameBut C s''.heap h' → _) _ s'
  refine thn (hg _ s' _ H' (.ref acc) (.ref acc) _ I6 rfl q) fun _ s7 ⟨σ7, H7, I7, q7⟩ => ?_
  have pc : ∀ o, s'.heap.get? C = some o → s7.heap.get? C = some o ∧ H7 C = none := fun o e => by
    have := I7.pin (C, o) (List.mem_append_right _ (List.mem_append_right _ (mem_pinsAt (by simp) e)))
    exact ⟨this.1, this.2.1⟩
  refine ⟨m, hn.at fun o e => (pc o e).1, fun h' sb => wpAny_pure (wpAny_pure ⟨σ7, H7, ?_, q7⟩)⟩
  have fr : H7 C = none := by
    obtain ⟨o, es, n, e, ed, _⟩ := hn
    exact (pc o e).2
  exact I7.unpinned.turned (it := C) (t' := s7.toks) (fun b o hb e => sb.extBut b o hb e) fr fc.2.1 fc.2.2.2.1 fc.2.2.2.2.1 fc.2.2.2.2.2
end L2
namespace L2
open PySem PySem.Spec PyProof.Rows
section
variable {X : Cx} {pos : Pos}
/-- a, b, c = x, y, z with plain local names -/
def tPar3 (i j l : Nat) (ta : TA) : TS := fun D σ H => ta σ H fun vs H1 => ∃ v w z, vs = [v, w, z] ∧ D.nx (((σ.set l (some z)).set j (some w)).set i (some v)) H1
theorem ps_par3 {i j l : Nat} {x y z : Str} {a b c : Expr} {ta : TA} {px py pz pt : Pos} {kt k2 pt2} (hc : X.calm = true) (hN : X.N.Nodup) (hi : X.N[i]? = some x) (hj : X.N[j]? = some y) (hl : X.N[l]? = some z)
    (hx : X.env.scope.names.lookup x = some .local) (hy : X.env.scope.names.lookup y = some .local) (hz : X.env.scope.names.lookup z = some .local) (ha : PA X [a, b, c] ta)
    (hw : swappedStores [.Tuple [.Name x px, .Name y py, .Name z pz] kt pt] (.Tuple [a, b, c] k2 pt2) X.env = pure (some [x, y, z]))
    (hs : swapsWithSole [.Tuple [.Name x px, .Name y py, .Name z pz] kt pt] (.Tuple [a, b, c] k2 pt2) pos.line X.env = pure false := by rfl) :
    PS X (.Assign [.Tuple [.Name x px, .Name y py, .Name z pz] kt pt] (.Tuple [a, b, c] k2 pt2) pos) (tPar3 i j l ta) := by
  refine .mk ?_
  intro pins s σ H D I h
  rw [exec_Assign_arm, hs]
  refine wpAny_bind (wpAny_standAt (wpAny_bind (wpAny_pure ?_)))
  rw [if_neg (by decide)]
  refine wpAny_bind (Tuple_ (thn (ha _ pins s σ H _ I h) fun us s1 ⟨vs, H1, I1, r1, v, w, t, e1, q1⟩ => ?_))
  subst e1
  obtain ⟨u1, u2, u3, rfl, rv, rw', rt⟩ := vals_three r1
  refine wpAny_newObj_type ?_ (by show 3 ≤ sizeLine; decide)
  have I2 : Inv X pins σ H1 { s1 with heap := s1.heap.push { cls := .type "tuple", data := .seq [u1, u2, u3].toArray } } := I1.kept (t' := s1.toks) fun b o e => Heap.get?_push_of_some _ e
  rw [hw]
  refine wpAny_bind (wpAny_pure ?_)
  show wpAny (model X.prog X.w) X.A (do rule "assign.swapped-stores"; let items ← unpackItems (.ref s1.heap.objs.size) 3 none; assignInOrder [fun v => bindName X.env z v, fun v => bindName X.env y v, fun v => bindName X.env x v] items.reverse; pure Flow.next) _ _ _
  refine wpAny_bind (wpAny_rule (wpAny_bind (unpackItems_tuple (items := #[u1, u2, u3]) (I.ok.hd hc) (IsTup.new s1.heap _) fun h' hx' => ?_)))
  have I3 := I2.kept (h' := h') (t' := s1.toks) fun b o e => hx' b o (Nat.ne_of_lt (Heap.lt_size e)) e
  show wpAny _ _ (assignInOrder [fun v => bindName X.env z v, fun v => bindName X.env y v, fun v => bindName X.env x v] [u3, u2, u1] >>= fun _ => pure Flow.next) _ _ _
  refine wpAny_bind (assignInOrder_cons (wpAny_bindName (store_ok I3 hN hl (.inl hz) rt (fun s2 I4 => ?_) (.inr hz))))
  refine assignInOrder_cons (wpAny_bindName (store_ok I4 hN hj (.inl hy) rw' (fun s3 I5 => ?_) (.inr hy)))
  exact assignInOrder_cons (wpAny_bindName (store_ok I5 hN hi (.inl hx) rv (fun s4 I6 => assignInOrder_nil (wpAny_pure ⟨_, H1, I6, q1⟩)) (.inr hx)))
end
end L2
namespace L2
open PySem PySem.Spec PyProof.Rows
/-! ### enumerate over a list -/
theorem Inv.turned2 {X : Cx} {pins : List (Addr × Obj)} {σ : St} {H : Hp} {s : Shared} {h' : Heap} {t' : Nat} {e it : Addr} (I : Inv X pins σ H s) (k : ∀ b o, b ≠ e → b ≠ it → s.heap.get? b = some o → h'.get? b = some o) (fe : FpOk X pins H e) (fi : FpOk X pins H it) :
    Inv X pins σ H { s with heap := h', toks := t' } := by
  have k2 : ∀ b o, b ∉ [e, it] → s.heap.get? b = some o → h'.get? b = some o := fun b o hb q => k b o (fun z => hb (by simp [z])) (fun z => hb (by simp [z])) q
  have fp : ∀ b ∈ [e, it], FpOk X pins H b := fun b hb => by
    rcases List.mem_cons.mp hb with z | z
    · rw [z]; exact fe
    · rw [List.mem_singleton.mp z]; exact fi
  have ni : ∀ b u, H b = some u → b ∉ [e, it] := fun b u q hb => by rw [(fp b hb).1] at q; cases q
  refine I.step (g' := s.gens) (d' := s.drawn) (ch := [e, it]) (fun b hb => ?_) (fun b o _ _ hc q _ => k2 b o hc q) (fun b o _ _ hc q _ => ⟨o.slots, k2 b o hc q⟩) (fun _ _ _ _ n => n) (fun b o hc q => ⟨o, k2 b o hc q⟩) (fun _ _ q => q) (fun _ _ _ q => q)
    (fun b ps q => ⟨#[], by rw [q]; simp⟩) (fun m hm => ?_) (fun b u q => ?_) I.bare
  · obtain ⟨_, f1, _, f3, f4, f5⟩ := fp b hb
    exact ⟨f3, f1, f4, f5⟩
  · obtain ⟨o, es, ep, ho, r⟩ := hm
    refine ⟨o, es, ep, k2 _ o (fun hb => (fp _ hb).2.1 rfl) ho, r⟩
  · refine (I.hok b u q).stay (fun c v hc z => k2 c v ?_ z) (fun _ z => z) fun _ _ z => z
    rcases hc with z | z
    · rw [z]; exact ni b u q
    · exact ni c _ z
def Ite (K : PySem.W.Frag) (a : Addr) : It :=
  ⟨fun i H => ∃ xs x, SqL K H a xs ∧ xs[i]? = some x, fun i H x H' => ∃ p y, H p = none ∧ x = .ref p ∧ H' = upd H p (.tup [.int i, y]) ∧ ∀ xs, SqL K H a xs → xs[i]? = some y, fun i H => ∃ xs, SqL K H a xs ∧ xs.length ≤ i⟩
theorem turn_enum {P : Program} {w : World} {K : PySem.W.Frag} {elts : List Expr} {x1} {tp : Pos} (a e it : Addr) (hne : e ≠ it) : Turn P w K (.Tuple elts x1 tp) (Ite K a) [e, it] e (fun i h => (∃ old, IsEnum h e it (i : Nat) old) ∧ h.IsListIter it a i) where
  mem := by simp
  obj := fun i h st b hb => by
    obtain ⟨⟨old, he⟩, o, ho, c, d⟩ := st
    rcases List.mem_cons.mp hb with z | z
    · rw [z]; exact ⟨_, he, fun v q => by cases q⟩
    · rw [List.mem_singleton.mp z]; exact ⟨o, ho, fun v q => by rw [d] at q; cases q⟩
  keep := fun i h h' st k => by
    obtain ⟨⟨old, he⟩, hi⟩ := st
    exact ⟨⟨old, k e (by simp) _ he⟩, hi.at fun o q => k it (by simp) o q⟩
  item := by
    intro X hP hw hK hc i pins s σ H E I hf st hg
    subst hP hw hK
    obtain ⟨⟨old, he⟩, hi⟩ := st
    obtain ⟨xs, x, hq, hx⟩ := hg
    obtain ⟨its, rv, p, hz⟩ := I.list hq
    obtain ⟨u, hu, ru⟩ := rv.get hx
    have fe := hf e (by simp)
    have fi := hf it (by simp)
    refine wpAny_pyNext_enum_item he hi p.isList (x := u) (by simpa using hu) hne fun h' eo hi' ht hsz kk => ?_
    have fr : H s.heap.objs.size = none := I.hok.fresh (Nat.le_refl _)
    have I1 : Inv X pins σ (upd H s.heap.objs.size (.tup [.int i, x])) { s with heap := s.heap.push { cls := .type "tuple", data := .seq #[.int i s.toks, u] }, toks := s.toks } :=
      I.laid (t' := s.toks) (fun b v q => Heap.get?_push_of_some _ q) (Nat.le_refl _) ⟨(by show 2 ≤ sizeLine; decide), [.int i s.toks, u], .cons ⟨_, rfl⟩ (.cons ru .nil), ⟨_, Heap.get?_push_size _ rfl, rfl, _, rfl⟩⟩
    have ee : e < s.heap.objs.size := Heap.lt_size he
    have ei : it < s.heap.objs.size := by obtain ⟨o, ho, _⟩ := hi; exact Heap.lt_size ho
    have fe1 : FpOk X pins (upd H s.heap.objs.size (.tup [.int i, x])) e := ⟨by rw [upd_ne (Nat.ne_of_lt ee)]; exact fe.1, fe.2⟩
    have fi1 : FpOk X pins (upd H s.heap.objs.size (.tup [.int i, x])) it := ⟨by rw [upd_ne (Nat.ne_of_lt ei)]; exact fi.1, fi.2⟩
    have I2 : Inv X pins σ (upd H s.heap.objs.size (.tup [.int i, x])) { s with heap := h', toks := s.toks + 1 } := I1.turned2 (t' := s.toks + 1) (fun b o h1 h2 q => by
      by_cases z : b = s.heap.objs.size
      · subst z
        rw [Heap.get?_push_size _ rfl] at q
        cases q
        exact ht
      · rcases Heap.get?_push_cases q with w | w
        · exact absurd w.1 z
        · exact kk b o h1 h2 w) fe1 fi1
    refine ⟨_, rfl, wpAny_letOwnedTupleGo_enum eo fun h'' en sb => ⟨.ref s.heap.objs.size, _, I2.turned (it := e) (t' := s.toks + 1) (fun b o hb q => sb.extBut b o hb q) fe1.1 fe1.2.1 fe1.2.2.2.1 fe1.2.2.2.2.1 fe1.2.2.2.2.2, rfl, ⟨_, x, fr, rfl, rfl, fun ys hy => by rw [I.list_inj hy hq]; exact hx⟩, ⟨⟨_, en⟩, ?_⟩, fun b hb => ?_⟩⟩
    · exact hi'.at fun o q => sb.extBut it o (Ne.symm hne) q
    · rcases List.mem_cons.mp hb with z | z
      · rw [z]; exact fe1.1
      · rw [List.mem_singleton.mp z]; exact fi1.1
  done := by
    intro X hP hw hK hc i pins s σ H E I hf st hg
    subst hP hw hK
    obtain ⟨⟨old, he⟩, hi⟩ := st
    obtain ⟨xs, hq, hx⟩ := hg
    obtain ⟨its, rv, p, hz⟩ := I.list hq
    have hl := rv.length
    obtain ⟨f0, f1, f2, f3, f4, f5⟩ := hf it (by simp)
    exact wpAny_pyNext_enum_end (I.ok.hd hc) he hi p.isList (by simp; omega) fun h' eb => ⟨rfl, I.turned (t' := s.toks) (fun b o hb q => eb b o hb q) f0 f1 f3 f4 f5⟩
  self := fun _ _ _ _ _ st h => by
    obtain ⟨⟨old, he⟩, _⟩ := st
    exact wpAny_pyIter_enum he h
section
variable {X : Cx}
def iEnum (K : PySem.W.Frag) (ta : TA) : TI := fun σ H R => ta σ H fun vs H1 => ∃ a, vs = [.ref a] ∧ (∃ xs, SqL K H1 a xs) ∧ R (Ite K a) H1
theorem pi_enum {K : PySem.W.Frag} {e : Expr} {elts : List Expr} {x1} {tp p pos : Pos} {ta : TA} (hK : X.K = K) (hm : X.mg "enumerate" = none) (ha : PA X [e] ta) (hg : Gl X "enumerate" := by rfl) (h1 : plainE e = true := by rfl) :
    PI X (.Tuple elts x1 tp) (.Call (.Name "enumerate" p) [e] [] pos) (iEnum K ta) := by
  subst hK
  refine .mk ?_
  intro pins s σ H R I h
  refine wpAny_Call_Name_kw (ld_blt I hg hm bt_enumerate ?_ (by decide) (by decide))
  refine PyProof.Rows.callWith_type1 (thn (ha pos pins s σ H _ I h) fun us s1 ⟨vs, H1, I1, r1, q1⟩ => ?_) (star_one h1) (star_none (es := []) rfl)
  obtain ⟨a, rfl, ⟨xs, hq⟩, q⟩ := q1
  obtain ⟨u, rfl, ru⟩ := r1.one
  cases ru
  obtain ⟨its, rv, pl, hz⟩ := I1.list hq
  refine call_enumerate_list pl.isList fun h' he hi hsz kk => ?_
  have I2 : Inv X pins σ H1 { s1 with heap := h' } := I1.kept (t' := s1.toks) kk
  have f1 : H1 (s1.heap.objs.size + 1) = none := I1.hok.fresh (Nat.le_succ _)
  have f0 : H1 s1.heap.objs.size = none := I1.hok.fresh (Nat.le_refl _)
  refine wpAny_pyIter_enum he ⟨s1.heap.objs.size + 1, _, _, Ite X.K a, H1, rfl, I2, turn_enum a (s1.heap.objs.size + 1) s1.heap.objs.size (Nat.succ_ne_self _), ⟨⟨_, he⟩, hi⟩, fun b hb => ?_, q⟩
  rcases List.mem_cons.mp hb with z | z
  · rw [z]; exact I1.fpOk (Nat.le_succ _) f1
  · rw [List.mem_singleton.mp z]; exact I1.fpOk (Nat.le_refl _) f0
/-- for k, x in enumerate(list), the list as it stands -/
def EK (K : PySem.W.Frag) (g : TG) (tb : TS) (D : Ends) (σ : St) (vs : List V) (H1 : Hp) : Prop := ∃ a, vs = [.ref a] ∧ (∃ xs, SqL K H1 a xs) ∧ ∃ W : Nat → Nat → St → Hp → Prop, (∃ m, W 0 m σ H1) ∧ ∀ i m σ H, W i m σ H →
  ((Ite K a).stop i H ∧ D.nx σ H) ∨ ((Ite K a).go i H ∧ ∃ N : St → Hp → Prop, (∀ σ' H', N σ' H' → ∃ m', m' < m ∧ W (i + 1) m' σ' H') ∧ ∀ x H', (Ite K a).yld i H x H' → g x σ H' fun σ2 H2 => tb { D with nx := N, ct := N, bk := D.nx } σ2 H2)
theorem tFor_enum {K : PySem.W.Frag} {ta : TA} {g : TG} {tb : TS} {D : Ends} {σ : St} {H : Hp} : tFor (iEnum K ta) g tb D σ H = ta σ H (EK K g tb D σ) := rfl
theorem EK.of {K : PySem.W.Frag} {g : TG} {tb : TS} {D : Ends} {σ : St} {H : Hp} {a : Addr} {xs : List V} (ha : H a = some (.lst xs)) (Pv : Nat → St → Hp → Prop) (h0 : Pv 0 σ H) (hl : ∀ i σ H', i ≤ xs.length → Pv i σ H' → H' a = some (.lst xs))
    (hs : ∀ i x σ H p, xs[i]? = some x → Pv i σ H → H p = none → g (.ref p) σ (upd H p (.tup [.int (i : Nat), x])) fun σ2 H2 => tb { D with nx := Pv (i + 1), ct := Pv (i + 1), bk := D.nx } σ2 H2) (hd : ∀ σ H, Pv xs.length σ H → D.nx σ H) : EK K g tb D σ [.ref a] H := by
  refine ⟨a, rfl, ⟨xs, SqL.of ha⟩, fun i m σ H => m = xs.length - i ∧ i ≤ xs.length ∧ Pv i σ H, ⟨_, rfl, Nat.zero_le _, h0⟩, ?_⟩
  rintro i m σ H ⟨rfl, hi, p⟩
  have q : SqL K H a xs := SqL.of (hl i σ H hi p)
  by_cases hlt : i < xs.length
  · refine .inr ⟨⟨xs, xs[i], q, List.getElem?_eq_getElem hlt⟩, Pv (i + 1), fun σ' H' p' => ⟨xs.length - (i + 1), by omega, rfl, hlt, p'⟩, fun x H' y => ?_⟩
    obtain ⟨t, z, ht, rfl, rfl, hz⟩ := y
    exact hs i z σ H t (hz xs q) p ht
  · have e : i = xs.length := by omega
    subst e
    exact .inl ⟨⟨xs, q, Nat.le_refl _⟩, hd σ H p⟩
end
end L2
namespace L2
open PySem PySem.Spec PyProof.Rows
/-! ### max of a list of numbers, at least one; a list of a list -/
theorem maxI_snoc : ∀ (l : List Int) (b x : Int), maxI b (l ++ [x]) = if x > maxI b l then x else maxI b l
  | [], b, x => rfl
  | y :: l, b, x => by
    show maxI (if y > b then y else b) (l ++ [x]) = _
    rw [maxI_snoc l]; rfl
theorem arg_max (val : Nat → Int) : ∀ k, val (argBest (fun i j => decide (val i > val j)) k) = maxI (val 0) ((List.range k).map fun i => val (i + 1))
  | 0 => rfl
  | k + 1 => by
    have ih := arg_max val k
    rw [List.range_succ, List.map_append]
    show val (if decide (val (k + 1) > val (argBest _ k)) = true then k + 1 else argBest _ k) = maxI (val 0) (_ ++ [val (k + 1)])
    rw [maxI_snoc, ← ih]
    by_cases h : val (k + 1) > val (argBest (fun i j => decide (val i > val j)) k)
    · rw [if_pos (decide_eq_true h), if_pos h]
    · rw [if_neg (by rw [decide_eq_false h]; decide), if_neg h]
def pairOf : Value → Int × Tok
  | .int i t => (i, t)
  | _ => (0, 0)
theorem ints_items : ∀ {ns : List Int} {us : List Value}, Vals (ns.map V.int) us → us.toArray = intItems (us.map pairOf).toArray ∧ us.map (fun u => (pairOf u).1) = ns
  | [], _, .nil => ⟨by simp [intItems], rfl⟩
  | n :: ns, _, .cons r t => by
    obtain ⟨tk, rfl⟩ := (r : ∃ tk, _ = Value.int n tk)
    obtain ⟨h1, h2⟩ := ints_items t
    refine ⟨?_, by rw [List.map_cons, h2]; rfl⟩
    have h1' := congrArg Array.toList h1
    unfold intItems at h1' ⊢
    apply Array.ext'
    simp at h1' ⊢
    exact ⟨⟨rfl, rfl⟩, h1'⟩
section
variable {X : Cx}
theorem call_maxL (hc : X.calm = true) : CallR X (.builtin "max") (fun vs H Q => ∃ (p : Addr) (b : Int) (r : List Int), vs = [.ref p] ∧ H p = some (.lst ((b :: r).map V.int)) ∧ Q (.int (maxI b r)) H) := by
  refine .mk ?_
  intro pins s σ H vs us Q I r h
  obtain ⟨p, b, rs, rfl, hp, q⟩ := h
  obtain ⟨u, rfl, ru⟩ := r.one
  cases ru
  obtain ⟨_, its, n, rv, e⟩ := I.hok p _ hp
  obtain ⟨e1, e2⟩ := ints_items rv
  have hl : s.heap.IsList p (intItems (its.map pairOf).toArray) := by rw [← e1]; exact ⟨_, e, rfl, n, rfl⟩
  have hlen := rv.length
  rw [List.length_map] at hlen
  have na : ∀ i, numAt (its.map pairOf).toArray i = (b :: rs).getD i 0 := fun i => by
    unfold numAt
    rw [← e2, List.getD_eq_getElem?_getD]
    simp
    rfl
  refine max_intList (I.ok.hd hc) hl (by simp; rw [← hlen]; simp) fun v h' tk hv k => ?_
  obtain ⟨t, rfl⟩ := intItems_at hv
  refine ⟨.int (maxI b rs), H, I.kept (t' := tk) k, ⟨t, ?_⟩, q⟩
  have := arg_max (numAt (its.map pairOf).toArray) ((its.map pairOf).toArray.size - 1)
  rw [this]
  congr 1
  have sz : (its.map pairOf).toArray.size - 1 = rs.length := by simp; rw [← hlen]; simp
  rw [sz, na 0]
  show maxI b _ = _
  congr 1
  apply List.ext_getElem
  · simp
  · intro i h1 h2
    simp at h1 h2
    rw [List.getElem_map, List.getElem_range, na (i + 1)]
    simp [List.getD_eq_getElem?_getD, h2]
theorem call_lstL : CallR X (.type "list") (fun vs H Q => ∃ (p : Addr) (ys : List V), vs = [.ref p] ∧ H p = some (.lst ys) ∧ ∀ l, H l = none → Q (.ref l) (upd H l (.lst ys))) := by
  refine .mk ?_
  intro pins s σ H vs us Q I r h
  obtain ⟨p, ys, e, hp, q⟩ := h
  exact call_list_of pins s σ H vs us Q I r ⟨p, ys, e, .inl (SqL.of hp), q⟩
theorem pe_bmK {K : PySem.W.Frag} {o e : Expr} {es : List Expr} {to : TE} {t : TA} {name : Str} {apos cpos : Pos} {T id : String} {r : V → List V → Hp → VK → Prop} (hK : X.K = K) (pa : PlainAttrs T) (slot : Slot T name id) (hty : typeOf (.builtin id) = pure (.type "method_descriptor")) (hm : MtR X id r) (ho : PE X o to) (ha : PA X (e :: es) t)
    (hbase : attributeBase o name X.env (eval o X.env) = eval o X.env := by rfl)
    (hfew : ((backTo cpos (starEach (e :: es) X.env)).all (fun x => !x.1) && (backToKw cpos (keywordEach [] X.env)).all (fun x => x.1.isSome) && decide ((e :: es).length + ([] : List Keyword).length + (if ([] : List Keyword).isEmpty then 0 else 1) < 30)) = true := by rfl)
    (hline : (apos.endLine == cpos.line) = true := by rfl) (hs : starEach (e :: es) X.env = (false, eval e X.env) :: starEach es X.env := by rfl) (hplain : (backTo cpos (starEach es X.env)).any (·.1) = false := by rfl) : PE X (.Call (.Attribute o name apos) (e :: es) [] cpos) (tBM K T r to t) := by
  subst hK
  exact pe_bm pa slot hty hm ho ha hbase hfew hline hs hplain
end
end L2
namespace L2
open PySem PySem.Spec PyProof.Rows
/-! ### for k in reversed(range(n)) -/
theorem sub_ri_rev : isSubtype (.type "range_iterator") (.type "reversed") = pure false := by rw [isSubtype_type]; kernel_rfl
section
variable {prog : Program} {w : World} {A : Around} {E : Value → Shared → Prop} {s : Shared}
def rrObj (n : Int) : Obj := { cls := .type "range_iterator", data := .fields #[rawInt (n - 1), rawInt n, rawInt (-1)] }
theorem call_range_rev {r : Addr} {n : Int} {t u v : Tok} {Q : Value → Shared → Prop} (hr : IsRange s.heap r 0 n 1 t u v) (h0 : 0 ≤ n) (h1 : n < 2 ^ 62) (h : Q (.ref s.heap.objs.size) { s with heap := s.heap.push (rrObj n) }) :
    wpAny (model prog w) A (call (.builtin "range.__reversed__") [.ref r]) Q E s := by
  have hT : s.TypeIs (.ref r) "range" := ⟨_, hr, rfl⟩
  refine wpAny_call_entry PySem.F.slot_range_reversed hT PySem.F.entry_range_reversed ?_ (PySem.F.args_range_reversed_1 _)
  unfold Builtin.«range.__reversed__»
  refine wpAny_bind (wpAny_of_eq (a := Value.ref r) rfl ?_)
  have rf : ∀ {R : Int × Int × Int → Shared → Prop}, R (0, n, 1) s → wpAny (model prog w) A.in1 (Builtin.Range.rangeFields (.ref r)) R E s := fun {R} hR => by
    unfold Builtin.Range.rangeFields
    refine wpAny_bind (wpAny_field hr rfl (x := .int 0 t) rfl (wpAny_bind (wpAny_of_eq (a := some (0 : Int)) rfl ?_)))
    refine wpAny_bind (wpAny_field hr rfl (x := .int n u) rfl (wpAny_bind (wpAny_of_eq (a := some n) rfl ?_)))
    exact wpAny_bind (wpAny_field hr rfl (x := .int 1 v) rfl (wpAny_bind (wpAny_of_eq (a := some (1 : Int)) rfl (wpAny_pure hR))))
  refine wpAny_bind (rf ?_)
  dsimp only
  have sz : Builtin.Range.rangeSize 0 n 1 = n := by rw [rangeSize_one]; split <;> omega
  rw [sz]
  have sm : (Builtin.Range.rangeFitsLong 0 && Builtin.Range.rangeFitsLong n && Builtin.Range.rangeFitsLong 1 && Builtin.Range.rangeFitsLong (-1) && Builtin.Range.rangeFitsLong (0 - 1) && Builtin.Range.rangeFitsLong n) = true := by
    have : Builtin.Range.rangeFitsLong n = true := by simp only [Builtin.Range.rangeFitsLong, Bool.and_eq_true, decide_eq_true_eq]; omega
    rw [this]; decide
  rw [sm]
  simp only [Bool.not_true, Bool.false_eq_true, if_false, if_true]
  have e1 : (0 + (n - 1) * 1 : Int) = n - 1 := by omega
  rw [e1]
  exact wpAny_bind (wpAny_newObj_type (wpAny_pure ⟨_, rfl, h⟩))
theorem code_rev_range {r : Addr} {n : Int} {t u v : Tok} {Q : Value → Shared → Prop} (hr : IsRange s.heap r 0 n 1 t u v) (h0 : 0 ≤ n) (h1 : n < 2 ^ 62) (h : Q (.ref s.heap.objs.size) { s with heap := s.heap.push (rrObj n) }) :
    codeAny (model prog w) A (.call (.builtin "reversed.__new__") ⟨[.type "reversed", .ref r], []⟩) (wants Q E) s := by
  have hT : s.TypeIs (.ref r) "range" := ⟨_, hr, rfl⟩
  refine codeAny_of_tree ?_
  show wpAny _ A.in1 (do checkBuiltinCall "reversed.__new__" ⟨[.type "reversed", .ref r], []⟩; again (.builtin "reversed.__new__" ⟨[.type "reversed", .ref r], []⟩)) _ _ s
  refine wpAny_bind (wpAny_of_eq (F.newCall_reversed_1 (.ref r)) (wpAny_pure ⟨plainId_quiet F.plain_reversed_new _, codeAny_builtin F.entry_reversed_new ?_⟩))
  rw [Around.under_plainId F.plain_reversed_new _]
  unfold Builtin.«reversed.__new__»
  refine wpAny_bind (wpAny_of_eq (newClass_reversed (.ref r)) ?_); (try dsimp only)
  refine wpAny_bind (wpAny_of_eq (a := ()) rfl (wpAny_bind (wpAny_of_eq (a := ()) rfl ?_)))
  refine wpAny_bind (wpAny_specialOf hT PySem.F.slot_range_reversed.lookup ?_); (try dsimp only)
  refine wpAny_bind (wpAny_of_eq (PySem.F.slot_range_reversed.bind _) ?_); (try dsimp only)
  rw [if_neg (show ¬ ((Value.builtin "range.__reversed__" == Value.none) = true) from Bool.false_ne_true)]
  refine wpAny_bind (wpAny_rule (wpAny_bind (m := runValue (.call (.builtin "range.__reversed__") ⟨[.ref r], []⟩)) (show wpAny _ _ (call (.builtin "range.__reversed__") [.ref r]) _ _ _ from call_range_rev hr h0 h1 ?_)))
  first
    | exact wpAny_pure h
    | exact wpAny_bind (wpAny_pure (wpAny_pure h))
theorem call_rev_range {r : Addr} {n : Int} {t u v : Tok} {Q : Value → Shared → Prop} (hr : IsRange s.heap r 0 n 1 t u v) (h0 : 0 ≤ n) (h1 : n < 2 ^ 62) (h : Q (.ref s.heap.objs.size) { s with heap := s.heap.push (rrObj n) }) :
    wpAny (model prog w) A (call (.type "reversed") [.ref r]) Q E s := by
  refine callType_other (U := "range_iterator") (Q₁ := fun obj z => obj = .ref s.heap.objs.size ∧ z = { s with heap := s.heap.push (rrObj n) }) (by decide +kernel) F.create_reversed ⟨_, _, F.mro_reversed⟩ F.made_reversed sub_ri_rev (F.typeCall_reversed_1 _) (code_rev_range hr h0 h1 ⟨rfl, rfl⟩) ?_
  rintro obj z ⟨rfl, rfl⟩
  exact ⟨⟨_, Heap.get?_push_size _ rfl, rfl⟩, h⟩
end
/-- n - 1, n - 2, .., 0 -/
def Itv (n : Nat) : It := ⟨fun i _ => i < n, fun i H x H' => H' = H ∧ x = .int ((n : Int) - 1 - i), fun i _ => n ≤ i⟩
theorem turn_rev {P : Program} {w : World} {K : PySem.W.Frag} {tg : Expr} (it : Addr) (n : Nat) : Turn P w K tg (Itv n) [it] it (fun i h => IsRangeIter h it ((n : Int) - 1 + (i : Nat) * (-1)) ((n : Int) - (i : Nat)) (-1)) where
  mem := by simp
  obj := fun i h st b hb => by
    rw [List.mem_singleton.mp hb]
    exact ⟨_, st, fun v z => by
      have z' : Data.fields _ = Data.cell v := z
      cases z'⟩
  keep := fun i h h' st k => k it (by simp) _ st
  item := by
    intro X hP hw hK hc i pins s σ H E I hf st hg
    subst hP hw hK
    obtain ⟨f0, f1, f2, f3, f4, f5⟩ := hf it (by simp)
    have W := Walks.range (prog := X.prog) (w := X.w) (I.ok.hd hc) it ((n : Int) - 1) (-1) n
    refine W.item i s _ _ hg st fun v h' tk hv st' kk => ?_
    obtain ⟨t, rfl⟩ := hv
    have I1 : Inv X pins σ H { s with heap := h', toks := tk } := I.turned (fun b o hb e => kk b o (by simpa using hb) e) f0 f1 f3 f4 f5
    refine ⟨_, rfl, go_of (s := { s with heap := h', toks := tk }) (n := "range_iterator") st' rfl rfl (by decide) ⟨.int ((n : Int) - 1 - i), H, I1, ⟨t, ?_⟩, ⟨rfl, rfl⟩, st', fun b hb => (hf b hb).1⟩⟩
    congr 1
    omega
  done := by
    intro X hP hw hK hc i pins s σ H E I hf st hg
    subst hP hw hK
    obtain ⟨f0, f1, f2, f3, f4, f5⟩ := hf it (by simp)
    exact wpAny_pyNext_range_end (I.ok.hd hc) st (by have : n ≤ i := hg; omega) fun h' eb => ⟨rfl, I.turned (t' := s.toks) (fun b o hb e => eb b o hb e) f0 f1 f3 f4 f5⟩
  self := fun _ _ _ _ _ st h => wpAny_pyIter_rangeiter st h
section
variable {X : Cx}
theorem bt_reversed : bootBuiltins "reversed" = some (.type "reversed") := by decide +kernel
def iRev (ta : TA) : TI := fun σ H R => ta σ H fun vs H1 => ∃ n : Nat, vs = [.int n] ∧ n ≤ 1000000 ∧ R (Itv n) H1
theorem pi_rev {tg a : Expr} {p p2 pos pos2 : Pos} {ta : TA} (hm : X.mg "reversed" = none) (hm2 : X.mg "range" = none) (ha : PA X [a] ta) (hg : Gl X "reversed" := by rfl) (hg2 : Gl X "range" := by rfl) (h1 : plainE a = true := by rfl) :
    PI X tg (.Call (.Name "reversed" p) [.Call (.Name "range" p2) [a] [] pos2] [] pos) (iRev ta) := by
  refine .mk ?_
  intro pins s σ H R I h
  refine wpAny_Call_Name_kw (ld_blt I hg hm bt_reversed ?_ (by decide) (by decide))
  refine PyProof.Rows.callWith_type1 ?_ (star_one rfl) (star_none (es := []) rfl)
  rw [star_one (e := .Call (.Name "range" p2) [a] [] pos2) rfl]
  show wpAny _ _ (spliced ((false, eval (.Call (.Name "range" p2) [a] [] pos2) X.env) :: backTo pos (starEach [] X.env))) _ _ s
  refine Calls.spliced_cons ?_
  refine wpAny_Call_Name_kw (ld_blt I hg2 hm2 bt_range ?_ (by decide) (by decide))
  refine PyProof.Rows.callWith_type1 (thn (ha pos2 pins s σ H _ I h) fun us s1 ⟨vs, H1, I1, r1, n, e, hn, q⟩ => ?_) (star_one h1) (star_none (es := []) rfl)
  subst e
  obtain ⟨u, rfl, t, rfl⟩ := r1.one
  refine call_range_1 ?_
  refine Calls.spliced_nil ?_
  refine call_rev_range (IsRange.new ..) (by omega) (by omega) ?_
  have k2 : ∀ b o, s1.heap.get? b = some o → ((s1.heap.push { cls := .type "range", data := .fields #[.int 0 s1.toks, .int (n : Int) t, .int 1 (s1.toks + 1)] }).push (rrObj n)).get? b = some o := fun b o e => Heap.get?_push_of_some _ (Heap.get?_push_of_some _ e)
  have I2 := I1.kept (t' := s1.toks + 1 + 1) k2
  generalize hh : s1.heap.push { cls := .type "range", data := .fields #[.int 0 s1.toks, .int (n : Int) t, .int 1 (s1.toks + 1)] } = h1' at I2 ⊢
  have sz : s1.heap.objs.size ≤ h1'.objs.size := by rw [← hh, Heap.size_push]; exact Nat.le_succ _
  have st : IsRangeIter (h1'.push (rrObj n)) h1'.objs.size ((n : Int) - 1 + ((0 : Nat) : Int) * (-1)) ((n : Int) - ((0 : Nat) : Int)) (-1) := by
    have e1 : (n : Int) - 1 + ((0 : Nat) : Int) * (-1) = (n : Int) - 1 := by simp
    have e2 : (n : Int) - ((0 : Nat) : Int) = n := by simp
    rw [e1, e2]
    exact Heap.get?_push_size _ rfl
  refine wpAny_pyIter_rangeiter (s := { s1 with heap := h1'.push (rrObj n), toks := s1.toks + 1 + 1 }) (by exact st) ⟨h1'.objs.size, [h1'.objs.size], _, Itv n, H1, rfl, I2, turn_rev _ n, st, fun b hb => ?_, q⟩
  rw [List.mem_singleton.mp hb]
  exact I1.fpOk sz (I1.hok.fresh sz)
/-- for k in reversed(range(n)), by an invariant -/
def VK' (g : TG) (tb : TS) (D : Ends) (σ : St) (vs : List V) (H1 : Hp) : Prop := ∃ n : Nat, vs = [.int n] ∧ n ≤ 1000000 ∧ ∃ W : Nat → Nat → St → Hp → Prop, (∃ m, W 0 m σ H1) ∧ ∀ i m σ H, W i m σ H →
  ((Itv n).stop i H ∧ D.nx σ H) ∨ ((Itv n).go i H ∧ ∃ N : St → Hp → Prop, (∀ σ' H', N σ' H' → ∃ m', m' < m ∧ W (i + 1) m' σ' H') ∧ ∀ x H', (Itv n).yld i H x H' → g x σ H' fun σ2 H2 => tb { D with nx := N, ct := N, bk := D.nx } σ2 H2)
theorem tFor_rev {ta : TA} {g : TG} {tb : TS} {D : Ends} {σ : St} {H : Hp} : tFor (iRev ta) g tb D σ H = ta σ H (VK' g tb D σ) := rfl
theorem VK'.of {g : TG} {tb : TS} {D : Ends} {σ : St} {H : Hp} {n : Nat} {i : Int} (ei : i = n) (hn : n ≤ 1000000) (Pv : Nat → St → Hp → Prop) (h0 : Pv 0 σ H)
    (hs : ∀ i σ H, i < n → Pv i σ H → g (.int ((n : Int) - 1 - (i : Nat))) σ H fun σ2 H2 => tb { D with nx := Pv (i + 1), ct := Pv (i + 1), bk := D.nx } σ2 H2) (hd : ∀ σ H, Pv n σ H → D.nx σ H) : VK' g tb D σ [.int i] H := by
  subst ei
  refine ⟨n, rfl, hn, fun i m σ H => m = n - i ∧ i ≤ n ∧ Pv i σ H, ⟨n, rfl, Nat.zero_le _, h0⟩, ?_⟩
  rintro i m σ H ⟨rfl, hi, p⟩
  by_cases hlt : i < n
  · refine .inr ⟨hlt, Pv (i + 1), fun σ' H' p' => ⟨n - (i + 1), by omega, rfl, hlt, p'⟩, fun x H' y => ?_⟩
    obtain ⟨e1, e2⟩ := y
    subst e1 e2
    exact hs i σ _ hlt p
  · have e : i = n := by omega
    subst e
    exact .inl ⟨Nat.le_refl _, hd σ H p⟩
end
end L2
namespace L2
open PySem PySem.Spec PyProof.Rows
/-! ### a def whose last parameter has a number as its default -/
structure FunD (K : PySem.W.Frag) (x qual : Str) (st : Stmt) (f : Addr) (fd : FuncData) (T : Addr) (i : Int) (t : Tok) : Prop where
  ex : ∃ (oc : Value) (od : Option Addr) (kV doc pm : Value) (an : Option Addr) (cdv ct : Value) (osl : Array (Option Value)),
    fd = PySem.W.fnOf x qual (defArgs st) (defBody st) (defScope st) (.ref T) kV doc pm an cdv ct ∧ K.lookup f = some ⟨oc, od, .func fd, osl⟩ ∧ PySem.W.codeIn K cdv qual = true
  kp : PySem.W.keepIn K (.ref f) = true
  df : ∃ o n, K.lookup T = some o ∧ o.data = .seq #[.int i t] n
section
variable {P : Program} {w : World} {K : PySem.W.Frag} {mg : Str → Option Value} {base : Heap}
theorem FunD.ok {x qual : Str} {st : Stmt} {f T : Addr} {i : Int} {t : Tok} {fd : FuncData} {N ps : List Str} {k : Nat} {sp : Sp} (F : FunD K x qual st f fd T i t) (S : FnScope N ps (defScope st)) (len : ∀ vs H Q E, sp vs H Q E → vs.length = ps.length)
    (hb : ∀ (cdv : Value) (A : Around) (outer : List Env) (s : Shared) (H : Hp) (vs : List V) (Q : VK) (E : XK), Room k (A.deeper (envOfC qual (defScope st) s.heap.objs.size f cdv)) → sp vs H Q E →
      ∃ t, PSs (cxOf CX0 P w K mg base N qual (defScope st) f cdv A outer s H E).nox (defBody st) t ∧ t { nx := fun _ H' => Q .non H', rt := Q } (start N vs) H) : FnOk P w K mg base CX0 (k + 1) f fd ps sp := by
  obtain ⟨oc, od, kV, doc, pm, an, cdv, ct, osl, rfl, lk, hcd⟩ := F.ex
  exact fn_of lk hcd S len fun A outer s H vs Q E hr hsp => let ⟨t, h, q⟩ := hb cdv A outer s H vs Q E hr hsp; ⟨t, h.nox, q⟩
theorem FunD.binds {x qual : Str} {st : Stmt} {f T : Addr} {i : Int} {t : Tok} {fd : FuncData} {ps : List Str} {ds : List Value} (F : FunD K x qual st f fd T i t)
    (h : ∀ (kV doc pm : Value) (an : Option Addr) (cdv ct : Value) (us : List Value), (us ++ ds).length = ps.length → ∃ k, bindArgs (PySem.W.fnOf x qual (defArgs st) (defBody st) (defScope st) (.ref T) kV doc pm an cdv ct) ⟨us, []⟩ = seqItems? (.ref T) >>= k ∧ k (some #[.int i t]) = pure (ps.zip (us ++ ds))) : Binds K fd ps ds := by
  obtain ⟨oc, od, kV, doc, pm, an, cdv, ct, osl, rfl, lk, hcd⟩ := F.ex
  obtain ⟨o, n, ho, hd⟩ := F.df
  intro s us KX hl
  obtain ⟨k, h1, h2⟩ := h kV doc pm an cdv ct us hl
  exact BindsTo.of_defaults rfl (KX _ _ ho) hd h1 h2
end
/-- a callee with a default -/
structure CtD (P : Program) (w : World) (K : PySem.W.Frag) (mg : Str → Option Value) (base : Heap) (k : Nat) (x : Str) (ps : List Str) (i : Int) (sp : Sp) where
  f : Addr
  fd : FuncData
  t : Tok
  G : FnOk P w K mg base CX0 k f fd ps sp
  kp : PySem.W.keepIn K (.ref f) = true
  b : Binds K fd ps []
  bd : Binds K fd ps [.int i t]
  m : mg x = some (.ref f)
def CtD.mono {P : Program} {w : World} {K : PySem.W.Frag} {mg : Str → Option Value} {base : Heap} {j k : Nat} {x : Str} {ps : List Str} {i : Int} {sp : Sp} (c : CtD P w K mg base j x ps i sp) (h : j ≤ k) : CtD P w K mg base k x ps i sp := { c with G := c.G.mono h }
section
variable {X : Cx} {x : Str} {p pos : Pos} {e : Expr} {es : List Expr} {t : TA}
theorem pfd {k : Nat} {ps : List Str} {i : Int} {sp : Sp} (c : CtD X.prog X.w X.K X.mg X.base k x ps i sp) (hr : Room k X.A) (ha : PA X (e :: es) t) (hg : Gl X x := by rfl) (hdb : (x == ("__debug__" : Str)) = false := by decide) (h1 : plainE e = true := by rfl) (h2 : es.all plainE = true := by rfl) :
    PE X (.Call (.Name x p) (e :: es) [] pos) (tCall sp [.int i] E0 t) := pe_call c.G hr hg c.m c.kp c.bd (.cons ⟨_, rfl⟩ .nil) pass0 ha hdb (star_one h1) (star_none h2)
theorem pfa {k : Nat} {ps : List Str} {i : Int} {sp : Sp} (c : CtD X.prog X.w X.K X.mg X.base k x ps i sp) (hr : Room k X.A) (ha : PA X (e :: es) t) (hg : Gl X x := by rfl) (hdb : (x == ("__debug__" : Str)) = false := by decide) (h1 : plainE e = true := by rfl) (h2 : es.all plainE = true := by rfl) :
    PE X (.Call (.Name x p) (e :: es) [] pos) (tCall sp [] E0 t) := pe_call c.G hr hg c.m c.kp c.b .nil pass0 ha hdb (star_one h1) (star_none h2)
end
end L2
theorem args_ins (a b c : PySem.Value) : PySem.argsOk "list.insert" ⟨[a, b, c], []⟩ := PySem.F.args_list_insert_3 a b c
theorem fits_ins {j : Int} (h1 : -(2 ^ 63 : Int) ≤ j) (h2 : j < 2 ^ 63) : ¬(!PySem.Builtin.List.listFitsIndex j) = true := by
  unfold PySem.Builtin.List.listFitsIndex
  rw [decide_eq_true h1, decide_eq_true h2]
  decide
namespace L2
open PySem PySem.Spec PyProof.Rows
section
variable {X : Cx}
/-- xs.insert(i, n) with numbers -/
def rInsert : V → List V → Hp → VK → Prop := fun x vs H Q => ∃ (l : Addr) (ns : List Int) (j : Int) (i : Nat) (n : Int), x = .ref l ∧ vs = [.int j, .int n] ∧ j = (i : Int) ∧ H l = some (.lst (ns.map V.int)) ∧ i ≤ ns.length ∧ ns.length < 1000 ∧ Q .non (upd H l (.lst ((ns.take i ++ n :: ns.drop i).map V.int)))
theorem mt_insert : MtM X "list.insert" rInsert := by
  intro pins s σ H x vs v us Q I rx rv h
  obtain ⟨l, ns, ij, i, n, rfl, rfl, hij, hH, hi, hn, q⟩ := h
  cases rx
  obtain ⟨u, u2, rfl, ⟨t, rfl⟩, ⟨t2, rfl⟩⟩ := rv.two
  obtain ⟨z, its, k, r, hl, e⟩ := I.lstM hH
  have hlen := r.length
  rw [List.length_map] at hlen
  have hs : 1000 < sizeLine := small1000 (Nat.le_refl _)
  have ss : its.toArray.size ≤ sizeLine := by rw [List.size_toArray]; omega
  have fi : ¬(!Builtin.List.listFitsIndex ij) = true := fits_ins (by omega) (by omega)
  have mm := AutoListH.list_insert_list_int_int_1 l its.toArray k ij t n t2 fi ss
  have aa : argsOk "list.insert" ⟨[Value.ref l, Value.int ij t, Value.int n t2], []⟩ := args_ins _ _ _
  refine call_meets PySem.F.slot_list_insert ⟨_, e, rfl⟩ PySem.F.entry_list_insert aa mm ⟨e, ?_⟩
  · have rt : ∀ {xs : List V} {ys : List Value} (j : Nat), Vals xs ys → Vals (xs.take j) (ys.take j) := fun {xs ys} j q => by
      induction j generalizing xs ys with
      | zero => exact (.nil : Vals [] [])
      | succ j ih =>
        cases q with
        | nil => exact (.nil : Vals [] [])
        | cons a b => exact .cons a (ih b)
    have rd : ∀ {xs : List V} {ys : List Value} (j : Nat), Vals xs ys → Vals (xs.drop j) (ys.drop j) := fun {xs ys} j q => by
      induction j generalizing xs ys with
      | zero => simpa using q
      | succ j ih =>
        cases q with
        | nil => exact (.nil : Vals [] [])
        | cons a b => exact ih b
    have em : (ns.take i ++ n :: ns.drop i).map V.int = (ns.map V.int).take i ++ (V.int n :: (ns.map V.int).drop i) := by rw [List.map_append, List.map_cons, List.map_take, List.map_drop]
    rw [em] at q
    refine ⟨.non, _, I.lset (its' := its.take i ++ (Value.int n t2 :: its.drop i)) hH e ?_ ((rt i r).append (.cons (show RelV (.int n) (.int n t2) from ⟨t2, rfl⟩) (rd i r))) ?_, rfl, q⟩
    · have ek : (if ij < 0 then (ij + ((its.toArray.size : Nat) : Int)).toNat else min ij.toNat its.toArray.size) = i := by
        rw [if_neg (by omega), hij, Int.toNat_natCast, List.size_toArray]; omega
      show (its.toArray.extract 0 (if ij < 0 then (ij + ((its.toArray.size : Nat) : Int)).toNat else min ij.toNat its.toArray.size)).push (Value.int n t2) ++ its.toArray.extract (if ij < 0 then (ij + ((its.toArray.size : Nat) : Int)).toNat else min ij.toNat its.toArray.size) = _
      rw [ek]
      apply Array.ext'
      simp [List.take_take]
      exact List.take_of_length_le (by rw [List.length_drop]; exact Nat.le_refl _)
    · simp
      omega
end
/-- for x in a list, reckoned with a change of the heap -/
def LK (K : PySem.W.Frag) (g : TG) (tb : TS) (D : Ends) (σ : St) (x : V) (H1 : Hp) : Prop := ∃ a, x = .ref a ∧ (∃ xs, SqL K H1 a xs) ∧ ∃ W : Nat → Nat → St → Hp → Prop, (∃ m, W 0 m σ H1) ∧ ∀ i m σ H, W i m σ H →
  ((Itl K a).stop i H ∧ D.nx σ H) ∨ ((Itl K a).go i H ∧ ∃ N : St → Hp → Prop, (∀ σ' H', N σ' H' → ∃ m', m' < m ∧ W (i + 1) m' σ' H') ∧ ∀ x H', (Itl K a).yld i H x H' → g x σ H' fun σ2 H2 => tb { D with nx := N, ct := N, bk := D.nx } σ2 H2)
theorem tFor_lst {K : PySem.W.Frag} {tl : TE} {g : TG} {tb : TS} {D : Ends} {σ : St} {H : Hp} : tFor (iList K tl) g tb D σ H = tl σ H (LK K g tb D σ) := rfl
theorem LK.of {K : PySem.W.Frag} {g : TG} {tb : TS} {D : Ends} {σ : St} {H : Hp} {a : Addr} {xs : List V} (ha : H a = some (.lst xs)) (Pv : Nat → St → Hp → Prop) (h0 : Pv 0 σ H) (hl : ∀ i σ H', i ≤ xs.length → Pv i σ H' → H' a = some (.lst xs))
    (hs : ∀ i x σ H, xs[i]? = some x → Pv i σ H → g x σ H fun σ2 H2 => tb { D with nx := Pv (i + 1), ct := Pv (i + 1), bk := D.nx } σ2 H2) (hd : ∀ σ H, Pv xs.length σ H → D.nx σ H) : LK K g tb D σ (.ref a) H :=
  ⟨a, rfl, ⟨xs, SqL.of ha⟩, for_list (xs := xs) Pv h0 (fun i σ H' hi p => SqL.of (hl i σ H' hi p)) hs hd⟩
end L2
namespace L2
open PySem
mutual
def noL : PyData → Bool
  | .tuple ds => noLAll ds
  | .list _ => false
  | .dict _ => false
  | .none => true
  | .bool _ => true
  | .int _ => true
  | .str _ => true
def noLAll : List PyData → Bool
  | [] => true
  | d :: ds => noL d && noLAll ds
end
theorem noLAll_iff : ∀ {ds : List PyData}, noLAll ds = true ↔ ∀ d ∈ ds, noL d = true
  | [] => by simp [noLAll]
  | d :: ds => by
    have ih := noLAll_iff (ds := ds)
    simp only [noLAll, Bool.and_eq_true, ih, List.mem_cons, forall_eq_or_imp]
mutual
theorem At.hidL {G : Hp} {p : Addr} {xs : List V} (hp : G p = some (.lst xs)) : ∀ (d : PyData) (v : V), noL d = true → At G d v → At (hid p G) d v
  | .none, _, _, h => by unfold At at h ⊢; exact h
  | .bool _, _, _, h => by unfold At at h ⊢; exact h
  | .int _, _, _, h => by unfold At at h ⊢; exact h
  | .str _, _, _, h => by unfold At at h ⊢; exact h
  | .tuple ds, v, n, h => by
    unfold At at h ⊢
    obtain ⟨a, ys, e, h1, h2⟩ := h
    refine ⟨a, ys, e, ?_, AtAll.hidL hp ds ys (by simpa [noL] using n) h2⟩
    rw [hid_ne (fun z => by subst z; rw [hp] at h1; cases h1)]; exact h1
  | .list _, _, n, _ => by simp [noL] at n
  | .dict _, _, n, _ => by simp [noL] at n
theorem AtAll.hidL {G : Hp} {p : Addr} {xs : List V} (hp : G p = some (.lst xs)) : ∀ (ds : List PyData) (ys : List V), noLAll ds = true → AtAll G ds ys → AtAll (hid p G) ds ys
  | [], _, _, h => by unfold AtAll at h ⊢; exact h
  | d :: ds, ys, n, h => by
    unfold AtAll at h ⊢
    obtain ⟨x, r, e, h1, h2⟩ := h
    have n' : noL d = true ∧ noLAll ds = true := by simpa [noLAll] using n
    exact ⟨x, r, e, At.hidL hp d x n'.1 h1, AtAll.hidL hp ds r n'.2 h2⟩
end
theorem sum_nn : ∀ l : List Int, (∀ c ∈ l, 0 ≤ c) → 0 ≤ l.sum
  | [], _ => by simp
  | x :: l, h => by rw [List.sum_cons]; have := sum_nn l fun c hc => h c (List.mem_cons_of_mem _ hc); have := h x List.mem_cons_self; omega
theorem mem_le_sum : ∀ {l : List Int}, (∀ c ∈ l, 0 ≤ c) → ∀ c ∈ l, c ≤ l.sum
  | [], _, c, hc => by simp at hc
  | x :: l, h, c, hc => by
    rw [List.sum_cons]
    have h0 := sum_nn l fun c hc => h c (List.mem_cons_of_mem _ hc)
    rcases List.mem_cons.mp hc with z | z
    · rw [z]; omega
    · have := mem_le_sum (fun c hc => h c (List.mem_cons_of_mem _ hc)) c z
      have := h x List.mem_cons_self
      omega
theorem nice_ints {b : Nat} : ∀ {cs : List Int}, (∀ c ∈ cs, c.natAbs ≤ b) → NiceAll b 0 (502 * cs.length) (cs.map PyData.int)
  | [], _ => nice_nil
  | c :: cs, h => by
    have := (NiceAll.one (nice_int (h c List.mem_cons_self))).append (nice_ints fun x hx => h x (List.mem_cons_of_mem _ hx))
    exact this.mono (Nat.le_refl _) (Nat.le_refl _) (by rw [List.length_cons]; omega)
theorem ints_data : ∀ ws : List Int, PyData.hasDictAll (ws.map .int) = false ∧ PyData.canLayAll0 (ws.map .int) = true ∧ PyData.depthAll (ws.map .int) = 0
  | [] => ⟨rfl, rfl, rfl⟩
  | w :: ws => by
    obtain ⟨h1, h2, h3⟩ := ints_data ws
    refine ⟨?_, ?_, ?_⟩
    · show (PyData.hasDict (.int w) || PyData.hasDictAll (ws.map .int)) = false
      rw [h1]; rfl
    · show (PyData.canLay0 (.int w) && PyData.canLayAll0 (ws.map .int)) = true
      rw [h2]; rfl
    · show max (PyData.depth (.int w)) (PyData.depthAll (ws.map .int)) = 0
      rw [h3]; rfl
theorem lst_cat {xs ys : List V} {p q : Addr} {H : Hp} {Q : VK} (e : H p = some (.lst xs)) (e2 : H q = some (.tup ys)) (z : xs.length + ys.length ≤ sizeLine) (k : ∀ r H', Same H H' → H' r = some (.lst (xs ++ ys)) → Q (.ref r) H') :
    ∃ p_2 ys', [V.ref q] = [V.ref p_2] ∧ H p_2 = some (.tup ys') ∧ ∀ l, H l = none → rCat (.ref p) (.ref l) (upd H l (.lst ys')) Q := by
  refine ⟨q, ys, rfl, e2, fun l hl => ?_⟩
  have s1 := same_new hl (HO.lst ys)
  refine ⟨p, l, xs, ys, rfl, rfl, s1 _ _ e, upd_same, z, fun r hr => ?_⟩
  exact k r _ (s1.trans (same_new hr _)) upd_same
theorem take_snoc {α : Type} {l : List α} {i : Nat} {c : α} (h : l[i]? = some c) : l.take (i + 1) = l.take i ++ [c] := by
  obtain ⟨hi, e⟩ := List.getElem?_eq_some_iff.mp h
  rw [List.take_succ_eq_append_getElem hi, e]
theorem SX.same {p : Addr} {H H' : Hp} (hp : H p = none) (s : SX p H H') : Same H H' := fun b o h => by
  have hb : b ≠ p := fun z => by rw [z, hp] at h; cases h
  exact s.get hb h
theorem pick_strs {ts : List Str} {i : Int} (h0 : 0 ≤ i) (h1 : i < ts.length) : ∃ t, t ∈ ts ∧ atI (ts.map V.str) i = some (.str t) := by
  have hi : i.toNat < ts.length := by omega
  refine ⟨ts[i.toNat], List.getElem_mem hi, ?_⟩
  have := atI_nat (xs := ts.map V.str) (j := i.toNat) (v := .str ts[i.toNat]) (by rw [List.getElem?_map, List.getElem?_eq_getElem hi]; rfl)
  rwa [show ((i.toNat : Nat) : Int) = i by omega] at this
theorem pick_ints {ts : List Int} {i : Int} (h0 : 0 ≤ i) (h1 : i < ts.length) : ∃ t, t ∈ ts ∧ atI (ts.map V.int) i = some (.int t) := by
  have hi : i.toNat < ts.length := by omega
  refine ⟨ts[i.toNat], List.getElem_mem hi, ?_⟩
  have := atI_nat (xs := ts.map V.int) (j := i.toNat) (v := .int ts[i.toNat]) (by rw [List.getElem?_map, List.getElem?_eq_getElem hi]; rfl)
  rwa [show ((i.toNat : Nat) : Int) = i by omega] at this

def tSeqO (a b : TS) : TS := tSeq a b
theorem seqOa (i : Nat) {e : TE} {b : TS} : tSeq (tAsg e (gName i)) b = tSeqO (tAsg e (gName i)) b := rfl
theorem seqOr {c : TT} {b : TS} : tSeq (tIfS c (tRet (tC (V.bl false))) tNext) b = tSeqO (tIfS c (tRet (tC (V.bl false))) tNext) b := rfl
theorem seqOi {c : TT} {x y b : TS} : tSeq (tIfS c x y) b = tSeqO (tIfS c x y) b := rfl
theorem tSeqO.of {a b : TS} {D : Ends} {σ : St} {H : Hp} (R : St → Hp → Prop) (hR : ∀ σ' H', R σ' H' → b D σ' H') (h : ∀ N : St → Hp → Prop, (∀ σ' H', R σ' H' → N σ' H') → a { D with nx := N } σ H) : tSeqO a b D σ H := h _ hR
theorem tSeqO.on {a b : TS} {D : Ends} {σ : St} {H : Hp} (hR : ∀ H', Same H H' → b D σ H') (h : ∀ N : St → Hp → Prop, (∀ H', Same H H' → N σ H') → a { D with nx := N } σ H) : tSeqO a b D σ H :=
  tSeqO.of (fun σ' H' => σ' = σ ∧ Same H H') (fun σ' H' z => by rw [z.1]; exact hR H' z.2) fun N hN => h N fun H' s => hN _ _ ⟨rfl, s⟩
theorem len3 {α : Type} {l : List α} (h : l.length = 3) : ∃ a b c, l = [a, b, c] := by
  match l, h with
  | [a, b, c], _ => exact ⟨a, b, c, rfl⟩
theorem len5 {α : Type} {l : List α} (h : l.length = 5) : ∃ a b c d e, l = [a, b, c, d, e] := by
  match l, h with
  | [a, b, c, d, e], _ => exact ⟨a, b, c, d, e, rfl⟩
theorem len7 {α : Type} {l : List α} (h : l.length = 7) : ∃ a b c d e f g, l = [a, b, c, d, e, f, g] := by
  match l, h with
  | [a, b, c, d, e, f, g], _ => exact ⟨a, b, c, d, e, f, g, rfl⟩
theorem Same.updN {H H' : Hp} {p : Addr} {o : HO} (s : Same H H') (hp : H p = none) : Same H (upd H' p o) := fun b u h => by rw [upd_ne (ne_of_none h hp)]; exact s _ _ h
theorem cut_mid {xs : List V} {l h : Nat} (lh : l ≤ h) (hx : h ≤ xs.length) : cutV xs (some (l : Int)) (some (h : Int)) = (xs.take h).drop l := by
  unfold cutV
  rw [HT.sIx_nat, HT.sIx_nat, Nat.min_eq_left hx, Nat.min_eq_left (by omega), List.drop_take]
def isLst : PyData → Bool
  | .list _ => true
  | _ => false
theorem kit_lst (K : PySem.W.Frag) (d : PyData) : PySem.W.kitOne K (.type (tyD d)) (.type "list") = some (isLst d) := by cases d <;> kernel_rfl
theorem isi_lst {X : Cx} : CallR X (.builtin "isinstance") (rIsi "list" isLst) := isi_of kit_lst
theorem noLAll_get {ds : List PyData} (h : noLAll ds = true) {i : Nat} {d : PyData} (e : ds[i]? = some d) : noL d = true := noLAll_iff.mp h d (List.mem_of_getElem? e)
/-- a comprehension over a list, each of its things told a thing without lists -/
theorem comp_LV {K : PySem.W.Frag} {js : List Nat} {a : Addr} {xs : List V} {es : List PyData} {tl te : TE} {σ : St} {H : Hp} {Q : VK} (hl : ∀ R : VK, R (.ref a) H → tl σ H R) (ha : H a = some (.lst xs)) (hn : es.length = xs.length) (hz : es.length ≤ sizeLine) (hL : noLAll es = true)
    (step : ∀ (i : Nat) x e H', xs[i]? = some x → es[i]? = some e → Same H H' → ∀ R : VK, (∀ v H'', Same H' H'' → At H'' e v → R v H'') → te (some x :: capS js σ) H' R)
    (fin : ∀ acc ys H', Same H H' → H acc = none → H' acc = some (.lst ys) → AtAll (hid acc H') es ys → Q (.ref acc) H') : tComp js (iList K tl) te σ H Q := by
  refine hl _ ⟨a, rfl, ⟨xs, SqL.of ha⟩, fun acc hacc => ?_⟩
  refine ⟨fun i m ys H2 => m = es.length - i ∧ i ≤ es.length ∧ AtAll (hid acc H2) (es.take i) ys ∧ Same H H2 ∧ H2 acc = some (.lst ys), ⟨_, rfl, Nat.zero_le _, AtAll.nil, same_new hacc _, upd_same⟩, ?_⟩
  rintro i m ys H2 ⟨rfl, hi, hA, sm, hy⟩
  have ht : SqL K H2 a xs := SqL.of (sm _ _ ha)
  by_cases hlt : i < es.length
  · refine .inr ⟨⟨xs, xs[i]'(by omega), ht, List.getElem?_eq_getElem (by omega)⟩, fun x H3 y => ?_⟩
    obtain ⟨e, y⟩ := y
    subst e
    have e1 : es[i]? = some es[i] := List.getElem?_eq_getElem hlt
    refine step i x _ _ (y xs ht) e1 sm _ fun v H4 s4 a4 => ⟨s4 _ _ hy, ?_, es.length - (i + 1), by omega, rfl, hlt, ?_, ?_, upd_same⟩
    · rw [hA.length, List.length_take]; omega
    · rw [hid_upd, List.take_succ, e1]
      exact AtAll.append (hA.mono (Same.hid s4)) (AtAll.cons (At.hidL (s4 _ _ hy) _ _ (noLAll_get hL e1) a4) AtAll.nil)
    · refine fun b o q => ?_
      have nb : b ≠ acc := ne_of_none q hacc
      rw [upd_ne nb]
      exact s4 _ _ (sm _ _ q)
  · have e : i = es.length := by omega
    subst e
    rw [List.take_length] at hA
    exact .inl ⟨⟨xs, ht, by omega⟩, fin _ _ _ sm hacc hy hA⟩
end L2
namespace L2
open PySem PySem.Spec PyProof.Rows
/-! ### min of a list of numbers, at least one -/
def minI : Int → List Int → Int
  | b, [] => b
  | b, x :: l => minI (if x < b then x else b) l
theorem minI_snoc : ∀ (l : List Int) (b x : Int), minI b (l ++ [x]) = if x < minI b l then x else minI b l
  | [], b, x => rfl
  | y :: l, b, x => by
    show minI (if y < b then y else b) (l ++ [x]) = _
    rw [minI_snoc l]; rfl
theorem arg_min (val : Nat → Int) : ∀ k, val (argBest (fun i j => decide (val i < val j)) k) = minI (val 0) ((List.range k).map fun i => val (i + 1))
  | 0 => rfl
  | k + 1 => by
    have ih := arg_min val k
    rw [List.range_succ, List.map_append]
    show val (if decide (val (k + 1) < val (argBest _ k)) = true then k + 1 else argBest _ k) = minI (val 0) (_ ++ [val (k + 1)])
    rw [minI_snoc, ← ih]
    by_cases h : val (k + 1) < val (argBest (fun i j => decide (val i < val j)) k)
    · rw [if_pos (decide_eq_true h), if_pos h]
    · rw [if_neg (by rw [decide_eq_false h]; decide), if_neg h]
theorem minI_ge : ∀ {l : List Int} {b m : Int}, m ≤ b → (∀ x ∈ l, m ≤ x) → m ≤ minI b l
  | [], _, _, h, _ => h
  | x :: l, b, m, h, h2 => minI_ge (l := l) (by have := h2 x List.mem_cons_self; split <;> omega) fun y hy => h2 y (List.mem_cons_of_mem _ hy)
section
variable {X : Cx}
theorem call_minL (hc : X.calm = true) : CallR X (.builtin "min") (fun vs H Q => ∃ (p : Addr) (b : Int) (r : List Int), vs = [.ref p] ∧ H p = some (.lst ((b :: r).map V.int)) ∧ Q (.int (minI b r)) H) := by
  refine .mk ?_
  intro pins s σ H vs us Q I r h
  obtain ⟨p, b, rs, rfl, hp, q⟩ := h
  obtain ⟨u, rfl, ru⟩ := r.one
  cases ru
  obtain ⟨_, its, n, rv, e⟩ := I.hok p _ hp
  obtain ⟨e1, e2⟩ := ints_items rv
  have hl : s.heap.IsList p (intItems (its.map pairOf).toArray) := by rw [← e1]; exact ⟨_, e, rfl, n, rfl⟩
  have hlen := rv.length
  rw [List.length_map] at hlen
  have na : ∀ i, numAt (its.map pairOf).toArray i = (b :: rs).getD i 0 := fun i => by
    unfold numAt
    rw [← e2, List.getD_eq_getElem?_getD]
    simp
    rfl
  refine min_intList (I.ok.hd hc) hl (by simp; rw [← hlen]; simp) fun v h' tk hv k => ?_
  obtain ⟨t, rfl⟩ := intItems_at hv
  refine ⟨.int (minI b rs), H, I.kept (t' := tk) k, ⟨t, ?_⟩, q⟩
  have := arg_min (numAt (its.map pairOf).toArray) ((its.map pairOf).toArray.size - 1)
  rw [this]
  congr 1
  have sz : (its.map pairOf).toArray.size - 1 = rs.length := by simp; rw [← hlen]; simp
  rw [sz, na 0]
  show minI b _ = _
  congr 1
  apply List.ext_getElem
  · simp
  · intro i h1 h2
    simp at h1 h2
    rw [List.getElem_map, List.getElem_range, na (i + 1)]
    simp [List.getD_eq_getElem?_getD, h2]
end
end L2
namespace K13
open PySem L2
def top (i : Nat) : Stmt := PySem.Challenge.pw_waithands_k13_rising_loads.main.body.getD i (.Pass ⟨0, 0, 0, 0⟩)
abbrev s_wish : Stmt := top 6
abbrev s_rule_wish : Stmt := top 7
abbrev s_row_says : Stmt := top 8
abbrev s_hands_of : Stmt := top 12
abbrev s_beat : Stmt := top 14
abbrev s_since_and_look : Stmt := top 15
abbrev s_change_of : Stmt := top 16
abbrev s_with_change : Stmt := top 17
abbrev s_sent_home : Stmt := top 18
abbrev s_l_tape : Stmt := top 23
abbrev s_l_draw : Stmt := top 24
abbrev s_l_post : Stmt := top 26
abbrev s_l_load : Stmt := top 27
abbrev s_first_stand : Stmt := top 11
abbrev s_played : Stmt := top 20
abbrev s_after : Stmt := top 21
abbrev s_law : Stmt := top 28
structure Bi (mg : Str → Option Value) : Prop where
  int : mg "int" = none
  tuple : mg "tuple" = none
  len : mg "len" = none
  sum : mg "sum" = none
  range : mg "range" = none
  abs : mg "abs" = none
  min : mg "min" = none
  max : mg "max" = none
  list : mg "list" = none
  reversed : mg "reversed" = none
  enumerate : mg "enumerate" = none
structure Co (K : PySem.W.Frag) (mg : Str → Option Value) : Prop where
  WHATS : GT2 K mg "WHATS" whats
  OVER : Gs mg "OVER" "over"
  UNDER : Gs mg "UNDER" "under"
  EACH : Gs mg "EACH" "each"
  TRIPLES_SEEN : Gi mg "TRIPLES_SEEN" 3
local macro_rules | `(tactic| walk_at "rd") => `(tactic| simp only [L2.start, List.map_cons, List.map_nil, List.length_cons, List.length_nil, Nat.reduceAdd, Nat.reduceSub, List.replicate, List.cons_append, List.nil_append, List.append_nil,
  tSeq, tIfS, tRet, tRetN, tNext, tAsg, gName, tDrop, rd_var0, rd_varS, rd_gcons, rd_gnil, if_true, if_false, Bool.false_eq_true, Bool.not_true, Bool.not_false, rd_set0, rd_setS, rd_eqI, rd_neI, rd_eqS, rd_neS, rd_argI, rd_argB, rd_argII, rd_test, rd_int, rd_ii, tC, tOp, tUn, rI0, rI, rU, tTest, tAnd, tOr, tNot, tAndV, tOrV, tNotV, tIf, tCall, tCB, tCons, tNil, tB, tChain, tSl, tNoPart, tPart, gSub, tPar, tLst, tTup, tLstW, tTupW, tBM, tMaxD, tGT2])
section
variable {P : Program} {w : World} {K : PySem.W.Frag} {mg : Str → Option Value} {base : Heap} {f : Addr} {fd : FuncData} {k : Nat}

theorem op_fdivB {X : Cx} : OpR X (binaryOp .FloorDiv) (rI (fun _ j => 0 < j ∧ j < 10 ^ 60) fun i j => .int (i / j)) := opI fun i j _ _ _ _ _ hc q => by
  have h1 : (0 : Int) < j := hc.1
  have h2 : j < 10 ^ 60 := hc.2
  refine PyProof.Rows.floordiv_int (by omega) (by rw [Int.fdiv_eq_ediv_of_nonneg i (by omega)]; exact q) (.inl (PyProof.noPylong_of_log2 ?_))
  have : j.natAbs < 10 ^ 60 := by omega
  by_cases z : j.natAbs = 0
  · omega
  · have h3 : j.natAbs < 2 ^ 1000 := Nat.lt_trans this (by decide +kernel)
    have := (Nat.log2_lt z).mpr h3
    omega
structure RowT where
  w : Str
  s : Nat
  g : Str
  n : Int
  t : Int
def rowP (r : RowT) : PyData := .tuple [.str r.w, .int r.s, .str r.g, .int r.n, .int r.t]
def ruleP (rs : List RowT) : PyData := .tuple (rs.map rowP)
def rulesP (rss : List (List RowT)) : PyData := .tuple (rss.map ruleP)
structure RowIs (r : RowT) : Prop where
  w : r.w ∈ (["come", "done", "wait"] : List Str)
  s : 1 ≤ r.s ∧ r.s ≤ 4
  n : 0 ≤ r.n ∧ r.n ≤ 1000000000000
  e : r.g = "each" → 1 ≤ r.n
def triD (l : List Int) : PyData := .tuple (l.map .int)
def trsD (trs : List (List Int)) : PyData := .tuple (trs.map triD)
structure Newest (trs : List (List Int)) : Prop where
  n : trs.length = 4
  l : ∀ x ∈ trs, x.length = 3
def totOf (w : Str) (s : Nat) (trs : List (List Int)) : Int := ((trs.take s).map fun l => l.getD (whatIx w) 0).sum
def says (r : RowT) (h : Int) (trs : List (List Int)) : Option Int :=
  if r.g = "each" then some ((totOf r.w r.s trs + r.n * r.s - 1) / (r.n * r.s))
  else if (r.g = "over" ∧ totOf r.w r.s trs > r.n * r.s) ∨ (r.g = "under" ∧ totOf r.w r.s trs < r.n * r.s) then some (h + r.t) else none
def saidV : Option Int → V
  | none => .non
  | some i => .int i
def rwish (h : Int) (trs : List (List Int)) : List RowT → Int
  | [] => h
  | r :: rs => match says r h trs with
    | some i => i
    | none => rwish h trs rs
def topOf (h : Int) : List Int → Int
  | [] => h
  | b :: r => maxI b r
def wishI (rss : List (List RowT)) (l m h : Int) (trs : List (List Int)) : Int :=
  let x := topOf h (rss.map (rwish h trs))
  let y := if l > x then l else x
  if m < y then m else y
theorem whatIx_lt (w : Str) : whatIx w < 3 := by
  unfold whatIx
  split
  · decide
  · split <;> decide
theorem tup_ats {H : Hp} {ds : List PyData} {v : V} (h : At H (.tuple ds) v) : ∃ a xs, v = .ref a ∧ H a = some (.tup xs) ∧ AtAll H ds xs := by unfold At at h; exact h
theorem AtAll.uncons {H : Hp} {d : PyData} {ds : List PyData} {xs : List V} (h : AtAll H (d :: ds) xs) : ∃ x r, xs = x :: r ∧ At H d x ∧ AtAll H ds r := by unfold AtAll at h; exact h
theorem AtAll.unnil {H : Hp} {xs : List V} (h : AtAll H [] xs) : xs = [] := by unfold AtAll at h; exact h
theorem ats_back {G : Hp} : ∀ {cs : List Int} {xs : List V}, AtAll G (cs.map PyData.int) xs → xs = cs.map V.int
  | [], xs, h => by unfold AtAll at h; exact h
  | c :: cs, xs, h => by
    obtain ⟨x, r, rfl, h1, h2⟩ := AtAll.uncons h
    unfold At at h1
    rw [h1, ats_back h2]; rfl
theorem ats_ints {H : Hp} : ∀ cs : List Int, AtAll H (cs.map .int) (cs.map V.int)
  | [] => AtAll.nil
  | c :: cs => AtAll.cons (At.int c) (ats_ints cs)
theorem row_shape {H : Hp} {r : RowT} {v : V} (h : At H (rowP r) v) : ∃ a, v = .ref a ∧ H a = some (.tup [.str r.w, .int r.s, .str r.g, .int r.n, .int r.t]) := by
  obtain ⟨a, xs, rfl, h1, h2⟩ := tup_ats h
  obtain ⟨x1, _, rfl, a1, h2⟩ := AtAll.uncons h2
  obtain ⟨x2, _, rfl, a2, h2⟩ := AtAll.uncons h2
  obtain ⟨x3, _, rfl, a3, h2⟩ := AtAll.uncons h2
  obtain ⟨x4, _, rfl, a4, h2⟩ := AtAll.uncons h2
  obtain ⟨x5, _, rfl, a5, h2⟩ := AtAll.uncons h2
  cases AtAll.unnil h2
  unfold At at a1 a2 a3 a4 a5
  subst a1 a2 a3 a4 a5
  exact ⟨a, rfl, h1⟩
/-- a comprehension over a tuple, each of its things told a number -/
theorem comp_TI {K : PySem.W.Frag} {js : List Nat} {a : Addr} {xs : List V} {ds : List PyData} {f : Nat → Int} {tl te : TE} {σ : St} {H : Hp} {Q : VK} (hl : ∀ R : VK, R (.ref a) H → tl σ H R) (ha : H a = some (.tup xs)) (hd : AtAll H ds xs) (hz : ds.length ≤ sizeLine)
    (step : ∀ (i : Nat) x d H', Same H H' → ds[i]? = some d → At H' d x → ∀ R : VK, (∀ H'', Same H' H'' → R (.int (f i)) H'') → te (some x :: capS js σ) H' R)
    (fin : ∀ acc H', Same H H' → H' acc = some (.lst (((List.range ds.length).map f).map V.int)) → Q (.ref acc) H') : tComp js (iTup K tl) te σ H Q := by
  refine hl _ ⟨a, rfl, ⟨xs, SqT.of ha⟩, fun acc hacc => ?_⟩
  have hlen := hd.length
  refine ⟨fun i m ys H2 => m = ds.length - i ∧ i ≤ ds.length ∧ ys = ((List.range i).map f).map V.int ∧ Same H H2 ∧ H2 acc = some (.lst ys), ⟨_, rfl, Nat.zero_le _, rfl, same_new hacc _, upd_same⟩, ?_⟩
  rintro i m ys H2 ⟨rfl, hi, rfl, sm, hy⟩
  have ht : SqT K H2 a xs := SqT.of (sm _ _ ha)
  by_cases hlt : i < ds.length
  · refine .inr ⟨⟨xs, xs[i]'(by omega), ht, List.getElem?_eq_getElem (by omega)⟩, fun x H3 y => ?_⟩
    obtain ⟨e, y⟩ := y
    subst e
    obtain ⟨d, e1, e2⟩ := hd.get (y xs ht)
    refine step i x d _ sm e1 (e2.mono sm) _ fun H4 s4 => ⟨s4 _ _ hy, ?_, ds.length - (i + 1), by omega, rfl, hlt, ?_, ?_, upd_same⟩
    · rw [List.length_map, List.length_map, List.length_range]; omega
    · rw [List.range_succ]; simp
    · refine fun b o q => ?_
      have nb : b ≠ acc := ne_of_none q hacc
      rw [upd_ne nb]
      exact s4 _ _ (sm _ _ q)
  · have e : i = ds.length := by omega
    subst e
    exact .inl ⟨⟨xs, ht, by omega⟩, fin _ _ sm hy⟩
def CT (K : PySem.W.Frag) (js : List Nat) (te : TE) (σ : St) (Q : VK) (x : V) (H1 : Hp) : Prop := tComp js (iTup K (fun _ H R => R x H)) te σ H1 Q
theorem tComp_tup {K : PySem.W.Frag} {js : List Nat} {tl te : TE} {σ : St} {H : Hp} {Q : VK} : tComp js (iTup K tl) te σ H Q = tl σ H (CT K js te σ Q) := rfl
def spSays : Sp := fun vs H Q _ => ∃ (v u : V) (h : Int) (r : RowT) (trs : List (List Int)), vs = [v, .int h, u] ∧ At H (rowP r) v ∧ At H (trsD trs) u ∧ RowIs r ∧ Newest trs ∧ ∀ H', Same H H' → Q (saidV (says r h trs)) H'
theorem Says.of {v u : V} {h : Int} {r : RowT} {trs : List (List Int)} {H : Hp} {Q : VK} {E : XK} (a1 : At H (rowP r) v) (a2 : At H (trsD trs) u) (h1 : RowIs r) (h2 : Newest trs) (q : ∀ H', Same H H' → Q (saidV (says r h trs)) H') : spSays ([v, .int h, u] ++ []) H Q E := ⟨v, u, h, r, trs, rfl, a1, a2, h1, h2, q⟩
theorem sum_range_tot {trs : List (List Int)} {w : Str} {s : Nat} : ((List.range (trs.take s).length).map fun i => ((trs.take s).getD i []).getD (whatIx w) 0).sum = totOf w s trs := by
  unfold totOf
  congr 1
  generalize trs.take s = l
  apply List.ext_getElem
  · simp
  · intro i h1 h2
    simp at h1 h2
    simp [List.getD_eq_getElem?_getD, h2]
theorem sc_row_says : FnScope ["row", "hands", "newest", "what", "span", "sign", "number", "step", "place", "total", "mark"] ["row", "hands", "newest"] (defScope s_row_says) := ⟨rfl, rfl, rfl, by decide +kernel, rfl, by decide +kernel, by decide +kernel⟩
theorem ok_row_says (F : Fun K "row_says" "row_says" s_row_says f fd) (B : Bi mg) (O : Co K mg) : FnOk P w K mg base CX0 (k + 1) f fd ["row", "hands", "newest"] spSays := by
  refine F.ok sc_row_says (by rintro vs H Q E ⟨v, u, h, r, trs, rfl, _⟩; rfl) (fun cdv A outer s H vs Q E hr h => ?_)
  obtain ⟨v, u, h, r, trs, rfl, a1, a2, hR, hN, q⟩ := h
  have ND := sc_row_says.nd
  refine ⟨_, (pss_cons (ps_asg (pv 0) (pg_tup rfl (pgs_cons (pg_name (i := 3) ND rfl (by first | exact Or.inl rfl | exact Or.inr rfl)) (pgs_cons (pg_name (i := 4) ND rfl (by first | exact Or.inl rfl | exact Or.inr rfl)) (pgs_cons (pg_name (i := 5) ND rfl (by first | exact Or.inl rfl | exact Or.inr rfl)) (pgs_cons (pg_name (i := 6) ND rfl (by first | exact Or.inl rfl | exact Or.inr rfl)) (pgs_cons (pg_name (i := 7) ND rfl (by first | exact Or.inl rfl | exact Or.inr rfl)) pgs_nil))))))) (pss_cons (ps_set (i := 8) ND rfl (by first | exact Or.inl rfl | exact Or.inr rfl) (pe_bm PySem.F.plainAttrs_tuple PySem.F.slot_tuple_index PySem.F.type_tuple_index (mt_tindex (K := K) rfl) (pglobT2 (K := K) rfl O.WHATS) (pa_c (pv 3) pa_nil))) (pss_cons (ps_set (i := 9) ND rfl (by first | exact Or.inl rfl | exact Or.inr rfl) (pb (call_sumI rfl) B.sum bt_sum (pa_c (pe_comp (N' := ["triple", "place"]) (js := [8]) rfl (pi_tup (pe_slice sl_tupW (pv 2) po_none (po_some (pv 4)))) CSc.mk1 rfl (by decide) rfl (fun fp s' H' => (pe_ix ix_obj (pv 0) (pv 1) (fun _ _ => rfl)))) pa_nil))) (pss_cons (ps_set (i := 10) ND rfl (by first | exact Or.inl rfl | exact Or.inr rfl) (pe_op op_mul (pv 6) (pv 4))) (pss_cons (ps_if (pt_cmpR op_eq (pv 5) (pglobS O.EACH) (nomark _)) (pss_one (ps_ret (pe_op op_fdivB (pe_op op_sub (pe_op op_add (pv 9) (pv 10)) pe_int) (pv 10)))) pss_nil) (pss_cons (ps_if (PW.pt (pw_or (PW.pt (pw_and (pt_cmpR op_eq (pv 5) (pglobS O.OVER) (nomark _)) (pw_and1 (pt_cmpR op_gt (pv 9) (pv 10) (nomark _))))) (pw_or1 (PW.pt (pw_and (pt_cmpR op_eq (pv 5) (pglobS O.UNDER) (nomark _)) (pw_and1 (pt_cmpR op_lt (pv 9) (pv 10) (nomark _)))))))) (pss_one (ps_ret (pe_op op_add (pv 1) (pv 7)))) pss_nil) (pss_one (ps_ret pe_non)))))))), ?_⟩
  obtain ⟨a, rfl, h1⟩ := row_shape a1
  obtain ⟨b, xs, rfl, h2, h3⟩ := tup_ats a2
  walk_at "rd"
  refine ⟨a, _, rfl, SqT.of h1, rfl, ?_⟩
  walk_at "rd"
  intro aw ho hw
  refine ⟨.inr (.inl ⟨rfl, ho⟩), aw, r.w, rfl, hw _, rfl, hR.w, ?_⟩
  show tComp _ _ _ _ _ _
  rw [tComp_tup]
  walk_at "rd"
  refine ⟨b, xs, rfl, h2, fun p H1 s1 e1 => ?_⟩
  rw [cut_to (by omega), Int.toNat_natCast] at e1
  have h3' : AtAll H1 ((trs.take r.s).map triD) (xs.take r.s) := by rw [List.map_take]; exact (h3.take r.s).mono s1
  have hs4 := hR.s
  have htl : (trs.take r.s).length ≤ 4 := by rw [List.length_take]; omega
  refine comp_TI (a := p) (f := fun i => ((trs.take r.s).getD i []).getD (whatIx r.w) 0) (fun R hR => hR) e1 h3' (Nat.le_of_lt (small1000 (by rw [List.length_map]; omega))) (fun i x d H' s' ed hx R hR' => ?_) (fun acc H' s' hl => ?_)
  · rw [List.getElem?_map] at ed
    obtain ⟨l, el, rfl⟩ := Option.map_eq_some_iff.mp ed
    have l3 : l.length = 3 := hN.l l (List.mem_of_mem_take (List.mem_of_getElem? el))
    obtain ⟨c, ys, rfl, g1, g2⟩ := tup_ats hx
    cases ats_back g2
    show tOp _ _ _ [some _, some (.int (whatIx r.w : Nat))] H' R
    walk_at "rd"
    have hw := whatIx_lt r.w
    refine Ix.tup g1 (v := .int (l.getD (whatIx r.w) 0)) (atI_nat (by rw [List.getElem?_map, List.getElem?_eq_getElem (by omega), List.getD_eq_getElem?_getD, List.getElem?_eq_getElem (by omega)]; rfl)) ?_
    have := hR' H' (Same.refl H')
    have eg : (trs.take r.s).getD i [] = l := by rw [List.getD_eq_getElem?_getD, el]; rfl
    rw [eg] at this
    exact this
  · have sm := s1.trans s'
    rw [List.length_map] at hl
    refine ⟨acc, _, rfl, .inl hl, .inl (by have := hR.n; omega), ?_⟩
    rw [sum_range_tot]
    have q1 := q H' sm
    unfold says at q1
    refine and_if (fun c1 => ?_) (fun c1 => ?_)
    · have c1' := of_decide_eq_true c1
      rw [if_pos c1'] at q1
      have h1n := hR.e c1'
      have hpos : 0 < r.n * (r.s : Int) := Int.mul_pos (by omega) (by omega)
      have hup : r.n * (r.s : Int) ≤ 1000000000000 * 4 := Int.mul_le_mul hR.n.2 (by omega) (by omega) (by decide)
      exact ⟨⟨hpos, Int.lt_of_le_of_lt hup (by decide)⟩, q1⟩
    · have c1' := of_decide_eq_false c1
      rw [if_neg c1'] at q1
      generalize totOf r.w r.s trs = tot at q1 ⊢
      generalize r.n * (r.s : Int) = mark at q1 ⊢
      by_cases o1 : r.g = "over"
      · have u1 : ¬ r.g = "under" := by rw [o1]; decide +kernel
        rw [decide_eq_true o1, if_pos rfl]
        by_cases o2 : mark < tot
        · rw [decide_eq_true o2, if_pos rfl]
          rw [if_pos (.inl ⟨o1, o2⟩)] at q1; exact q1
        · rw [decide_eq_false o2, if_neg (by decide), decide_eq_false u1, if_neg (by decide)]
          rw [if_neg (fun z => by rcases z with z | z; exact o2 z.2; exact u1 z.1)] at q1; exact q1
      · rw [decide_eq_false o1, if_neg (by decide)]
        by_cases u1 : r.g = "under"
        · rw [decide_eq_true u1, if_pos rfl]
          by_cases o2 : tot < mark
          · rw [decide_eq_true o2, if_pos rfl]
            rw [if_pos (.inr ⟨u1, o2⟩)] at q1; exact q1
          · rw [decide_eq_false o2, if_neg (by decide)]
            rw [if_neg (fun z => by rcases z with z | z; exact o1 z.1; exact o2 z.2)] at q1; exact q1
        · rw [decide_eq_false u1, if_neg (by decide)]
          rw [if_neg (fun z => by rcases z with z | z; exact o1 z.1; exact u1 z.1)] at q1; exact q1
end
end K13
namespace K13
open PySem L2
local macro_rules | `(tactic| walk_at "rd") => `(tactic| simp only [L2.start, List.map_cons, List.map_nil, List.length_cons, List.length_nil, Nat.reduceAdd, Nat.reduceSub, List.replicate, List.cons_append, List.nil_append, List.append_nil,
  tSeq, tIfS, tRet, tRetN, tNext, tAsg, gName, tDrop, rd_var0, rd_varS, rd_gcons, rd_gnil, if_true, if_false, Bool.false_eq_true, Bool.not_true, Bool.not_false, rd_set0, rd_setS, rd_eqI, rd_neI, rd_eqS, rd_neS, rd_argI, rd_argB, rd_argII, rd_test, rd_int, rd_ii, tC, tOp, tUn, rI0, rI, rU, tTest, tAnd, tOr, tNot, tAndV, tOrV, tNotV, tIf, tCall, tCB, tCons, tNil, tB, tChain, tSl, tNoPart, tPart, gSub, tPar, tLst, tTup, tLstW, tTupW, tBM, tMaxD, tGT2])
section
variable {P : Program} {w : World} {K : PySem.W.Frag} {mg : Str → Option Value} {base : Heap} {f : Addr} {fd : FuncData} {k : Nat}


def spRw : Sp := fun vs H Q _ => ∃ (v u : V) (h : Int) (rs : List RowT) (trs : List (List Int)), vs = [v, .int h, u] ∧ At H (ruleP rs) v ∧ At H (trsD trs) u ∧ (∀ r ∈ rs, RowIs r) ∧ Newest trs ∧ ∀ H', Same H H' → Q (.int (rwish h trs rs)) H'
theorem Rw.of {v u : V} {h : Int} {rs : List RowT} {trs : List (List Int)} {H : Hp} {Q : VK} {E : XK} (a1 : At H (ruleP rs) v) (a2 : At H (trsD trs) u) (h1 : ∀ r ∈ rs, RowIs r) (h2 : Newest trs) (q : ∀ H', Same H H' → Q (.int (rwish h trs rs)) H') : spRw ([v, .int h, u] ++ []) H Q E := ⟨v, u, h, rs, trs, rfl, a1, a2, h1, h2, q⟩
theorem sc_rule_wish : FnScope ["rule", "hands", "newest", "row", "said"] ["rule", "hands", "newest"] (defScope s_rule_wish) := ⟨rfl, rfl, rfl, by decide +kernel, rfl, by decide +kernel, by decide +kernel⟩
theorem ok_rule_wish (F : Fun K "rule_wish" "rule_wish" s_rule_wish f fd) (c_row_says : Ct P w K mg base k "row_says" ["row", "hands", "newest"] spSays) : FnOk P w K mg base CX0 (k + 1) f fd ["rule", "hands", "newest"] spRw := by
  refine F.ok sc_rule_wish (by rintro vs H Q E ⟨v, u, h, r, trs, rfl, _⟩; rfl) (fun cdv A outer s H vs Q E hr h => ?_)
  obtain ⟨v, u, h, rs, trs, rfl, a1, a2, hR, hN, q⟩ := h
  have ND := sc_rule_wish.nd
  refine ⟨_, (pss_cons (ps_for PassesOwn.never rfl (pi_tup (pv 0)) (pg_name (i := 3) ND rfl (by first | exact Or.inl rfl | exact Or.inr rfl)) (pss_cons (ps_set (i := 4) ND rfl (by first | exact Or.inl rfl | exact Or.inr rfl) (pf c_row_says hr (pa_c (pv 3) (pa_c (pv 1) (pa_c (pv 2) pa_nil))))) (pss_one (ps_if (pt_cmpR op_notN (pv 4) pe_non (nomark _)) (pss_one (ps_ret (pv 4))) pss_nil)))) (pss_one (ps_ret (pv 1)))), ?_⟩
  obtain ⟨a, xs, rfl, h1, h2⟩ := tup_ats a1
  have hlen := h2.length
  rw [List.length_map] at hlen
  walk_at "rd"
  rw [tFor_tup]
  walk_at "rd"
  refine TK.of h1 (fun n σ H' => ∃ o1 o2, σ = [some (.ref a), some (.int h), some u, o1, o2] ∧ Same H H' ∧ rwish h trs (rs.drop n) = rwish h trs rs) ⟨_, _, rfl, Same.refl H, rfl⟩ (fun n σ H' _ ⟨o1, o2, _, sm, _⟩ => sm _ _ h1) ?_ ?_
  · rintro n x σ H1 hx ⟨o1, o2, rfl, sm, e⟩
    obtain ⟨d, e1, e2⟩ := h2.get hx
    rw [List.getElem?_map] at e1
    obtain ⟨r, er, rfl⟩ := Option.map_eq_some_iff.mp e1
    have hn : n < rs.length := by
      obtain ⟨z, _⟩ := List.getElem?_eq_some_iff.mp er; exact z
    have ed : rs.drop n = r :: rs.drop (n + 1) := by
      rw [List.drop_eq_getElem_cons hn]
      obtain ⟨z, ez⟩ := List.getElem?_eq_some_iff.mp er
      rw [ez]
    rw [ed, rwish] at e
    walk_at "rd"
    refine Says.of (e2.mono sm) (a2.mono sm) (hR r (List.mem_of_getElem? er)) hN fun H2 s2 => ?_
    have s2 := sm.trans s2
    cases es : says r h trs with
    | none =>
      rw [es] at e
      refine ⟨trivial, ?_⟩
      exact ⟨_, _, rfl, s2, e⟩
    | some i =>
      rw [es] at e
      refine ⟨trivial, ?_⟩
      have e : i = rwish h trs rs := e
      show Q (.int i) H2
      rw [e]; exact q H2 s2
  · rintro σ H1 ⟨o1, o2, rfl, sm, e⟩
    walk_at "rd"
    rw [hlen, List.drop_length] at e
    have e : h = rwish h trs rs := e
    rw [e]
    have := q H1 sm
    rw [← e] at this ⊢
    exact this
def postP (d0 d1 d3 d4 d5 : PyData) (l m : Int) (rss : List (List RowT)) : PyData := .tuple [d0, d1, .tuple [.int l, .int m], d3, d4, d5, rulesP rss]
def spWish : Sp := fun vs H Q _ => ∃ (v u : V) (h l m : Int) (d0 d1 d3 d4 d5 : PyData) (rss : List (List RowT)) (trs : List (List Int)), vs = [v, .int h, u] ∧ At H (postP d0 d1 d3 d4 d5 l m rss) v ∧ At H (trsD trs) u ∧ (∀ rs ∈ rss, ∀ r ∈ rs, RowIs r) ∧ rss.length ≤ 100 ∧ Newest trs ∧
  ∀ H', Same H H' → Q (.int (wishI rss l m h trs)) H'
theorem sc_wish : FnScope ["post", "hands", "newest", "least", "most", "wishes", "wished"] ["post", "hands", "newest"] (defScope s_wish) := ⟨rfl, rfl, rfl, by decide +kernel, rfl, by decide +kernel, by decide +kernel⟩
theorem ok_wish (F : Fun K "wish" "wish" s_wish f fd) (B : Bi mg) (c_rule_wish : Ct P w K mg base k "rule_wish" ["rule", "hands", "newest"] spRw) : FnOk P w K mg base CX0 (k + 1) f fd ["post", "hands", "newest"] spWish := by
  refine F.ok sc_wish (by rintro vs H Q E ⟨v, u, h, l, m, d0, d1, d3, d4, d5, rss, trs, rfl, _⟩; rfl) (fun cdv A outer s H vs Q E hr h => ?_)
  obtain ⟨v, u, h, l, m, d0, d1, d3, d4, d5, rss, trs, rfl, a1, a2, hR, hn, hN, q⟩ := h
  have ND := sc_wish.nd
  refine ⟨_, (pss_cons (ps_asg (pe_ix ix_obj (pv 0) pe_int (fun _ _ => rfl)) (pg_tup rfl (pgs_cons (pg_name (i := 3) ND rfl (by first | exact Or.inl rfl | exact Or.inr rfl)) (pgs_cons (pg_name (i := 4) ND rfl (by first | exact Or.inl rfl | exact Or.inr rfl)) pgs_nil)))) (pss_cons (ps_comp (i := 5) ND rfl (by first | exact Or.inl rfl | exact Or.inr rfl) (N' := ["rule", "hands", "newest"]) (js := [1, 2]) rfl (pi_tup (pe_ix ix_obj (pv 0) pe_int (fun _ _ => rfl))) CSc.mk2 rfl (by decide) rfl (fun fp s' H' => (pf c_rule_wish hr (pa_c (pv 0) (pa_c (pv 1) (pa_c (pv 2) pa_nil)))))) (pss_cons (ps_set (i := 6) ND rfl (by first | exact Or.inl rfl | exact Or.inr rfl) (pe_maxD rfl B.max (pa_c (pv 5) pa_nil) (pv 1))) (pss_one (ps_ret (pb (call_min2 rfl) B.min bt_min (pa_c (pb (call_max2 rfl) B.max bt_max (pa_c (pv 6) (pa_c (pv 3) pa_nil))) (pa_c (pv 4) pa_nil)))))))), ?_⟩
  obtain ⟨a, xs, rfl, h1, h2⟩ := tup_ats a1
  obtain ⟨x0, _, rfl, b0, h2⟩ := AtAll.uncons h2
  obtain ⟨x1, _, rfl, b1, h2⟩ := AtAll.uncons h2
  obtain ⟨x2, _, rfl, b2, h2⟩ := AtAll.uncons h2
  obtain ⟨x3, _, rfl, b3, h2⟩ := AtAll.uncons h2
  obtain ⟨x4, _, rfl, b4, h2⟩ := AtAll.uncons h2
  obtain ⟨x5, _, rfl, b5, h2⟩ := AtAll.uncons h2
  obtain ⟨x6, _, rfl, b6, h2⟩ := AtAll.uncons h2
  cases AtAll.unnil h2
  obtain ⟨c, ys, rfl, g1, g2⟩ := tup_ats b2
  obtain ⟨y0, _, rfl, k0, g2⟩ := AtAll.uncons g2
  obtain ⟨y1, _, rfl, k1, g2⟩ := AtAll.uncons g2
  cases AtAll.unnil g2
  unfold At at k0 k1
  subst k0 k1
  obtain ⟨e, zs, rfl, m1, m2⟩ := tup_ats b6
  walk_at "rd"
  refine Ix.tup h1 (atI_nat (j := 2) rfl) ⟨c, _, rfl, SqT.of g1, rfl, ?_⟩
  walk_at "rd"
  rw [tComp_tup]
  walk_at "rd"
  refine Ix.tup h1 (atI_nat (j := 6) rfl) ?_
  refine comp_TI (a := e) (f := fun i => rwish h trs (rss.getD i [])) (fun R hR => hR) m1 m2 (Nat.le_of_lt (small1000 (by rw [List.length_map]; omega))) (fun i x d H' s' ed hx R hR' => ?_) (fun acc H' s' hl => ?_)
  · rw [List.getElem?_map] at ed
    obtain ⟨rs, el, rfl⟩ := Option.map_eq_some_iff.mp ed
    show tCall _ _ _ _ [some x, some (.int h), some u] H' R
    walk_at "rd"
    refine Rw.of hx (a2.mono s') (hR rs (List.mem_of_getElem? el)) hN fun H2 s2 => ?_
    have := hR' H2 s2
    have eg : rss.getD i [] = rs := by rw [List.getD_eq_getElem?_getD, el]; rfl
    rw [eg] at this
    exact this
  · rw [List.length_map] at hl
    have el : (List.range rss.length).map (fun i => rwish h trs (rss.getD i [])) = rss.map (rwish h trs) := by
      apply List.ext_getElem
      · simp
      · intro i h1 h2
        simp at h1 h2
        simp [List.getD_eq_getElem?_getD, h2]
    rw [el] at hl
    have q1 := q H' s'
    unfold wishI topOf at q1
    refine ⟨acc, _, rfl, hl, fun en => ?_, fun b r er => ?_⟩
    · rw [en] at q1
      exact q1
    · rw [er] at q1
      exact q1
end
end K13
namespace K13
open PySem L2
local macro_rules | `(tactic| walk_at "rd") => `(tactic| simp only [L2.start, List.map_cons, List.map_nil, List.length_cons, List.length_nil, Nat.reduceAdd, Nat.reduceSub, List.replicate, List.cons_append, List.nil_append, List.append_nil,
  tSeq, tIfS, tRet, tRetN, tNext, tAsg, gName, tDrop, rd_var0, rd_varS, rd_gcons, rd_gnil, if_true, if_false, Bool.false_eq_true, Bool.not_true, Bool.not_false, rd_set0, rd_setS, rd_eqI, rd_neI, rd_eqS, rd_neS, rd_argI, rd_argB, rd_argII, rd_test, rd_int, rd_ii, tC, tOp, tUn, rI0, rI, rU, tTest, tAnd, tOr, tNot, tAndV, tOrV, tNotV, tIf, tCall, tCB, tCons, tNil, tB, tChain, tSl, tNoPart, tPart, gSub, tPar, tLst, tTup, tLstW, tTupW, tBM, tAug, tPar3, tAugS, ipI, tMaxD, tGT2])
section
variable {P : Program} {w : World} {K : PySem.W.Frag} {mg : Str → Option Value} {base : Heap} {f : Addr} {fd : FuncData} {k : Nat}

def spHands : Sp := fun vs H Q _ => ∃ (v x : V) (a : Addr) (r : Int) (b : Addr) (ns : List Int) (u : List V), v = .ref a ∧ vs = [v] ∧ H a = some (.tup (x :: .int r :: .ref b :: u)) ∧ H b = some (.tup (ns.map V.int)) ∧ Q (.int (r + ns.sum)) H
theorem sc_hands_of : FnScope ["stand"] ["stand"] (defScope s_hands_of) := ⟨rfl, rfl, rfl, by decide +kernel, rfl, by decide +kernel, by decide +kernel⟩
theorem ok_hands_of (F : Fun K "hands_of" "hands_of" s_hands_of f fd) (B : Bi mg) : FnOk P w K mg base CX0 (k + 1) f fd ["stand"] spHands := by
  refine F.ok sc_hands_of (by rintro vs H Q E ⟨v, x, a, r, b, ns, u, _, rfl, _⟩; rfl) (fun cdv A outer s H vs Q E hr h => ?_)
  obtain ⟨v, x, a, r, b, ns, u, rfl, rfl, h1, h2, q⟩ := h
  have ND := sc_hands_of.nd
  refine ⟨_, (pss_one (ps_ret (pe_op op_add (pe_ix ix_obj (pv 0) pe_int (fun _ _ => rfl)) (pb (call_sumI rfl) B.sum bt_sum (pa_c (pe_ix ix_obj (pv 0) pe_int (fun _ _ => rfl)) pa_nil))))), ?_⟩
  walk_at "rd"
  refine ⟨a, _, 1, _, rfl, rfl, .inr h1, atI_nat (j := 1) rfl, ?_⟩
  refine ⟨a, _, 2, _, rfl, rfl, .inr h1, atI_nat (j := 2) rfl, ?_⟩
  refine ⟨b, ns, rfl, .inr h2, ?_⟩
  exact ⟨_, _, rfl, rfl, q⟩
theorem get_list {X : Cx} : PGet X (fun o i H Q => ∃ (p : Addr) (xs : List V) (j : Nat) (v : V), o = .ref p ∧ i = .int j ∧ H p = some (.lst xs) ∧ xs[j]? = some v ∧ Q v H) := by
  intro pins s σ H o i ov iv Q I ro ri h
  obtain ⟨p, xs, j, v, rfl, rfl, hp, hv, q⟩ := h
  cases ro
  obtain ⟨t, rfl⟩ := ri
  obtain ⟨its, r, pl, hz⟩ := I.list (SqL.of (K := X.K) hp)
  obtain ⟨w, ew, rw'⟩ := r.get hv
  have hl := r.length
  have hn := line63
  have hj : j < xs.length := by obtain ⟨z, _⟩ := List.getElem?_eq_some_iff.mp hv; exact z
  exact wpAny_getItem_list pl.isList (by omega) (by omega) (by simpa using ew) ⟨v, H, I, rw', q⟩

theorem ixN_nat {n j : Nat} (h : j < n) : ixN n (j : Int) = some j := by
  unfold ixN
  rw [if_pos (by omega), if_pos (by omega), Int.toNat_natCast]
/-- a stand -/
structure Stn where
  w : Int
  r : Int
  cs : List Int
  s : Int
  t : Int
  us : List (List Int)
def stD (x : Stn) : PyData := .tuple [.int x.w, .int x.r, .tuple (x.cs.map .int), .int x.s, .int x.t, .tuple (x.us.map triD)]
structure StIs (x : Stn) : Prop where
  c : x.cs.length = 5
  u : x.us.length = 3
  l : ∀ y ∈ x.us, y.length = 3
/-- a post: pace, room, (least, most), late, every, (up, down), rules -/
structure Pst where
  p : Int
  m : Int
  lo : Int
  hi : Int
  a : Nat
  e : Int
  u : Int
  d : Int
  rss : List (List RowT)
def pstD (x : Pst) : PyData := postP (.int x.p) (.int x.m) (.int x.a) (.int x.e) (.tuple [.int x.u, .int x.d]) x.lo x.hi x.rss
structure PsIs (x : Pst) : Prop where
  a : x.a ≤ 4
  p : 0 ≤ x.p ∧ x.p ≤ 1000000
  n : x.rss.length ≤ 100
  g : ∀ rs ∈ x.rss, ∀ r ∈ rs, RowIs r
theorem pst_shape {H : Hp} {x : Pst} {v : V} (h : At H (pstD x) v) : ∃ a b c d, v = .ref a ∧ H a = some (.tup [.int x.p, .int x.m, .ref b, .int x.a, .int x.e, .ref c, .ref d]) ∧ H c = some (.tup [.int x.u, .int x.d]) := by
  obtain ⟨a, xs, rfl, h1, h2⟩ := tup_ats h
  obtain ⟨x0, _, rfl, b0, h2⟩ := AtAll.uncons h2
  obtain ⟨x1, _, rfl, b1, h2⟩ := AtAll.uncons h2
  obtain ⟨x2, _, rfl, b2, h2⟩ := AtAll.uncons h2
  obtain ⟨x3, _, rfl, b3, h2⟩ := AtAll.uncons h2
  obtain ⟨x4, _, rfl, b4, h2⟩ := AtAll.uncons h2
  obtain ⟨x5, _, rfl, b5, h2⟩ := AtAll.uncons h2
  obtain ⟨x6, _, rfl, b6, h2⟩ := AtAll.uncons h2
  cases AtAll.unnil h2
  unfold At at b0 b1 b3 b4
  subst b0 b1 b3 b4
  obtain ⟨b, ys, rfl, _, _⟩ := tup_ats b2
  obtain ⟨c, zs, rfl, g1, g2⟩ := tup_ats b5
  obtain ⟨d, ws, rfl, _, _⟩ := tup_ats b6
  obtain ⟨y0, _, rfl, k0, g2⟩ := AtAll.uncons g2
  obtain ⟨y1, _, rfl, k1, g2⟩ := AtAll.uncons g2
  cases AtAll.unnil g2
  unfold At at k0 k1
  subst k0 k1
  exact ⟨a, b, c, d, rfl, h1, g1⟩
theorem stn_shape {H : Hp} {x : Stn} {v : V} (h : At H (stD x) v) : ∃ a b c, v = .ref a ∧ H a = some (.tup [.int x.w, .int x.r, .ref b, .int x.s, .int x.t, .ref c]) ∧ H b = some (.tup (x.cs.map V.int)) ∧ At H (.tuple (x.us.map triD)) (.ref c) := by
  obtain ⟨a, xs, rfl, h1, h2⟩ := tup_ats h
  obtain ⟨x0, _, rfl, b0, h2⟩ := AtAll.uncons h2
  obtain ⟨x1, _, rfl, b1, h2⟩ := AtAll.uncons h2
  obtain ⟨x2, _, rfl, b2, h2⟩ := AtAll.uncons h2
  obtain ⟨x3, _, rfl, b3, h2⟩ := AtAll.uncons h2
  obtain ⟨x4, _, rfl, b4, h2⟩ := AtAll.uncons h2
  obtain ⟨x5, _, rfl, b5, h2⟩ := AtAll.uncons h2
  cases AtAll.unnil h2
  unfold At at b0 b1 b3 b4
  subst b0 b1 b3 b4
  obtain ⟨b, ys, rfl, g1, g2⟩ := tup_ats b2
  cases ats_back g2
  obtain ⟨c, zs, rfl, _, _⟩ := tup_ats b5
  exact ⟨a, b, c, rfl, h1, g1, b5⟩
def sinceI (e s : Int) : Int := if s + 1 < e then s + 1 else 0
def looksI (e s t : Int) : Bool := if s + 1 < e then false else decide (t = 0)
def spSince : Sp := fun vs H Q _ => ∃ (v : V) (x : Pst) (s t : Int), vs = [v, .int s, .int t] ∧ At H (pstD x) v ∧ ∀ p H', Same H H' → H' p = some (.tup [.int (sinceI x.e s), .bl (looksI x.e s t)]) → Q (.ref p) H'
theorem sc_since_and_look : FnScope ["post", "since", "rest", "every"] ["post", "since", "rest"] (defScope s_since_and_look) := ⟨rfl, rfl, rfl, by decide +kernel, rfl, by decide +kernel, by decide +kernel⟩
theorem ok_since_and_look (F : Fun K "since_and_look" "since_and_look" s_since_and_look f fd) : FnOk P w K mg base CX0 (k + 1) f fd ["post", "since", "rest"] spSince := by
  refine F.ok sc_since_and_look (by rintro vs H Q E ⟨v, x, s, t, rfl, _⟩; rfl) (fun cdv A outer s H vs Q E hr h => ?_)
  obtain ⟨v, x, sn, t, rfl, a1, q⟩ := h
  have ND := sc_since_and_look.nd
  refine ⟨_, (pss_cons (ps_set (i := 3) ND rfl (by first | exact Or.inl rfl | exact Or.inr rfl) (pe_ix ix_obj (pv 0) pe_int (fun _ _ => rfl))) (pss_cons (ps_if (pt_cmpR op_lt (pe_op op_add (pv 1) pe_int) (pv 3) (nomark _)) (pss_one (ps_ret (pe_tupW (pa_c (pe_op op_add (pv 1) pe_int) (pa_c pe_bl pa_nil))))) pss_nil) (pss_one (ps_ret (pe_tupW (pa_c pe_int (pa_c (pe_cmpR op_eq (pv 2) pe_int (nomark _)) pa_nil))))))), ?_⟩
  obtain ⟨a, b, c, d, rfl, h1, h2⟩ := pst_shape a1
  walk_at "rd"
  refine Ix.tup h1 (atI_nat (j := 4) rfl) ?_
  walk_at "rd"
  refine and_if (fun c1 => ?_) (fun c1 => ?_)
  · have c1' := of_decide_eq_true c1
    refine ⟨(by decide), fun p H1 f1 s1 e1 => q p H1 s1 ?_⟩
    unfold sinceI looksI
    rw [if_pos c1', if_pos c1']; exact e1
  · have c1' := of_decide_eq_false c1
    refine ⟨(by decide), fun p H1 f1 s1 e1 => q p H1 s1 ?_⟩
    unfold sinceI looksI
    rw [if_neg c1', if_neg c1']; exact e1
def changeI (x : Pst) (h fr : Int) (trs : List (List Int)) : Int := if fr < wishI x.rss x.lo x.hi h trs - h then fr else wishI x.rss x.lo x.hi h trs - h
def spChange : Sp := fun vs H Q _ => ∃ (v u : V) (x : Pst) (h fr : Int) (trs : List (List Int)), vs = [v, .int h, u, .int fr] ∧ At H (pstD x) v ∧ At H (trsD trs) u ∧ PsIs x ∧ Newest trs ∧ ∀ H', Same H H' → Q (.int (changeI x h fr trs)) H'
theorem sc_change_of : FnScope ["post", "hands", "newest", "free"] ["post", "hands", "newest", "free"] (defScope s_change_of) := ⟨rfl, rfl, rfl, by decide +kernel, rfl, by decide +kernel, by decide +kernel⟩
theorem ok_change_of (F : Fun K "change_of" "change_of" s_change_of f fd) (B : Bi mg) (c_wish : Ct P w K mg base k "wish" ["post", "hands", "newest"] spWish) : FnOk P w K mg base CX0 (k + 1) f fd ["post", "hands", "newest", "free"] spChange := by
  refine F.ok sc_change_of (by rintro vs H Q E ⟨v, u, x, h, fr, trs, rfl, _⟩; rfl) (fun cdv A outer s H vs Q E hr h => ?_)
  obtain ⟨v, u, x, h, fr, trs, rfl, a1, a2, hP, hN, q⟩ := h
  have ND := sc_change_of.nd
  refine ⟨_, (pss_one (ps_ret (pb (call_min2 rfl) B.min bt_min (pa_c (pe_op op_sub (pf c_wish hr (pa_c (pv 0) (pa_c (pv 1) (pa_c (pv 2) pa_nil)))) (pv 1)) (pa_c (pv 3) pa_nil))))), ?_⟩
  walk_at "rd"
  refine ⟨v, u, h, x.lo, x.hi, _, _, _, _, _, x.rss, trs, rfl, a1, a2, hP.g, hP.n, hN, fun H1 s1 => ?_⟩
  walk_at "rd"
  exact q H1 s1
/-- hands sent home, the last place first -/
def goHome : List Int → Int → List Int × Int
  | [], n => ([], n)
  | c :: cs, n => ((c - (if (goHome cs n).2 < c then (goHome cs n).2 else c)) :: (goHome cs n).1, (goHome cs n).2 - (if (goHome cs n).2 < c then (goHome cs n).2 else c))
theorem goHome_len : ∀ (cs : List Int) (n : Int), (goHome cs n).1.length = cs.length
  | [], _ => rfl
  | c :: cs, n => by rw [goHome, List.length_cons, List.length_cons, goHome_len cs n]
def spSent : Sp := fun vs H Q _ => ∃ (r n : Int) (b : Addr) (cs : List Int), vs = [.int r, .ref b, .int n] ∧ H b = some (.tup (cs.map V.int)) ∧ cs.length ≤ 100 ∧ ∀ p b' H', Same H H' → H' p = some (.tup [.int (r - (goHome cs n).2), .ref b']) → H' b' = some (.tup ((goHome cs n).1.map V.int)) → Q (.ref p) H'
theorem sc_sent_home : FnScope ["ready", "called", "many", "left", "place", "gone"] ["ready", "called", "many"] (defScope s_sent_home) := ⟨rfl, rfl, rfl, by decide +kernel, rfl, by decide +kernel, by decide +kernel⟩
theorem ok_sent_home (F : Fun K "sent_home" "sent_home" s_sent_home f fd) (B : Bi mg) : FnOk P w K mg base CX0 (k + 1) f fd ["ready", "called", "many"] spSent := by
  refine F.ok sc_sent_home (by rintro vs H Q E ⟨r, n, b, cs, rfl, _⟩; rfl) (fun cdv A outer s H vs Q E hr h => ?_)
  obtain ⟨r, n, b, cs, rfl, h1, hlen, q⟩ := h
  have ND := sc_sent_home.nd
  refine ⟨_, (pss_cons (ps_set (i := 3) ND rfl (by first | exact Or.inl rfl | exact Or.inr rfl) (pt (call_lstT) B.list bt_list (pa_c (pv 1) pa_nil))) (pss_cons (ps_for PassesOwn.never rfl (pi_rev B.reversed B.range (pa_c (pb (call_lenK (K := K) rfl) B.len bt_len (pa_c (pv 3) pa_nil)) pa_nil)) (pg_name (i := 4) ND rfl (by first | exact Or.inl rfl | exact Or.inr rfl)) (pss_cons (ps_set (i := 5) ND rfl (by first | exact Or.inl rfl | exact Or.inr rfl) (pb (call_min2 rfl) B.min bt_min (pa_c (pe_ix ix_obj (pv 3) (pv 4) (fun _ _ => rfl)) (pa_c (pv 2) pa_nil)))) (pss_cons (ps_augS (pv 3) (pv 4) get_list (pv 5) ip_sub set_list) (pss_one (ps_aug (i := 2) ND rfl (by first | exact Or.inl rfl | exact Or.inr rfl) (pv 5) ip_sub))))) (pss_one (ps_ret (pe_tupW (pa_c (pe_op op_sub (pv 0) (pv 2)) (pa_c (pt (call_tupL) B.tuple bt_tuple (pa_c (pv 3) pa_nil)) pa_nil))))))), ?_⟩
  walk_at "rd"
  refine ⟨b, _, rfl, h1, fun p1 f1 => ?_⟩
  have s1 := same_new f1 (HO.lst (cs.map V.int))
  have e1 : upd H p1 (HO.lst (cs.map V.int)) p1 = some (.lst (cs.map V.int)) := upd_same
  generalize upd H p1 (HO.lst (cs.map V.int)) = H1 at s1 e1 ⊢
  rw [tFor_rev]
  walk_at "rd"
  refine ⟨p1, _, rfl, .inl (SqL.of e1), ?_⟩
  rw [List.length_map]
  refine VK'.of (n := cs.length) rfl (by omega) (fun i σ H' => ∃ o4 o5 : Option V, σ = [some (.int r), some (.ref b), some (.int (goHome (cs.drop (cs.length - i)) n).2), some (.ref p1), o4, o5] ∧ H' p1 = some (.lst ((cs.take (cs.length - i) ++ (goHome (cs.drop (cs.length - i)) n).1).map V.int)) ∧ Same H H')
    ⟨_, _, by rw [Nat.sub_zero, List.drop_length]; rfl, by rw [Nat.sub_zero, List.drop_length, List.take_length]; simpa [goHome] using e1, s1⟩ ?_ ?_
  · rintro i σ H2 hi ⟨o4, o5, rfl, h2, s2⟩
    obtain ⟨j, ej⟩ : ∃ j : Nat, cs.length - i = j + 1 := ⟨cs.length - i - 1, by omega⟩
    have ej2 : cs.length - (i + 1) = j := by omega
    have ei : (cs.length : Int) - 1 - (i : Nat) = (j : Nat) := by omega
    rw [ej] at h2
    rw [ei, ej, ej2]
    have hj : j < cs.length := by omega
    have dj : cs.drop j = cs[j] :: cs.drop (j + 1) := List.drop_eq_getElem_cons hj
    have tj : cs.take (j + 1) = cs.take j ++ [cs[j]] := by rw [List.take_succ, List.getElem?_eq_getElem hj]; rfl
    rw [dj, goHome]
    generalize goHome (cs.drop (j + 1)) n = gh at h2 ⊢
    rw [tj] at h2
    generalize cs[j] = cj at h2 ⊢
    have lt : (cs.take j).length = j := by rw [List.length_take]; omega
    have gj : ((cs.take j ++ [cj] ++ gh.1).map V.int)[j]? = some (.int cj) := by
      rw [List.getElem?_map, List.append_assoc, List.getElem?_append_right (by omega), lt, Nat.sub_self]; rfl
    walk_at "rd"
    refine Ix.lst h2 (atI_nat gj) ?_
    walk_at "rd"
    refine ⟨p1, _, j, _, rfl, rfl, h2, gj, ?_⟩
    walk_at "rd"
    refine ⟨p1, _, _, j, rfl, rfl, h2, ixN_nat (by rw [List.length_map, List.length_append, List.length_append, lt]; show j < j + 1 + _; omega), ?_⟩
    refine ⟨_, rfl, _, _, rfl, rfl, _, _, rfl, ?_, fun z o w => ?_⟩
    · rw [upd_same]
      congr 2
      have e : cs.take j ++ [cj] ++ gh.1 = cs.take j ++ (cj :: gh.1) := by simp
      rw [e, List.map_append, List.map_append, List.set_append_right _ _ (by rw [List.length_map]; omega), List.length_map, lt, Nat.sub_self]
      rfl
    · rw [upd_ne (ne_of_none w f1)]
      exact s2 _ _ w
  · rintro σ H2 ⟨o4, o5, rfl, h2, s2⟩
    rw [Nat.sub_self, List.drop_zero, List.take_zero, List.nil_append] at h2
    rw [Nat.sub_self, List.drop_zero]
    walk_at "rd"
    refine ⟨p1, _, rfl, h2, fun p3 f3 => ?_⟩
    have s3 := same_new f3 (HO.tup ((goHome cs n).1.map V.int))
    have e3 : upd H2 p3 (HO.tup ((goHome cs n).1.map V.int)) p3 = some (.tup ((goHome cs n).1.map V.int)) := upd_same
    generalize upd H2 p3 (HO.tup ((goHome cs n).1.map V.int)) = H3 at s3 e3 ⊢
    refine ⟨(by decide), fun p4 H4 f4 s4 e4 => ?_⟩
    exact q p4 p3 H4 (s2.trans (s3.trans s4)) e4 (s4 _ _ e3)
end
end K13
namespace K13
open PySem L2
local macro_rules | `(tactic| walk_at "rd") => `(tactic| simp only [L2.start, List.map_cons, List.map_nil, List.length_cons, List.length_nil, Nat.reduceAdd, Nat.reduceSub, List.replicate, List.cons_append, List.nil_append, List.append_nil,
  tSeq, tIfS, tRet, tRetN, tNext, tAsg, gName, tDrop, rd_var0, rd_varS, rd_gcons, rd_gnil, if_true, if_false, Bool.false_eq_true, Bool.not_true, Bool.not_false, rd_set0, rd_setS, rd_eqI, rd_neI, rd_eqS, rd_neS, rd_argI, rd_argB, rd_argII, rd_test, rd_int, rd_ii, tC, tOp, tUn, rI0, rI, rU, tTest, tAnd, tOr, tNot, tAndV, tOrV, tNotV, tIf, tCall, tCB, tCons, tNil, tB, tChain, tSl, tNoPart, tPart, gSub, tPar, tLst, tTup, tLstW, tTupW, tBM, tAug, tPar3, tAugS, ipI, tMaxD, tGT2])
section
variable {P : Program} {w : World} {K : PySem.W.Frag} {mg : Str → Option Value} {base : Heap} {f : Addr} {fd : FuncData} {k : Nat}


def withI (x : Pst) (st : Stn) (ch : Int) : Stn :=
  if ch = 0 then st else if 0 < ch then { st with cs := st.cs.take x.a ++ [st.cs.getD x.a 0 + ch] ++ st.cs.drop (x.a + 1), t := x.u }
  else { st with r := st.r - (goHome st.cs (-ch)).2, cs := (goHome st.cs (-ch)).1, t := x.d }
def spWith : Sp := fun vs H Q _ => ∃ (v u : V) (x : Pst) (st : Stn) (ch : Int), vs = [v, u, .int ch] ∧ At H (pstD x) v ∧ At H (stD st) u ∧ PsIs x ∧ StIs st ∧ ∀ u' H', Same H H' → At H' (stD (withI x st ch)) u' → Q u' H'
theorem sc_with_change : FnScope ["post", "stand", "change", "late", "rests", "wait", "ready", "called", "since", "rest", "seen"] ["post", "stand", "change"] (defScope s_with_change) := ⟨rfl, rfl, rfl, by decide +kernel, rfl, by decide +kernel, by decide +kernel⟩
theorem ok_with_change (F : Fun K "with_change" "with_change" s_with_change f fd) (B : Bi mg) (c_sent_home : Ct P w K mg base k "sent_home" ["ready", "called", "many"] spSent) : FnOk P w K mg base CX0 (k + 1) f fd ["post", "stand", "change"] spWith := by
  refine F.ok sc_with_change (by rintro vs H Q E ⟨v, u, x, st, ch, rfl, _⟩; rfl) (fun cdv A outer s H vs Q E hr h => ?_)
  obtain ⟨v, u, x, st, ch, rfl, a1, a2, hP, hS, q⟩ := h
  have ND := sc_with_change.nd
  refine ⟨_, (pss_cons (ps_if (pt_cmpR op_eq (pv 2) pe_int (nomark _)) (pss_one (ps_ret (pv 1))) pss_nil) (pss_cons (ps_par (i := 3) (j := 4) rfl ND rfl rfl (by decide) rfl rfl (pa_c (pe_ix ix_obj (pv 0) pe_int (fun _ _ => rfl)) (pa_c (pe_ix ix_obj (pv 0) pe_int (fun _ _ => rfl)) pa_nil)) (by rfl)) (pss_cons (ps_asg (pv 1) (pg_tup rfl (pgs_cons (pg_name (i := 5) ND rfl (by first | exact Or.inl rfl | exact Or.inr rfl)) (pgs_cons (pg_name (i := 6) ND rfl (by first | exact Or.inl rfl | exact Or.inr rfl)) (pgs_cons (pg_name (i := 7) ND rfl (by first | exact Or.inl rfl | exact Or.inr rfl)) (pgs_cons (pg_name (i := 8) ND rfl (by first | exact Or.inl rfl | exact Or.inr rfl)) (pgs_cons (pg_name (i := 9) ND rfl (by first | exact Or.inl rfl | exact Or.inr rfl)) (pgs_cons (pg_name (i := 10) ND rfl (by first | exact Or.inl rfl | exact Or.inr rfl)) pgs_nil)))))))) (pss_cons (ps_if (pt_cmpR op_gt (pv 2) pe_int (nomark _)) (pss_cons (ps_set (i := 7) ND rfl (by first | exact Or.inl rfl | exact Or.inr rfl) (pe_op op_catW (pe_op op_catW (pe_slice sl_tupW (pv 7) po_none (po_some (pv 3))) (pe_tupW (pa_c (pe_op op_add (pe_ix ix_obj (pv 7) (pv 3) (fun _ _ => rfl)) (pv 2)) pa_nil))) (pe_slice sl_tupW (pv 7) (po_some (pe_op op_add (pv 3) pe_int)) po_none))) (pss_one (ps_set (i := 9) ND rfl (by first | exact Or.inl rfl | exact Or.inr rfl) (pe_ix ix_obj (pv 4) pe_int (fun _ _ => rfl))))) (pss_cons (ps_asg (pf c_sent_home hr (pa_c (pv 6) (pa_c (pv 7) (pa_c (pe_un un_neg (pv 2)) pa_nil)))) (pg_tup rfl (pgs_cons (pg_name (i := 6) ND rfl (by first | exact Or.inl rfl | exact Or.inr rfl)) (pgs_cons (pg_name (i := 7) ND rfl (by first | exact Or.inl rfl | exact Or.inr rfl)) pgs_nil)))) (pss_one (ps_set (i := 9) ND rfl (by first | exact Or.inl rfl | exact Or.inr rfl) (pe_ix ix_obj (pv 4) pe_int (fun _ _ => rfl)))))) (pss_one (ps_ret (pe_tupW (pa_c (pv 5) (pa_c (pv 6) (pa_c (pv 7) (pa_c (pv 8) (pa_c (pv 9) (pa_c (pv 10) pa_nil))))))))))))), ?_⟩
  walk_at "rd"
  refine and_if (fun c1 => ?_) (fun c1 => ?_)
  · have := q u H (Same.refl H)
    unfold withI at this
    rw [if_pos (of_decide_eq_true c1)] at this
    exact this a2
  have c1' := of_decide_eq_false c1
  obtain ⟨pa, pb, pc, pd, rfl, p1, p2⟩ := pst_shape a1
  obtain ⟨sa, sb, sc, rfl, g1, g2, g3⟩ := stn_shape a2
  have ha4 := hP.a
  have hc5 := hS.c
  refine Ix.tup p1 (atI_nat (j := 3) rfl) (Ix.tup p1 (atI_nat (j := 5) rfl) ⟨_, _, rfl, ?_⟩)
  refine ⟨sa, _, rfl, SqT.of g1, rfl, ?_⟩
  walk_at "rd"
  refine and_if (fun c2 => ?_) (fun c2 => ?_)
  · have c2' := of_decide_eq_true c2
    have ga : (st.cs.map V.int)[x.a]? = some (.int (st.cs.getD x.a 0)) := by
      rw [List.getElem?_map, List.getElem?_eq_getElem (by omega), List.getD_eq_getElem?_getD, List.getElem?_eq_getElem (by omega)]; rfl
    refine ⟨sb, _, rfl, g2, fun p3 H3 s3 e3 => ?_⟩
    rw [cut_to (by omega), Int.toNat_natCast] at e3
    refine Ix.tup (s3 _ _ g2) (atI_nat ga) ?_
    walk_at "rd"
    refine ⟨(by decide), fun p4 H4 f4 s4 e4 => ?_⟩
    refine ⟨p3, p4, _, _, rfl, rfl, s4 _ _ e3, e4, Nat.le_of_lt (small1000 (by simp; omega)), fun p5 H5 s5 e5 => ?_⟩
    walk_at "rd"
    have s35 := s3.trans (s4.trans s5)
    refine ⟨sb, _, rfl, s35 _ _ g2, fun p6 H6 s6 e6 => ?_⟩
    rw [cut_from (by omega)] at e6
    refine ⟨p5, p6, _, _, rfl, rfl, s6 _ _ e5, e6, Nat.le_of_lt (small1000 (by simp; omega)), fun p7 H7 s7 e7 => ?_⟩
    have s37 := s35.trans (s6.trans s7)
    walk_at "rd"
    refine Ix.tup (s37 _ _ p2) (atI_nat (j := 0) rfl) ⟨(by decide), fun p8 H8 f8 s8 e8 => ?_⟩
    have s38 := s37.trans s8
    refine q (.ref p8) H8 s38 ?_
    unfold withI
    rw [if_neg c1', if_pos c2']
    refine At.tup e8 (AtAll.cons (At.int _) (AtAll.cons (At.int _) (AtAll.cons (At.tup (s8 _ _ e7) ?_) (AtAll.cons (At.int _) (AtAll.cons (At.int _) (AtAll.cons (g3.mono s38) AtAll.nil))))))
    have e : (((x.a : Int) + 1).toNat) = x.a + 1 := by omega
    rw [e]
    have := ats_ints (H := H8) (st.cs.take x.a ++ [st.cs.getD x.a 0 + ch] ++ st.cs.drop (x.a + 1))
    simpa using this
  · have c2' := of_decide_eq_false c2
    refine ⟨st.r, -ch, sb, st.cs, rfl, g2, by omega, fun p3 b3 H3 s3 e3 e4 => ?_⟩
    refine ⟨p3, _, rfl, SqT.of e3, rfl, ?_⟩
    walk_at "rd"
    refine Ix.tup (s3 _ _ p2) (atI_nat (j := 1) rfl) ⟨(by decide), fun p8 H8 f8 s8 e8 => ?_⟩
    have s38 := s3.trans s8
    refine q (.ref p8) H8 s38 ?_
    unfold withI
    rw [if_neg c1', if_neg (by omega)]
    exact At.tup e8 (AtAll.cons (At.int _) (AtAll.cons (At.int _) (AtAll.cons (At.tup (s8 _ _ e4) (ats_ints _)) (AtAll.cons (At.int _) (AtAll.cons (At.int _) (AtAll.cons (g3.mono s38) AtAll.nil))))))
def takenI (x : Pst) (st : Stn) (come : Int) : Int := if (if 0 > x.m - st.w then 0 else x.m - st.w) < come then (if 0 > x.m - st.w then 0 else x.m - st.w) else come
def readyI (st : Stn) : Int := st.r + st.cs.getD 0 0
def doneI (x : Pst) (st : Stn) (come : Int) : Int := if readyI st * x.p < st.w + takenI x st come then readyI st * x.p else st.w + takenI x st come
def newestI (x : Pst) (st : Stn) (come : Int) : List (List Int) := [come, doneI x st come, st.w + takenI x st come - doneI x st come] :: st.us
def movedI (x : Pst) (st : Stn) (come : Int) : Stn := ⟨st.w + takenI x st come - doneI x st come, readyI st, st.cs.drop 1 ++ [0], sinceI x.e st.s, if 0 > st.t - 1 then 0 else st.t - 1, (newestI x st come).take 3⟩
def chI (x : Pst) (st : Stn) (come fr : Int) : Int := if looksI x.e st.s st.t = true then changeI x (readyI st + (st.cs.drop 1 ++ [0]).sum) fr (newestI x st come) else 0
def spBeat : Sp := fun vs H Q _ => ∃ (v u : V) (x : Pst) (st : Stn) (come fr : Int), vs = [v, u, .int come, .int fr] ∧ At H (pstD x) v ∧ At H (stD st) u ∧ PsIs x ∧ StIs st ∧
  ∀ p u' H', Same H H' → At H' (stD (withI x (movedI x st come) (chI x st come fr))) u' → H' p = some (.tup [u', .int (doneI x st come), .int (come - takenI x st come), .int (chI x st come fr)]) → Q (.ref p) H'
theorem sc_beat : FnScope ["post", "stand", "come", "free", "pace", "room", "wait", "ready", "called", "since", "rest", "seen", "taken", "done", "newest", "looks", "moved", "change"] ["post", "stand", "come", "free"] (defScope s_beat) := ⟨rfl, rfl, rfl, by decide +kernel, rfl, by decide +kernel, by decide +kernel⟩
theorem moved_is {x : Pst} {st : Stn} {come : Int} (h : StIs st) : StIs (movedI x st come) := by
  refine ⟨?_, ?_, fun y hy => ?_⟩
  · show (st.cs.drop 1 ++ [0]).length = 5
    have := h.c
    simp; omega
  · show ((newestI x st come).take 3).length = 3
    have := h.u
    unfold newestI
    simp; omega
  · have hy := List.mem_of_mem_take hy
    unfold newestI at hy
    rcases List.mem_cons.mp hy with z | z
    · rw [z]; rfl
    · exact h.l y z
end
end K13
namespace K13
open PySem L2
local macro_rules | `(tactic| walk_at "rd") => `(tactic| simp only [L2.start, List.map_cons, List.map_nil, List.length_cons, List.length_nil, Nat.reduceAdd, Nat.reduceSub, List.replicate, List.cons_append, List.nil_append, List.append_nil,
  tSeq, tIfS, tRet, tRetN, tNext, tAsg, gName, tDrop, rd_var0, rd_varS, rd_gcons, rd_gnil, if_true, if_false, Bool.false_eq_true, Bool.not_true, Bool.not_false, rd_set0, rd_setS, rd_eqI, rd_neI, rd_eqS, rd_neS, rd_argI, rd_argB, rd_argII, rd_test, rd_int, rd_ii, tC, tOp, tUn, rI0, rI, rU, tTest, tAnd, tOr, tNot, tAndV, tOrV, tNotV, tIf, tCall, tCB, tCons, tNil, tB, tChain, tSl, tNoPart, tPart, gSub, tPar, tLst, tTup, tLstW, tTupW, tBM, tAug, tPar3, tAugS, ipI, tMaxD, tGT2])
section
variable {P : Program} {w : World} {K : PySem.W.Frag} {mg : Str → Option Value} {base : Heap} {f : Addr} {fd : FuncData} {k : Nat}


theorem ok_beat {T : Addr} {tk : Tok} (F : FunD K "beat" "beat" s_beat f fd T 12 tk) (B : Bi mg) (O : Co K mg) (c_since_and_look : Ct P w K mg base k "since_and_look" ["post", "since", "rest"] spSince) (c_change_of : Ct P w K mg base k "change_of" ["post", "hands", "newest", "free"] spChange) (c_hands_of : Ct P w K mg base k "hands_of" ["stand"] spHands)
    (c_with_change : Ct P w K mg base k "with_change" ["post", "stand", "change"] spWith) : FnOk P w K mg base CX0 (k + 1) f fd ["post", "stand", "come", "free"] spBeat := by
  refine F.ok sc_beat (by rintro vs H Q E ⟨v, u, x, st, come, fr, rfl, _⟩; rfl) (fun cdv A outer s H vs Q E hr h => ?_)
  obtain ⟨v, u, x, st, come, fr, rfl, a1, a2, hP, hS, q⟩ := h
  have ND := sc_beat.nd
  refine ⟨_, (pss_cons (ps_asg (pe_slice sl_tupW (pv 0) po_none (po_some pe_int)) (pg_tup rfl (pgs_cons (pg_name (i := 4) ND rfl (by first | exact Or.inl rfl | exact Or.inr rfl)) (pgs_cons (pg_name (i := 5) ND rfl (by first | exact Or.inl rfl | exact Or.inr rfl)) pgs_nil)))) (pss_cons (ps_asg (pv 1) (pg_tup rfl (pgs_cons (pg_name (i := 6) ND rfl (by first | exact Or.inl rfl | exact Or.inr rfl)) (pgs_cons (pg_name (i := 7) ND rfl (by first | exact Or.inl rfl | exact Or.inr rfl)) (pgs_cons (pg_name (i := 8) ND rfl (by first | exact Or.inl rfl | exact Or.inr rfl)) (pgs_cons (pg_name (i := 9) ND rfl (by first | exact Or.inl rfl | exact Or.inr rfl)) (pgs_cons (pg_name (i := 10) ND rfl (by first | exact Or.inl rfl | exact Or.inr rfl)) (pgs_cons (pg_name (i := 11) ND rfl (by first | exact Or.inl rfl | exact Or.inr rfl)) pgs_nil)))))))) (pss_cons (ps_aug (i := 7) ND rfl (by first | exact Or.inl rfl | exact Or.inr rfl) (pe_ix ix_obj (pv 8) pe_int (fun _ _ => rfl)) ip_add) (pss_cons (ps_set (i := 8) ND rfl (by first | exact Or.inl rfl | exact Or.inr rfl) (pe_op op_catW (pe_slice sl_tupW (pv 8) (po_some pe_int) po_none) (pe_tupW (pa_c pe_int pa_nil)))) (pss_cons (ps_set (i := 12) ND rfl (by first | exact Or.inl rfl | exact Or.inr rfl) (pb (call_min2 rfl) B.min bt_min (pa_c (pv 2) (pa_c (pb (call_max2 rfl) B.max bt_max (pa_c (pe_op op_sub (pv 5) (pv 6)) (pa_c pe_int pa_nil))) pa_nil)))) (pss_cons (ps_aug (i := 6) ND rfl (by first | exact Or.inl rfl | exact Or.inr rfl) (pv 12) ip_add) (pss_cons (ps_set (i := 13) ND rfl (by first | exact Or.inl rfl | exact Or.inr rfl) (pb (call_min2 rfl) B.min bt_min (pa_c (pv 6) (pa_c (pe_op op_mul (pv 7) (pv 4)) pa_nil)))) (pss_cons (ps_aug (i := 6) ND rfl (by first | exact Or.inl rfl | exact Or.inr rfl) (pv 13) ip_sub) (pss_cons (ps_set (i := 14) ND rfl (by first | exact Or.inl rfl | exact Or.inr rfl) (pe_op op_catW (pe_tupW (pa_c (pe_tupW (pa_c (pv 2) (pa_c (pv 13) (pa_c (pv 6) pa_nil)))) pa_nil)) (pv 11))) (pss_cons (ps_asg (pf c_since_and_look hr (pa_c (pv 0) (pa_c (pv 9) (pa_c (pv 10) pa_nil)))) (pg_tup rfl (pgs_cons (pg_name (i := 9) ND rfl (by first | exact Or.inl rfl | exact Or.inr rfl)) (pgs_cons (pg_name (i := 15) ND rfl (by first | exact Or.inl rfl | exact Or.inr rfl)) pgs_nil)))) (pss_cons (ps_set (i := 16) ND rfl (by first | exact Or.inl rfl | exact Or.inr rfl) (pe_tupW (pa_c (pv 6) (pa_c (pv 7) (pa_c (pv 8) (pa_c (pv 9) (pa_c (pb (call_max2 rfl) B.max bt_max (pa_c (pe_op op_sub (pv 10) pe_int) (pa_c pe_int pa_nil))) (pa_c (pe_slice sl_tupW (pv 14) po_none (po_some (pglobI O.TRIPLES_SEEN))) pa_nil)))))))) (pss_cons (ps_set (i := 17) ND rfl (by first | exact Or.inl rfl | exact Or.inr rfl) (pe_ifExp (pt_val (pv 15)) (pf c_change_of hr (pa_c (pv 0) (pa_c (pf c_hands_of hr (pa_c (pv 16) pa_nil)) (pa_c (pv 14) (pa_c (pv 3) pa_nil))))) pe_int)) (pss_one (ps_ret (pe_tupW (pa_c (pf c_with_change hr (pa_c (pv 0) (pa_c (pv 16) (pa_c (pv 17) pa_nil)))) (pa_c (pv 13) (pa_c (pe_op op_sub (pv 2) (pv 12)) (pa_c (pv 17) pa_nil))))))))))))))))))), ?_⟩
  obtain ⟨pa, pb, pc, pd, rfl, p1, p2⟩ := pst_shape a1
  obtain ⟨sa, sb, sc, rfl, g1, g2, g3⟩ := stn_shape a2
  have hc5 := hS.c
  have hpp := hP.p
  have gc0 : (st.cs.map V.int)[0]? = some (.int (st.cs.getD 0 0)) := by
    rw [List.getElem?_map, List.getElem?_eq_getElem (by omega), List.getD_eq_getElem?_getD, List.getElem?_eq_getElem (by omega)]; rfl
  walk_at "rd"
  refine ⟨pa, _, rfl, p1, fun q1 H1 s1 e1 => ?_⟩
  rw [cut_to (by decide)] at e1
  replace e1 : H1 q1 = some (.tup [.int x.p, .int x.m]) := e1
  refine ⟨q1, _, rfl, SqT.of e1, rfl, ?_⟩
  walk_at "rd"
  refine ⟨sa, _, rfl, SqT.of (s1 _ _ g1), rfl, ?_⟩
  walk_at "rd"
  refine ⟨_, rfl, Ix.tup (s1 _ _ g2) (atI_nat gc0) ⟨_, _, rfl, rfl, ?_⟩⟩
  refine ⟨sb, _, rfl, s1 _ _ g2, fun q2 H2 s2 e2 => ?_⟩
  rw [cut_from (by decide)] at e2
  have s12 := s1.trans s2
  refine ⟨(by decide), fun q3 H3 f3 s3 e3 => ?_⟩
  refine ⟨q2, q3, _, _, rfl, rfl, s3 _ _ e2, e3, Nat.le_of_lt (small1000 (by simp; omega)), fun q4 H4 s4 e4 => ?_⟩
  have s14 := s12.trans (s3.trans s4)
  walk_at "rd"
  refine ⟨_, rfl, _, _, rfl, rfl, .inr (by omega), _, rfl, _, _, rfl, rfl, (by decide), fun q5 H5 f5 s5 e5 => ⟨(by decide), fun q6 H6 f6 s6 e6 => ?_⟩⟩
  replace e5 : H5 q5 = some (.tup [.int come, .int (doneI x st come), .int (st.w + takenI x st come - doneI x st come)]) := e5
  obtain ⟨sc', us', ec, gu, au⟩ := tup_ats g3
  cases ec
  have s16 := s14.trans (s5.trans s6)
  have lus : us'.length = 3 := by have := au.length; rw [List.length_map, hS.u] at this; exact this
  refine ⟨q6, sc, _, _, rfl, rfl, e6, s16 _ _ gu, Nat.le_of_lt (small1000 (by simp; omega)), fun q7 H7 s7 e7 => ?_⟩
  have s17 := s16.trans s7
  have a7 : At H7 (trsD (newestI x st come)) (.ref q7) := At.tup e7 (AtAll.cons (At.tup ((s6.trans s7) _ _ e5) (ats_ints [come, doneI x st come, st.w + takenI x st come - doneI x st come])) (au.mono s17))
  have hN : Newest (newestI x st come) := ⟨by show st.us.length + 1 = 4; rw [hS.u], fun y hy => by
    rcases List.mem_cons.mp hy with z | z
    · rw [z]; rfl
    · exact hS.l y z⟩
  refine ⟨.ref pa, x, st.s, st.t, rfl, a1.mono s17, fun q8 H8 s8 e8 => ?_⟩
  refine ⟨q8, _, rfl, SqT.of e8, rfl, ?_⟩
  walk_at "rd"
  have s18 := s17.trans s8
  obtain ⟨q7', nws, en, gn, an⟩ := tup_ats (a7.mono s8)
  cases en
  refine ⟨q7, _, rfl, gn, fun q9 H9 s9 e9 => ?_⟩
  rw [cut_to (by decide)] at e9
  have s19 := s18.trans s9
  refine ⟨(by decide), fun q10 H10 f10 s10 e10 => ?_⟩
  have s110 := s19.trans s10
  have e4' : H4 q4 = some (.tup ((st.cs.drop 1 ++ [0]).map V.int)) := by rw [e4]; simp
  have s410 : Same H4 H10 := s5.trans (s6.trans (s7.trans (s8.trans (s9.trans s10))))
  have am : At H10 (stD (movedI x st come)) (.ref q10) := by
    refine At.tup e10 (AtAll.cons (At.int _) (AtAll.cons (At.int _) (AtAll.cons (At.tup (s410 _ _ e4') (ats_ints _)) (AtAll.cons (At.int _) (AtAll.cons (At.int _) (AtAll.cons (At.tup (s10 _ _ e9) ?_) AtAll.nil))))))
    show AtAll H10 (((newestI x st come).take 3).map triD) _
    rw [List.map_take]
    exact (an.take 3).mono (s9.trans s10)
  have fin : ∀ (c : Int) (H11 : Hp), chI x st come fr = c → Same H10 H11 → spWith [.ref pa, .ref q10, .int c] H11 (fun y H1 => 4 ≤ sizeLine ∧ ∀ p H', H1 p = none → Same H1 H' → H' p = some (.tup [y, .int (doneI x st come), .int (come - takenI x st come), .int c]) → Q (.ref p) H') E0 := fun c H11 ec s11 => by
    subst ec
    have s111 := s110.trans s11
    exact ⟨.ref pa, .ref q10, x, movedI x st come, _, rfl, a1.mono s111, am.mono s11, hP, moved_is hS, fun u' H12 s12' a12 => ⟨(by decide), fun q13 H13 f13 s13 e13 => q q13 u' H13 (s111.trans (s12'.trans s13)) (a12.mono s13) e13⟩⟩
  refine and_if (fun c1 => ?_) (fun c1 => ?_)
  · refine ⟨.ref q10, _, q10, readyI st, q4, st.cs.drop 1 ++ [0], _, rfl, rfl, e10, s410 _ _ e4', ?_⟩
    refine ⟨.ref pa, .ref q7, x, _, fr, newestI x st come, rfl, a1.mono s110, a7.mono (s8.trans (s9.trans s10)), hP, hN, fun H11 s11 => ?_⟩
    exact fin _ H11 (by unfold chI; rw [if_pos c1]) s11
  · exact fin 0 H10 (by unfold chI; rw [if_neg (by rw [c1]; decide)]) (Same.refl _)
end
end K13
namespace K13
open PySem L2
local macro_rules | `(tactic| walk_at "rd") => `(tactic| simp only [L2.start, List.map_cons, List.map_nil, List.length_cons, List.length_nil, Nat.reduceAdd, Nat.reduceSub, List.replicate, List.cons_append, List.nil_append, List.append_nil,
  tSeq, tIfS, tRet, tRetN, tNext, tAsg, gName, tDrop, rd_var0, rd_varS, rd_gcons, rd_gnil, if_true, if_false, Bool.false_eq_true, Bool.not_true, Bool.not_false, rd_set0, rd_setS, rd_eqI, rd_neI, rd_eqS, rd_neS, rd_argI, rd_argB, rd_argII, rd_test, rd_int, rd_ii, tC, tOp, tUn, rI0, rI, rU, tTest, tAnd, tOr, tNot, tAndV, tOrV, tNotV, tIf, tCall, tCB, tCons, tNil, tB, tChain, tSl, tNoPart, tPart, gSub, tPar, tLst, tTup])
section
variable {P : Program} {w : World} {K : PySem.W.Frag} {mg : Str → Option Value} {base : Heap} {f : Addr} {fd : FuncData} {k : Nat}

/-! ### the tape and what is drawn from it -/
def spTape (K : PySem.W.Frag) : Sp := fun vs H Q _ => ∃ (s : Addr) (ns : List Int) (i : Int), vs = [.ref s, .int i] ∧ SqL K H s (ns.map V.int) ∧ 0 ≤ i ∧ i ≤ 1000 ∧ ∀ p H', H p = none → Same H H' → Tp H' p 0 → Q (.ref p) H'
theorem sc_l_tape : FnScope ["_law_script", "_law_k", "_law_cell"] ["_law_script", "_law_k"] (defScope s_l_tape) := ⟨rfl, rfl, rfl, by decide +kernel, rfl, by decide +kernel, by decide +kernel⟩
theorem ok_l_tape (F : Fun K "_law_tape" "_law_tape" s_l_tape f fd) (B : Bi mg) : FnOk P w K mg base CX0 (k + 1) f fd ["_law_script", "_law_k"] (spTape K) := by
  refine F.ok sc_l_tape (by rintro vs H Q E ⟨a, ns, i, rfl, _⟩; rfl) (fun cdv A outer s H vs Q E hr h => ?_)
  obtain ⟨a, ns, i, rfl, hS, h0, h1, q⟩ := h
  have ND := sc_l_tape.nd
  refine ⟨_, (pss_cons (ps_set (i := 2) ND rfl (by first | exact Or.inl rfl | exact Or.inr rfl) (pe_ifExp (pt_cmpR op_lt (pv 1) (pb (call_lenK (K := K) rfl) B.len bt_len (pa_c (pv 0) pa_nil)) (nomark _)) (pe_ix ix_list (pv 0) (pv 1) (fun _ _ => rfl)) pe_int)) (pss_one (ps_ret (pe_lst (pa_c (pe_op op_mul (pb (call_abs) B.abs bt_abs (pa_c (pv 2) pa_nil)) (pt (call_intB) B.int bt_int (pa_c (pe_cmpR op_ge (pb (call_abs) B.abs bt_abs (pa_c (pv 2) pa_nil)) (pe_op op_pow pe_int pe_int) (nomark _)) pa_nil))) (pa_c (pe_op op_add (pe_op op_add (pe_op op_mod (pv 2) pe_int) (pe_op op_mul pe_int (pv 1))) pe_int) (pa_c pe_int pa_nil))))))), ?_⟩
  walk_at "rd"
  refine ⟨a, _, rfl, .inl hS, ?_⟩
  show ∃ i_1 j, V.int i = V.int i_1 ∧ V.int ((ns.map V.int).length : Int) = V.int j ∧ _
  walk_at "rd"
  have abs_nn : ∀ c : Int, 0 ≤ (if c < 0 then -c else c) := fun c => by split <;> omega
  have fin : ∀ (c x y : Int), x = (if c < 0 then -c else c) * (if decide (10 ^ Int.toNat 18 ≤ (if c < 0 then -c else c)) = true then 1 else 0) → y = c % 2305843009213693951 + 39373 * i + 17 → ∀ p, H p = none → Q (.ref p) (upd H p (.lst [.int x, .int y, .int 0])) := fun c x y ex ey p hp => by
    have hx : 0 ≤ x := by
      rw [ex]
      have nn := abs_nn c
      generalize (if c < 0 then -c else c) = u at nn ⊢
      split
      · rw [Int.mul_one]; exact nn
      · rw [Int.mul_zero]; exact Int.le_refl 0
    have h2 := Int.emod_nonneg c (show (2305843009213693951 : Int) ≠ 0 by decide)
    have h3 := Int.emod_lt_of_pos c (show (0 : Int) < 2305843009213693951 by decide)
    exact q p _ hp (same_new hp _) ⟨x, y, 0, upd_same, hx, by omega, by omega, Int.le_refl 0, Int.le_refl 0⟩
  have cm : ∀ (c : Int) (b : Bool), CMul c (if b = true then 1 else 0) := fun c b => .inr (by cases b <;> decide)
  refine and_if (fun c1 => ?_) (fun c1 => ?_)
  · have c1' := of_decide_eq_true c1
    have hi : i.toNat < ns.length := by rw [List.length_map] at c1'; omega
    refine ⟨a, _, i, .int (ns[i.toNat]), rfl, rfl, hS, ?_, ?_⟩
    · have := atI_nat (xs := ns.map V.int) (j := i.toNat) (v := .int (ns[i.toNat])) (by rw [List.getElem?_map, List.getElem?_eq_getElem hi]; rfl)
      rwa [show ((i.toNat : Nat) : Int) = i by omega] at this
    · walk_at "rd"
      refine ⟨⟨by decide, by decide, by decide⟩, cm _ _, by decide, .inl (by decide), (by show 3 ≤ sizeLine; decide), fun p hp => ?_⟩
      exact fin _ _ _ rfl rfl p hp
  · refine ⟨⟨by decide, by decide, by decide⟩, cm _ _, by decide, .inl (by decide), (by show 3 ≤ sizeLine; decide), fun p hp => ?_⟩
    exact fin 0 _ _ rfl rfl p hp
def spDraw : Sp := fun vs H Q _ => ∃ (a : Addr) (m : Int) (n : Nat), vs = [.ref a, .int m] ∧ Tp H a n ∧ n ≤ 1000000000 ∧ 0 < m ∧ m < 1000000000000000 ∧ ∀ v H', 0 ≤ v → v < m → Tp H' a (n + 1) → SX a H H' → Q (.int v) H'
theorem sc_l_draw : FnScope ["_law_tape_here", "_law_many", "_law_found", "_law_once", "_law_twice"] ["_law_tape_here", "_law_many"] (defScope s_l_draw) := ⟨rfl, rfl, rfl, by decide +kernel, rfl, by decide +kernel, by decide +kernel⟩
theorem ok_l_draw (F : Fun K "_law_draw" "_law_draw" s_l_draw f fd) (B : Bi mg) : FnOk P w K mg base CX0 (k + 1) f fd ["_law_tape_here", "_law_many"] spDraw := by
  refine F.ok sc_l_draw (by rintro vs H Q E ⟨a, m, n, rfl, _⟩; rfl) (fun cdv A outer s H vs Q E hr h => ?_)
  obtain ⟨a, m, n, rfl, ⟨x, y, z, hT, hx, hy, hy2, hz, hz2⟩, hn, hm, hm2, q⟩ := h
  have ND := sc_l_draw.nd
  refine ⟨_, (pss_cons (ps_if (pt_cmpR op_gt (pe_ix ix_obj (pv 0) pe_int (fun _ _ => rfl)) pe_int (nomark _)) (pss_cons (ps_set (i := 2) ND rfl (by first | exact Or.inl rfl | exact Or.inr rfl) (pe_op op_mod (pe_ix ix_obj (pv 0) pe_int (fun _ _ => rfl)) (pv 1))) (pss_cons (ps_asg (pe_op op_fdivB (pe_ix ix_obj (pv 0) pe_int (fun _ _ => rfl)) (pv 1)) (pg_sub (pv 0) pe_int set_list)) (pss_one (ps_ret (pv 2))))) pss_nil) (pss_cons (ps_asg (pe_op op_add (pe_ix ix_obj (pv 0) pe_int (fun _ _ => rfl)) pe_int) (pg_sub (pv 0) pe_int set_list)) (pss_cons (ps_set (i := 3) ND rfl (by first | exact Or.inl rfl | exact Or.inr rfl) (pe_op op_mod (pe_op op_pow (pe_op op_add (pe_ix ix_obj (pv 0) pe_int (fun _ _ => rfl)) (pe_op op_mul pe_int (pe_ix ix_obj (pv 0) pe_int (fun _ _ => rfl)))) pe_int) pe_int)) (pss_cons (ps_set (i := 4) ND rfl (by first | exact Or.inl rfl | exact Or.inr rfl) (pe_op op_mod (pe_op op_mul (pe_op op_add (pv 3) (pe_ix ix_obj (pv 0) pe_int (fun _ _ => rfl))) (pe_op op_add (pe_op op_add (pe_op op_mod (pv 3) pe_int) pe_int) (pe_ix ix_obj (pv 0) pe_int (fun _ _ => rfl)))) pe_int)) (pss_one (ps_ret (pe_op op_mod (pe_op op_fdiv (pe_op op_mod (pe_op op_add (pe_op op_mul (pv 4) pe_int) (pv 3)) pe_int) pe_int) (pv 1)))))))), ?_⟩
  walk_at "rd"
  refine Ix.lst hT (atI_nat (j := 0) rfl) ?_
  walk_at "rd"
  refine and_if (fun c1 => ?_) (fun c1 => ?_)
  · refine Ix.lst hT (atI_nat (j := 0) rfl) ?_
    walk_at "rd"
    refine ⟨hm, Ix.lst hT (atI_nat (j := 0) rfl) ?_⟩
    walk_at "rd"
    refine ⟨⟨hm, Int.lt_trans hm2 (by decide)⟩, a, _, 0, 0, rfl, rfl, hT, rfl, ?_⟩
    refine q _ _ (Int.emod_nonneg _ (by omega)) (Int.emod_lt_of_pos _ hm) ⟨x / m, y, z, upd_same, Int.ediv_nonneg hx (by omega), hy, hy2, hz, by omega⟩ SX.upd
  · refine Ix.lst hT (atI_nat (j := 2) rfl) ?_
    walk_at "rd"
    refine ⟨a, _, 2, 2, rfl, rfl, hT, rfl, ?_⟩
    have hT2 : upd H a (.lst [.int x, .int y, .int (z + 1)]) a = some (.lst [.int x, .int y, .int (z + 1)]) := upd_same
    show rIxO (V.ref a) (V.int 1) (upd H a (.lst [.int x, .int y, .int (z + 1)])) _
    generalize eH : upd H a (.lst [.int x, .int y, .int (z + 1)]) = H2 at hT2 ⊢
    have sx : SX a H H2 := by rw [← eH]; exact SX.upd
    refine Ix.lst hT2 (atI_nat (j := 1) rfl) (Ix.lst hT2 (atI_nat (j := 2) rfl) ?_)
    walk_at "rd"
    refine ⟨.inl (by decide), ⟨by decide, by decide, by omega⟩, by decide, Ix.lst hT2 (atI_nat (j := 2) rfl) ?_⟩
    generalize eo : (y + 39373 * (z + 1)) ^ Int.toNat 5 % 2147483647 = o
    have o1 : 0 ≤ o := by rw [← eo]; exact Int.emod_nonneg _ (by decide)
    have o2 : o < 2147483647 := by rw [← eo]; exact Int.emod_lt_of_pos _ (by decide)
    walk_at "rd"
    refine ⟨by decide, Ix.lst hT2 (atI_nat (j := 2) rfl) ?_⟩
    walk_at "rd"
    have m1 := Int.emod_nonneg o (show (40009 : Int) ≠ 0 by decide)
    have m2 := Int.emod_lt_of_pos o (show (0 : Int) < 40009 by decide)
    refine ⟨.inl (by omega), by decide, ?_⟩
    generalize et : (o + (z + 1)) * (o % 40009 + 7 + (z + 1)) % 2147483629 = t
    have t1 : 0 ≤ t := by rw [← et]; exact Int.emod_nonneg _ (by decide)
    have t2 : t < 2147483629 := by rw [← et]; exact Int.emod_lt_of_pos _ (by decide)
    refine ⟨.inl (by omega), by decide, ⟨by decide, by decide⟩, hm, ?_⟩
    exact q _ _ (Int.emod_nonneg _ (by omega)) (Int.emod_lt_of_pos _ hm) ⟨x, y, z + 1, hT2, hx, hy, hy2, by omega, by omega⟩ sx
theorem Draw.of {a : Addr} {m : Int} {n : Nat} {H : Hp} {Q : VK} {E : XK} (t : Tp H a n) (hn : n ≤ 1000000000) (h1 : 0 < m) (h2 : m < 1000000000000000) (q : ∀ v H', 0 ≤ v → v < m → Tp H' a (n + 1) → SX a H H' → Q (.int v) H') : spDraw ([.ref a, .int m] ++ []) H Q E := ⟨a, m, n, rfl, t, hn, h1, h2, q⟩
end
end K13
namespace K13
open PySem L2
local macro_rules | `(tactic| walk_at "rd") => `(tactic| simp only [L2.start, List.map_cons, List.map_nil, List.length_cons, List.length_nil, Nat.reduceAdd, Nat.reduceSub, List.replicate, List.cons_append, List.nil_append, List.append_nil,
  tSeq, tIfS, tRet, tRetN, tNext, tAsg, gName, tDrop, rd_var0, rd_varS, rd_gcons, rd_gnil, if_true, if_false, Bool.false_eq_true, Bool.not_true, Bool.not_false, rd_set0, rd_setS, rd_eqI, rd_neI, rd_eqS, rd_neS, rd_argI, rd_argB, rd_argII, rd_test, rd_int, rd_ii, tC, tOp, tUn, rI0, rI, rU, tTest, tAnd, tOr, tNot, tAndV, tOrV, tNotV, tIf, tCall, tCB, tCons, tNil, tB, tChain, tSl, tNoPart, tPart, gSub, tPar, tLst, tTup, tLstW, tTupW, tBM, tAug, tPar3, tAugS, ipI, tMaxD, tGT2])
section
variable {P : Program} {w : World} {K : PySem.W.Frag} {mg : Str → Option Value} {base : Heap} {f : Addr} {fd : FuncData} {k : Nat}
def nextI (x : Pst) (st : Stn) (c : Int) : Stn := withI x (movedI x st c) (chI x st c 12)
def rowI (x : Pst) (st : Stn) (c : Int) : List Int := [doneI x st c, c - takenI x st c, chI x st c 12]
def playI (x : Pst) : Stn → List Int → List (List Int)
  | _, [] => []
  | st, c :: cs => rowI x st c :: playI x (nextI x st c) cs
def afterI (x : Pst) : Stn → List Int → Stn
  | st, [] => st
  | st, c :: cs => afterI x (nextI x st c) cs
theorem afterI_append (x : Pst) : ∀ (st : Stn) (l : List Int) (c : Int), afterI x st (l ++ [c]) = nextI x (afterI x st l) c
  | _, [], _ => rfl
  | st, d :: l, c => afterI_append x (nextI x st d) l c
theorem playI_append (x : Pst) : ∀ (st : Stn) (l : List Int) (c : Int), playI x st (l ++ [c]) = playI x st l ++ [rowI x (afterI x st l) c]
  | _, [], _ => rfl
  | st, d :: l, c => by
    show rowI x st d :: playI x (nextI x st d) (l ++ [c]) = rowI x st d :: (playI x (nextI x st d) l ++ [rowI x (afterI x (nextI x st d) l) c])
    rw [playI_append]
theorem playI_len (x : Pst) : ∀ (st : Stn) (l : List Int), (playI x st l).length = l.length
  | _, [] => rfl
  | st, d :: l => by show (playI x (nextI x st d) l).length + 1 = l.length + 1; rw [playI_len]
theorem with_is {x : Pst} {st : Stn} {ch : Int} (hx : PsIs x) (hs : StIs st) : StIs (withI x st ch) := by
  have hc := hs.c
  have ha := hx.a
  unfold withI
  split
  · exact hs
  · split
    · refine ⟨?_, hs.u, hs.l⟩
      simp only [List.length_append, List.length_take, List.length_drop, List.length_cons, List.length_nil]
      omega
    · refine ⟨?_, hs.u, hs.l⟩
      simp only [goHome_len]
      exact hc
theorem next_is {x : Pst} {st : Stn} {c : Int} (hx : PsIs x) (hs : StIs st) : StIs (nextI x st c) := with_is hx (moved_is hs)
theorem after_is {x : Pst} (hx : PsIs x) : ∀ {l : List Int} {st : Stn}, StIs st → StIs (afterI x st l)
  | [], _, hs => hs
  | c :: l, _, hs => after_is hx (l := l) (next_is hx hs)
def spFirst : Sp := fun vs H Q _ => ∃ (v : V) (x : Pst), vs = [v] ∧ At H (pstD x) v ∧ ∀ u H', Same H H' → At H' (stD ⟨0, x.lo, [0, 0, 0, 0, 0], 0, 0, [[0, 0, 0], [0, 0, 0], [0, 0, 0]]⟩) u → Q u H'
theorem pst_shape2 {H : Hp} {x : Pst} {v : V} (h : At H (pstD x) v) : ∃ a b c d, v = .ref a ∧ H a = some (.tup [.int x.p, .int x.m, .ref b, .int x.a, .int x.e, .ref c, .ref d]) ∧ H b = some (.tup [.int x.lo, .int x.hi]) ∧ H c = some (.tup [.int x.u, .int x.d]) ∧ At H (rulesP x.rss) (.ref d) := by
  obtain ⟨a, xs, rfl, h1, h2⟩ := tup_ats h
  obtain ⟨x0, _, rfl, b0, h2⟩ := AtAll.uncons h2
  obtain ⟨x1, _, rfl, b1, h2⟩ := AtAll.uncons h2
  obtain ⟨x2, _, rfl, b2, h2⟩ := AtAll.uncons h2
  obtain ⟨x3, _, rfl, b3, h2⟩ := AtAll.uncons h2
  obtain ⟨x4, _, rfl, b4, h2⟩ := AtAll.uncons h2
  obtain ⟨x5, _, rfl, b5, h2⟩ := AtAll.uncons h2
  obtain ⟨x6, _, rfl, b6, h2⟩ := AtAll.uncons h2
  cases AtAll.unnil h2
  unfold At at b0 b1 b3 b4
  subst b0 b1 b3 b4
  obtain ⟨b, ys, rfl, g3, g4⟩ := tup_ats b2
  obtain ⟨c, zs, rfl, g1, g2⟩ := tup_ats b5
  obtain ⟨d, ws, rfl, _, _⟩ := tup_ats b6
  cases ats_back (cs := [x.u, x.d]) g2
  cases ats_back (cs := [x.lo, x.hi]) g4
  exact ⟨a, b, c, d, rfl, h1, g3, g1, b6⟩
theorem sc_first_stand : FnScope ["post", "least", "nothing"] ["post"] (defScope s_first_stand) := ⟨rfl, rfl, rfl, by decide +kernel, rfl, by decide +kernel, by decide +kernel⟩
theorem ok_first_stand (F : Fun K "first_stand" "first_stand" s_first_stand f fd) (B : Bi mg) : FnOk P w K mg base CX0 (k + 1) f fd ["post"] spFirst := by
  refine F.ok sc_first_stand (by rintro vs H Q E ⟨v, x, rfl, _⟩; rfl) (fun cdv A outer s H vs Q E hr h => ?_)
  obtain ⟨pA, x, rfl, a1, q⟩ := h
  have ND := sc_first_stand.nd
  refine ⟨_, (pss_cons (ps_set (i := 1) ND rfl (by first | exact Or.inl rfl | exact Or.inr rfl) (pe_ix ix_obj (pe_ix ix_obj (pv 0) pe_int (fun _ _ => rfl)) pe_int (fun _ _ => rfl))) (pss_cons (ps_set (i := 2) ND rfl (by first | exact Or.inl rfl | exact Or.inr rfl) (pe_tupW (pa_c pe_int (pa_c pe_int (pa_c pe_int pa_nil))))) (pss_one (ps_ret (pe_tupW (pa_c pe_int (pa_c (pv 1) (pa_c (pe_tupW (pa_c pe_int (pa_c pe_int (pa_c pe_int (pa_c pe_int (pa_c pe_int pa_nil)))))) (pa_c pe_int (pa_c pe_int (pa_c (pe_tupW (pa_c (pv 2) (pa_c (pv 2) (pa_c (pv 2) pa_nil)))) pa_nil))))))))))), ?_⟩
  obtain ⟨pa, pb, pc, pd, rfl, p1, p2, p3, _⟩ := pst_shape2 a1
  walk_at "rd"
  refine Ix.tup p1 (v := .ref pb) rfl (Ix.tup p2 (v := .int x.lo) rfl ⟨(by decide), fun p4 H4 f4 s4 e4 => ⟨(by decide), fun p5 H5 f5 s5 e5 => ⟨(by decide), fun p6 H6 f6 s6 e6 => ⟨(by decide), fun p7 H7 f7 s7 e7 => ?_⟩⟩⟩⟩)
  have s47 := s5.trans (s6.trans s7)
  refine q _ _ (s4.trans s47) ?_
  have tri : At H7 (triD [0, 0, 0]) (.ref p4) := At.tup (s47 _ _ e4) (ats_ints [0, 0, 0])
  exact At.tup e7 (AtAll.cons (At.int _) (AtAll.cons (At.int _) (AtAll.cons (At.tup ((s6.trans s7) _ _ e5) (ats_ints [0, 0, 0, 0, 0])) (AtAll.cons (At.int _) (AtAll.cons (At.int _) (AtAll.cons (At.tup (s7 _ _ e6) (AtAll.cons tri (AtAll.cons tri (AtAll.cons tri AtAll.nil)))) AtAll.nil))))))
theorem ints_noL : ∀ cs : List Int, noLAll (cs.map PyData.int) = true
  | [] => rfl
  | c :: cs => by show (noL (.int c) && noLAll (cs.map .int)) = true; rw [ints_noL cs]; rfl
theorem tris_noL : ∀ us : List (List Int), noLAll (us.map triD) = true
  | [] => rfl
  | u :: us => by
    show (noLAll (u.map PyData.int) && noLAll (us.map triD)) = true
    rw [tris_noL us, ints_noL u]; rfl
theorem stD_noL (n : Stn) : noL (stD n) = true := by
  simp only [stD, noL, noLAll, ints_noL, tris_noL, Bool.and_self]
def spPlayed : Sp := fun vs H Q _ => ∃ (v u : V) (l : Addr) (x : Pst) (st : Stn) (load : List Int), vs = [v, u, .ref l] ∧ At H (pstD x) v ∧ At H (stD st) u ∧ PsIs x ∧ StIs st ∧ H l = some (.lst (load.map V.int)) ∧ load.length ≤ 900 ∧
  ∀ p xs H', Same H H' → H p = none → H' p = some (.lst xs) → AtAll H' ((playI x st load).map triD) xs → Q (.ref p) H'
theorem sc_played : FnScope ["post", "stand", "load", "told", "come", "done", "away", "change"] ["post", "stand", "load"] (defScope s_played) := ⟨rfl, rfl, rfl, by decide +kernel, rfl, by decide +kernel, by decide +kernel⟩
theorem ok_played (F : Fun K "played" "played" s_played f fd) (B : Bi mg) (c_beat : CtD P w K mg base k "beat" ["post", "stand", "come", "free"] 12 spBeat) : FnOk P w K mg base CX0 (k + 1) f fd ["post", "stand", "load"] spPlayed := by
  refine F.ok sc_played (by rintro vs H Q E ⟨v, u, l, x, st, load, rfl, _⟩; rfl) (fun cdv A outer s H vs Q E hr h => ?_)
  obtain ⟨pA, sA, l, x, st, load, rfl, a1, a2, hx, hs, hl, hz, q⟩ := h
  have ND := sc_played.nd
  refine ⟨_, (pss_cons (ps_set (i := 3) ND rfl (by first | exact Or.inl rfl | exact Or.inr rfl) (pe_lstW pa_nil)) (pss_cons (ps_for PassesOwn.never rfl (pi_list (pv 2)) (pg_name (i := 4) ND rfl (by first | exact Or.inl rfl | exact Or.inr rfl)) (pss_cons (ps_asg (pfd c_beat hr (pa_c (pv 0) (pa_c (pv 1) (pa_c (pv 4) pa_nil)))) (pg_tup rfl (pgs_cons (pg_name (i := 1) ND rfl (by first | exact Or.inl rfl | exact Or.inr rfl)) (pgs_cons (pg_name (i := 5) ND rfl (by first | exact Or.inl rfl | exact Or.inr rfl)) (pgs_cons (pg_name (i := 6) ND rfl (by first | exact Or.inl rfl | exact Or.inr rfl)) (pgs_cons (pg_name (i := 7) ND rfl (by first | exact Or.inl rfl | exact Or.inr rfl)) pgs_nil)))))) (pss_one (ps_expr (pe_bm PySem.F.plainAttrs_list PySem.F.slot_list_append PySem.F.type_list_append mt_append (pv 3) (pa_c (pe_tupW (pa_c (pv 5) (pa_c (pv 6) (pa_c (pv 7) pa_nil)))) pa_nil)))))) (pss_one (ps_ret (pv 3))))), ?_⟩
  walk_at "rd"
  refine ⟨(by decide), fun p H1 f1 s1 e1 => ?_⟩
  rw [tFor_lst]
  walk_at "rd"
  have pl : l ≠ p := fun z => by rw [z, f1] at hl; cases hl
  refine LK.of (s1 _ _ hl) (fun i σ H' => ∃ (u : V) (o1 o2 o3 o4 : Option V) (xs : List V), σ = [some pA, some u, some (.ref l), some (.ref p), o1, o2, o3, o4] ∧ At H' (stD (afterI x st (load.take i))) u ∧ H' p = some (.lst xs) ∧ AtAll (hid p H') ((playI x st (load.take i)).map triD) xs ∧ SX p H H')
    ⟨_, _, _, _, _, _, rfl, a2.mono s1, e1, AtAll.nil, SX.of s1⟩ (fun i σ H' _ ⟨_, _, _, _, _, _, _, _, _, _, sx⟩ => sx.get pl hl) ?_ ?_
  · rintro i y σ H2 hy ⟨u, o1, o2, o3, o4, xs, rfl, a3, e3, a4, sx⟩
    rw [List.getElem?_map] at hy
    obtain ⟨c, hc, rfl⟩ := Option.map_eq_some_iff.mp hy
    walk_at "rd"
    have sH := SX.same f1 sx
    refine ⟨pA, u, x, _, c, 12, rfl, a1.mono sH, a3, hx, after_is hx hs, fun p5 u5 H5 s5 a5 e5 => ?_⟩
    refine ⟨p5, _, rfl, SqT.of e5, rfl, ?_⟩
    walk_at "rd"
    refine ⟨.inl ⟨rfl, _, SqL.of (s5 _ _ e3)⟩, (by decide), fun p6 H6 f6 s6 e6 => ?_⟩
    have s56 := s5.trans s6
    have e36 := s56 _ _ e3
    have n6 : p6 ≠ p := fun z => by rw [← z] at e3; rw [s5 _ _ e3] at f6; cases f6
    have hn : xs.length = (load.take i).length := by rw [a4.length, List.length_map, playI_len]
    have hi : i < load.length := (List.getElem?_eq_some_iff.mp hc).1
    refine ⟨p, xs, _, rfl, rfl, e36, small1000 (by rw [hn, List.length_take]; omega), ?_⟩
    have hg := take_snoc hc
    rw [hg, afterI_append, playI_append]
    refine ⟨u5, _, _, _, _, _, rfl, ?_, upd_same, ?_, (sx.trans (SX.of s56)).trans SX.upd⟩
    · exact ((At.hidL e36 _ _ (stD_noL _) (a5.mono s6)).mono (by rw [← hid_upd (o := HO.lst (xs ++ [V.ref p6]))]; exact Same.refl _)).mono hid_sub
    · rw [hid_upd, List.map_append]
      exact AtAll.append (a4.mono (Same.hid s56)) (AtAll.cons (At.tup (by rw [hid_ne n6]; exact e6) (ats_ints _)) AtAll.nil)
  · rintro σ H2 ⟨u, o1, o2, o3, o4, xs, rfl, a3, e3, a4, sx⟩
    walk_at "rd"
    rw [List.length_map, List.take_length] at a4
    exact q p xs H2 (SX.same f1 sx) f1 e3 (a4.mono hid_sub)
def spAfter : Sp := fun vs H Q _ => ∃ (v u : V) (l : Addr) (x : Pst) (st : Stn) (load : List Int), vs = [v, u, .ref l] ∧ At H (pstD x) v ∧ At H (stD st) u ∧ PsIs x ∧ StIs st ∧ H l = some (.lst (load.map V.int)) ∧
  ∀ u' H', Same H H' → At H' (stD (afterI x st load)) u' → Q u' H'
theorem sc_after : FnScope ["post", "stand", "load", "come"] ["post", "stand", "load"] (defScope s_after) := ⟨rfl, rfl, rfl, by decide +kernel, rfl, by decide +kernel, by decide +kernel⟩
theorem ok_after (F : Fun K "after" "after" s_after f fd) (B : Bi mg) (c_beat : CtD P w K mg base k "beat" ["post", "stand", "come", "free"] 12 spBeat) : FnOk P w K mg base CX0 (k + 1) f fd ["post", "stand", "load"] spAfter := by
  refine F.ok sc_after (by rintro vs H Q E ⟨v, u, l, x, st, load, rfl, _⟩; rfl) (fun cdv A outer s H vs Q E hr h => ?_)
  obtain ⟨pA, sA, l, x, st, load, rfl, a1, a2, hx, hs, hl, q⟩ := h
  have ND := sc_after.nd
  refine ⟨_, (pss_cons (ps_for PassesOwn.never rfl (pi_list (pv 2)) (pg_name (i := 3) ND rfl (by first | exact Or.inl rfl | exact Or.inr rfl)) (pss_one (ps_set (i := 1) ND rfl (by first | exact Or.inl rfl | exact Or.inr rfl) (pe_ix ix_obj (pfd c_beat hr (pa_c (pv 0) (pa_c (pv 1) (pa_c (pv 3) pa_nil)))) pe_int (fun _ _ => rfl))))) (pss_one (ps_ret (pv 1)))), ?_⟩
  walk_at "rd"
  rw [tFor_lst]
  walk_at "rd"
  refine LK.of hl (fun i σ H' => ∃ (u : V) (o1 : Option V), σ = [some pA, some u, some (.ref l), o1] ∧ At H' (stD (afterI x st (load.take i))) u ∧ Same H H')
    ⟨_, _, rfl, a2, Same.refl _⟩ (fun i σ H' _ ⟨_, _, _, _, sm⟩ => sm _ _ hl) ?_ ?_
  · rintro i y σ H2 hy ⟨u, o1, rfl, a3, sm⟩
    rw [List.getElem?_map] at hy
    obtain ⟨c, hc, rfl⟩ := Option.map_eq_some_iff.mp hy
    walk_at "rd"
    refine ⟨pA, u, x, _, c, 12, rfl, a1.mono sm, a3, hx, after_is hx hs, fun p5 u5 H5 s5 a5 e5 => ?_⟩
    refine Ix.tup e5 (v := u5) rfl ?_
    have hg := take_snoc hc
    rw [hg, afterI_append]
    exact ⟨u5, _, rfl, a5, sm.trans s5⟩
  · rintro σ H2 ⟨u, o1, rfl, a3, sm⟩
    walk_at "rd"
    rw [List.length_map, List.take_length] at a3
    exact q u H2 sm a3
end
end K13
namespace K13
open PySem L2
local macro_rules | `(tactic| walk_at "rd") => `(tactic| simp only [L2.start, List.map_cons, List.map_nil, List.length_cons, List.length_nil, Nat.reduceAdd, Nat.reduceSub, List.replicate, List.cons_append, List.nil_append, List.append_nil,
  tSeq, tIfS, tRet, tRetN, tNext, tAsg, gName, tDrop, rd_var0, rd_varS, rd_gcons, rd_gnil, if_true, if_false, Bool.false_eq_true, Bool.not_true, Bool.not_false, rd_set0, rd_setS, rd_eqI, rd_neI, rd_eqS, rd_neS, rd_argI, rd_argB, rd_argII, rd_test, rd_int, rd_ii, tC, tOp, tUn, rI0, rI, rU, tTest, tAnd, tOr, tNot, tAndV, tOrV, tNotV, tIf, tCall, tCB, tCons, tNil, tB, tChain, tSl, tNoPart, tPart, gSub, tPar, tLst, tTup, tLstW, tTupW, tBM, tAug, tPar3, tAugS, ipI, tMaxD, tGT2])
section
variable {P : Program} {w : World} {K : PySem.W.Frag} {mg : Str → Option Value} {base : Heap} {f : Addr} {fd : FuncData} {k : Nat}
structure PsL (x : Pst) (sp : Nat) (nb : Int) : Prop where
  p : 1 ≤ x.p ∧ x.p ≤ 1000000
  m : x.m = 1000000000000
  lo : 0 ≤ x.lo ∧ x.lo ≤ x.hi
  hi : x.hi ≤ 12
  a : x.a ≤ 4
  e : x.e = 1
  u : x.u = 0
  d : x.d = 0
  s : 1 ≤ sp ∧ sp ≤ 4
  n : 1 ≤ nb ∧ nb ≤ 100000000000
  r : x.rss = [[⟨"come", sp, "each", nb, 0⟩]]
def spPost : Sp := fun vs H Q _ => ∃ (a : Addr) (n : Nat), vs = [.ref a] ∧ Tp H a n ∧ n ≤ 100000000 ∧ ∀ p x sp nb H', PsL x sp nb → At (hid a H') (pstD x) (.ref p) → Tp H' a (n + 20) → SX a H H' → Q (.ref p) H'
theorem sc_l_post : FnScope ["_law_tape_here", "_law_most", "_law_least", "_law_number", "_law_row"] ["_law_tape_here"] (defScope s_l_post) := ⟨rfl, rfl, rfl, by decide +kernel, rfl, by decide +kernel, by decide +kernel⟩
theorem ok_l_post (F : Fun K "_law_post" "_law_post" s_l_post f fd) (B : Bi mg) (c_l_draw : Ct P w K mg base k "_law_draw" ["_law_tape_here", "_law_many"] spDraw) : FnOk P w K mg base CX0 (k + 1) f fd ["_law_tape_here"] spPost := by
  refine F.ok sc_l_post (by rintro vs H Q E ⟨a, n, rfl, _⟩; rfl) (fun cdv A outer s H vs Q E hr h => ?_)
  obtain ⟨a, n, rfl, tp, hn, q⟩ := h
  have ND := sc_l_post.nd
  refine ⟨_, (pss_cons (ps_set (i := 1) ND rfl (by first | exact Or.inl rfl | exact Or.inr rfl) (pe_op op_add pe_int (pf c_l_draw hr (pa_c (pv 0) (pa_c pe_int pa_nil))))) (pss_cons (ps_set (i := 2) ND rfl (by first | exact Or.inl rfl | exact Or.inr rfl) (pe_op op_mul (pf c_l_draw hr (pa_c (pv 0) (pa_c pe_int pa_nil))) (pt (call_intB) B.int bt_int (pa_c (pe_cmpR op_gt (pv 1) pe_int (nomark _)) pa_nil)))) (pss_cons (ps_set (i := 3) ND rfl (by first | exact Or.inl rfl | exact Or.inr rfl) (pe_ix ix_obj (pe_lstW (pa_c (pe_op op_add pe_int (pf c_l_draw hr (pa_c (pv 0) (pa_c pe_int pa_nil)))) (pa_c (pe_op op_add pe_int (pf c_l_draw hr (pa_c (pv 0) (pa_c (pe_op op_pow pe_int pe_int) pa_nil)))) (pa_c (pe_op op_pow pe_int pe_int) pa_nil)))) (pf c_l_draw hr (pa_c (pv 0) (pa_c pe_int pa_nil))) (fun _ _ => rfl))) (pss_cons (ps_set (i := 4) ND rfl (by first | exact Or.inl rfl | exact Or.inr rfl) (pe_tupW (pa_c pe_str (pa_c (pe_op op_add pe_int (pf c_l_draw hr (pa_c (pv 0) (pa_c pe_int pa_nil)))) (pa_c pe_str (pa_c (pv 3) (pa_c pe_int pa_nil))))))) (pss_one (ps_ret (pe_tupW (pa_c (pe_op op_add pe_int (pf c_l_draw hr (pa_c (pv 0) (pa_c (pe_op op_pow pe_int pe_int) pa_nil)))) (pa_c (pe_op op_pow pe_int pe_int) (pa_c (pe_tupW (pa_c (pv 2) (pa_c (pv 1) pa_nil))) (pa_c (pf c_l_draw hr (pa_c (pv 0) (pa_c pe_int pa_nil))) (pa_c pe_int (pa_c (pe_tupW (pa_c pe_int (pa_c pe_int pa_nil))) (pa_c (pe_tupW (pa_c (pe_tupW (pa_c (pv 4) pa_nil)) pa_nil)) pa_nil)))))))))))))), ?_⟩
  have e6 : (10 : Int) ^ Int.toNat 6 = 1000000 := by decide
  have e11 : (10 : Int) ^ Int.toNat 11 = 100000000000 := by decide
  have e12 : (10 : Int) ^ Int.toNat 12 = 1000000000000 := by decide
  walk_at "rd"
  refine Draw.of tp (by omega) (by decide) (by decide) fun y1 H1 l1 u1 t1 s1 => ?_
  walk_at "rd"
  refine Draw.of t1 (by omega) (by decide) (by decide) fun y2 H2 l2 u2 t2 s2 => ?_
  walk_at "rd"
  refine ⟨.inr (by split <;> decide), ?_⟩
  obtain ⟨lo, hlo, elo⟩ : ∃ lo : Int, (0 ≤ lo ∧ lo ≤ 1 + y1) ∧ (y2 * if decide (2 < 1 + y1) = true then 1 else 0) = lo := by
    by_cases c : 2 < 1 + y1
    · rw [if_pos (decide_eq_true c)]; exact ⟨y2, by omega, by omega⟩
    · rw [if_neg (by simpa using c)]; exact ⟨0, by omega, by omega⟩
  rw [elo]
  refine Draw.of t2 (by omega) (by decide) (by decide) fun y3 H3 l3 u3 t3 s3 => ⟨_, _, rfl, rfl, ⟨by decide, by decide, by decide⟩, ?_⟩
  refine Draw.of t3 (by omega) (by decide) (by decide) fun y4 H4 l4 u4 t4 s4 => ⟨_, _, rfl, rfl, ⟨by decide, by decide, by decide⟩, (by decide), fun p5 H5 f5 s5 e5 => ?_⟩
  rw [e6] at u4
  rw [e11] at e5
  have n5 := t4.ne f5
  have t5 := t4.same s5
  refine Draw.of t5 (by omega) (by decide) (by decide) fun y6 H6 l6 u6 t6 s6 => ?_
  obtain ⟨nb, hnb, enb⟩ := pick_ints (ts := [1 + y3, 1 + y4, 100000000000]) l6 u6
  have hnb' : 1 ≤ nb ∧ nb ≤ 100000000000 := by
    simp only [List.mem_cons, List.not_mem_nil, or_false] at hnb
    rcases hnb with rfl | rfl | rfl <;> omega
  refine Ix.lst (s6.get n5 e5) enb ?_
  clear hnb enb l6 u6
  refine Draw.of t6 (by omega) (by decide) (by decide) fun y7 H7 l7 u7 t7 s7 => ⟨_, _, rfl, rfl, (by decide), fun p8 H8 f8 s8 e8 => ?_⟩
  have n8 := t7.ne f8
  have t8 := t7.same s8
  refine ⟨⟨by decide, by decide, by decide⟩, Draw.of t8 (by omega) (by decide) (by decide) fun y9 H9 l9 u9 t9 s9 => ?_⟩
  rw [e6] at u9
  walk_at "rd"
  refine ⟨⟨by decide, by decide, by decide⟩, (by decide), fun p10 H10 f10 s10 e10 => ?_⟩
  have n10 := t9.ne f10
  have t10 := t9.same s10
  refine Draw.of t10 (by omega) (by decide) (by decide) fun y11 H11 l11 u11 t11 s11 => ⟨(by decide), fun p12 H12 f12 s12 e12' => ⟨(by decide), fun p13 H13 f13 s13 e13 => ⟨(by decide), fun p14 H14 f14 s14 e14 => ⟨(by decide), fun p15 H15 f15 s15 e15 => ?_⟩⟩⟩⟩
  have t12 := t11.same s12
  have t13 := t12.same s13
  have t14 := t13.same s14
  have n12 := t11.ne f12
  have n13 := t12.ne f13
  have n14 := t13.ne f14
  have n15 := t14.ne f15
  obtain ⟨la, hla⟩ : ∃ la : Nat, y11 = (la : Int) := ⟨y11.toNat, by omega⟩
  obtain ⟨sp, hsp⟩ : ∃ sp : Nat, 1 + y7 = (sp : Int) := ⟨(1 + y7).toNat, by omega⟩
  rw [hla, e12] at e15
  rw [hsp] at e8
  have x10 : SX a H10 H15 := s11.trans (SX.of (s12.trans (s13.trans (s14.trans s15))))
  have x8 : SX a H8 H15 := s9.trans ((SX.of s10).trans x10)
  refine q p15 ⟨1 + y9, 1000000000000, lo, 1 + y1, la, 1, 0, 0, [[⟨"come", sp, "each", nb, 0⟩]]⟩ sp nb H15 ⟨by show 1 ≤ 1 + y9 ∧ 1 + y9 ≤ 1000000; omega, rfl, hlo, by show 1 + y1 ≤ 12; omega, by show la ≤ 4; omega, rfl, rfl, rfl, by omega, hnb', rfl⟩ ?_ ((t14.same s15).mono (by omega)) ?_
  · exact At.tup (by rw [hid_ne n15]; exact e15) (AtAll.cons (At.int _) (AtAll.cons (At.int _) (AtAll.cons (At.tup (by rw [hid_ne n10]; exact x10.get n10 e10) (ats_ints [lo, 1 + y1])) (AtAll.cons (At.int _) (AtAll.cons (At.int _) (AtAll.cons (At.tup (by rw [hid_ne n12]; exact (s13.trans (s14.trans s15)) _ _ e12') (ats_ints [0, 0])) (AtAll.cons (At.tup (by rw [hid_ne n14]; exact s15 _ _ e14) (AtAll.cons (At.tup (by rw [hid_ne n13]; exact (s14.trans s15) _ _ e13) (AtAll.cons (At.tup (by rw [hid_ne n8]; exact x8.get n8 e8) (AtAll.cons (At.str _) (AtAll.cons (At.int _) (AtAll.cons (At.str _) (AtAll.cons (At.int _) (AtAll.cons (At.int _) AtAll.nil)))))) AtAll.nil)) AtAll.nil)) AtAll.nil)))))))
  · exact s1.trans (s2.trans (s3.trans (s4.trans ((SX.of s5).trans (s6.trans (s7.trans ((SX.of s8).trans x8)))))))
def Rising (l : List Int) : Prop := l.Pairwise (· ≤ ·) ∧ ∀ c ∈ l, 0 ≤ c ∧ c ≤ 1000000000000
def spLoad (K : PySem.W.Frag) : Sp := fun vs H Q _ => ∃ (a s : Addr) (n : Nat) (ns : List Int) (nb : Int), vs = [.ref s, .ref a, .int nb] ∧ Scr K H s (ns.map V.int) ∧ ns.length ≤ 63 ∧ Tp H a n ∧ n ≤ 100000000 ∧ 1 ≤ nb ∧ ∀ p (load : List Int) H', H p = none → H' p = some (.lst (load.map V.int)) → Rising load → 15 ≤ load.length ∧ load.length ≤ 126 → Tp H' a (n + 400) → SX a H H' → Q (.ref p) H'
theorem sc_l_load : FnScope ["_law_script", "_law_tape_here", "_law_number", "_law_load_here", "_law_now", "_law_step", "_law_k", "_law_cell"] ["_law_script", "_law_tape_here", "_law_number"] (defScope s_l_load) := ⟨rfl, rfl, rfl, by decide +kernel, rfl, by decide +kernel, by decide +kernel⟩
theorem ok_l_load (F : Fun K "_law_load" "_law_load" s_l_load f fd) (B : Bi mg) (c_l_draw : Ct P w K mg base k "_law_draw" ["_law_tape_here", "_law_many"] spDraw) : FnOk P w K mg base CX0 (k + 1) f fd ["_law_script", "_law_tape_here", "_law_number"] (spLoad K) := by
  refine F.ok sc_l_load (by rintro vs H Q E ⟨a, s, n, ns, nb, rfl, _⟩; rfl) (fun cdv A outer s H vs Q E hr h => ?_)
  obtain ⟨a, sc, n, ns, nb, rfl, hS, hl, tp, hn, hnb, q⟩ := h
  have ND := sc_l_load.nd
  refine ⟨_, (pss_cons (ps_par (i := 3) (j := 4) rfl ND rfl rfl (by decide) rfl rfl (pa_c (pe_lstW pa_nil) (pa_c pe_int pa_nil)) (by rfl)) (pss_cons (ps_set (i := 5) ND rfl (by first | exact Or.inl rfl | exact Or.inr rfl) (pe_ix ix_obj (pe_lstW (pa_c pe_int (pa_c (pv 2) (pa_c (pe_op op_add (pe_op op_fdiv (pv 2) pe_int) pe_int) (pa_c (pe_op op_add pe_int (pf c_l_draw hr (pa_c (pv 1) (pa_c (pe_op op_pow pe_int pe_int) pa_nil)))) pa_nil))))) (pf c_l_draw hr (pa_c (pv 1) (pa_c pe_int pa_nil))) (fun _ _ => rfl))) (pss_cons (ps_for PassesOwn.never rfl (pi_range1 (by rfl) B.range (pa_c (pb (call_max2 rfl) B.max bt_max (pa_c pe_int (pa_c (pb (call_min2 rfl) B.min bt_min (pa_c (pe_op op_mul (pb (call_lenK (K := K) rfl) B.len bt_len (pa_c (pv 0) pa_nil)) pe_int) (pa_c pe_int pa_nil))) pa_nil))) pa_nil)) (pg_name (i := 6) ND rfl (by first | exact Or.inl rfl | exact Or.inr rfl)) (pss_cons (ps_set (i := 7) ND rfl (by first | exact Or.inl rfl | exact Or.inr rfl) (pe_ifExp (pt_cmpR op_gt (pb (call_lenK (K := K) rfl) B.len bt_len (pa_c (pv 0) pa_nil)) pe_int (nomark _)) (pe_ix ix_list (pv 0) (pe_op op_mod (pv 6) (pb (call_lenK (K := K) rfl) B.len bt_len (pa_c (pv 0) pa_nil))) (fun _ _ => rfl)) (pv 6))) (pss_cons (ps_set (i := 4) ND rfl (by first | exact Or.inl rfl | exact Or.inr rfl) (pb (call_min2 rfl) B.min bt_min (pa_c (pe_op op_pow pe_int pe_int) (pa_c (pe_op op_add (pv 4) (pe_op op_mul (pv 5) (pe_ix ix_obj (pe_lstW (pa_c pe_int (pa_c pe_int (pa_c pe_int (pa_c pe_int pa_nil))))) (pe_op op_mod (pe_op op_add (pe_op op_fdivB (pv 7) (pe_op op_add pe_int (pe_op op_fdiv (pv 6) pe_int))) (pf c_l_draw hr (pa_c (pv 1) (pa_c pe_int pa_nil)))) pe_int) (fun _ _ => rfl)))) pa_nil)))) (pss_one (ps_expr (pe_bm PySem.F.plainAttrs_list PySem.F.slot_list_append PySem.F.type_list_append mt_append (pv 3) (pa_c (pv 4) pa_nil))))))) (pss_one (ps_ret (pv 3)))))), ?_⟩
  simp only [seqOa 7]
  have e9 : (10 : Int) ^ Int.toNat 9 = 1000000000 := by decide
  have e12 : (10 : Int) ^ Int.toNat 12 = 1000000000000 := by decide
  walk_at "rd"
  refine ⟨(by decide), fun p H1 f1 s1 e1 => ⟨_, _, rfl, ⟨by decide, by decide⟩, ⟨by decide, by decide, by decide⟩, ?_⟩⟩
  have pa : p ≠ a := tp.ne f1
  refine Draw.of (tp.same s1) (by omega) (by decide) (by decide) fun y2 H2 l2 u2 t2 s2 => ⟨_, _, rfl, rfl, (by decide), fun p3 H3 f3 s3 e3 => ?_⟩
  have n3 := t2.ne f3
  refine Draw.of (t2.same s3) (by omega) (by decide) (by decide) fun y4 H4 l4 u4 t4 s4 => ?_
  obtain ⟨st, hst, est⟩ := pick_ints (ts := [1, nb, nb / 2 + 1, 1 + y2]) l4 u4
  have hst' : 0 ≤ st := by
    simp only [List.mem_cons, List.not_mem_nil, or_false] at hst
    rcases hst with rfl | rfl | rfl | rfl <;> omega
  refine Ix.lst (s4.get n3 e3) est ?_
  clear hst est l4 u4
  have x14 : SX a H H4 := (SX.of s1).trans (s2.trans ((SX.of s3).trans s4))
  have e4 : H4 p = some (.lst []) := (s2.trans ((SX.of s3).trans s4)).get pa e1
  clear e3 f3 n3 s2 s3 s4 t2
  obtain ⟨m, hm, hm8⟩ : ∃ m : Nat, (if (if (60 : Int) < (ns.length : Int) * 2 then (60 : Int) else (ns.length : Int) * 2) > 15 then (if (60 : Int) < (ns.length : Int) * 2 then (60 : Int) else (ns.length : Int) * 2) else 15) = (m : Int) ∧ 15 ≤ m ∧ m ≤ 60 := by
    refine ⟨(if (if (60 : Int) < (ns.length : Int) * 2 then (60 : Int) else (ns.length : Int) * 2) > 15 then (if (60 : Int) < (ns.length : Int) * 2 then (60 : Int) else (ns.length : Int) * 2) else 15).toNat, ?_, ?_⟩ <;> (split <;> split <;> omega)
  refine for_R (n := m) (fun R hR => ?_) (by omega) (fun i σ H' => ∃ (o1 o2 : Option V) (load : List Int) (now : Int), σ = [some (.ref sc), some (.ref a), some (.int nb), some (.ref p), some (.int now), some (.int st), o1, o2] ∧ H' p = some (.lst (load.map V.int)) ∧ Rising load ∧ (∀ c ∈ load, c ≤ now) ∧ (0 ≤ now ∧ now ≤ 1000000000000) ∧ load.length = i ∧ Tp H' a (n + 2 + i) ∧ SX a H H') ⟨_, _, [], 0, rfl, e4, ⟨List.Pairwise.nil, by simp⟩, by simp, by decide, rfl, t4, x14⟩ ?_ ?_
  · walk_at "rd"
    refine ⟨sc, _, rfl, .inl (hS.sx tp x14).sq, ?_⟩
    rw [List.length_map]
    refine ⟨_, _, rfl, rfl, .inr (by decide), ?_⟩
    rw [hm]
    exact hR
  · rintro i σ H5 hi ⟨o1, o2, load, now, rfl, e5, hri, hle, hnow, hln, t5, s5⟩
    have hS5 := hS.sx tp s5
    refine tSeqO.of (fun σ' H' => H5 = H' ∧ ∃ c : Int, σ' = [some (.ref sc), some (.ref a), some (.int nb), some (.ref p), some (.int now), some (.int st), some (V.int (0 + ↑i)), some (V.int c)]) ?_ ?_
    rotate_left 1
    · intro N hN
      walk_at "rd"
      refine ⟨sc, _, rfl, .inl hS5.sq, ?_⟩
      rw [List.length_map]
      walk_at "rd"
      by_cases c1 : 0 < (ns.length : Int)
      · rw [if_pos (decide_eq_true c1)]
        refine ⟨sc, _, rfl, .inl hS5.sq, ?_⟩
        rw [List.length_map]
        refine ⟨_, _, rfl, rfl, c1, ?_⟩
        have h1 := Int.emod_nonneg (0 + (i : Int)) (show (ns.length : Int) ≠ 0 by omega)
        have h2 := Int.emod_lt_of_pos (0 + (i : Int)) c1
        obtain ⟨t, _, et⟩ := pick_ints (ts := ns) h1 h2
        refine ⟨sc, _, _, .int t, rfl, rfl, hS5.sq, et, ?_⟩
        exact hN _ _ ⟨rfl, t, rfl⟩
      · rw [if_neg (by simpa using c1)]
        exact hN _ _ ⟨rfl, _, rfl⟩
    rintro σ' H' ⟨rfl, c, rfl⟩
    walk_at "rd"
    refine ⟨⟨by decide, by decide, by decide⟩, (by decide), fun p6 H6 f6 s6 e6 => ⟨⟨by decide, by decide⟩, ⟨by omega, Int.lt_trans (show _ < (1000 : Int) by omega) (by decide)⟩, ?_⟩⟩
    have n6 := t5.ne f6
    refine Draw.of (t5.same s6) (by omega) (by decide) (by decide) fun y7 H7 l7 u7 t7 s7 => ⟨_, _, rfl, rfl, by decide, ?_⟩
    have h1 := Int.emod_nonneg (c / (1 + (0 + (i : Int)) / 9) + y7) (show (4 : Int) ≠ 0 by decide)
    have h2 := Int.emod_lt_of_pos (c / (1 + (0 + (i : Int)) / 9) + y7) (show (0 : Int) < 4 by decide)
    obtain ⟨z, hz, ez⟩ := pick_ints (ts := [0, 0, 1, 2]) h1 h2
    have hz' : 0 ≤ z ∧ z ≤ 2 := by
      simp only [List.mem_cons, List.not_mem_nil, or_false] at hz
      rcases hz with rfl | rfl | rfl | rfl <;> omega
    refine Ix.lst (s7.get n6 e6) ez ⟨_, _, rfl, rfl, .inr (by omega), ?_⟩
    have hp : 0 ≤ st * z := Int.mul_nonneg hst' hz'.1
    rw [e12]
    obtain ⟨nw, hnw, enw⟩ : ∃ nw : Int, (now ≤ nw ∧ nw ≤ 1000000000000) ∧ (if now + st * z < 1000000000000 then now + st * z else 1000000000000) = nw := ⟨_, by split <;> omega, rfl⟩
    rw [enw]
    have x57 : SX a H5 H7 := (SX.of s6).trans s7
    have e7 := x57.get pa e5
    refine ⟨.inl ⟨rfl, _, SqL.of e7⟩, p, _, _, rfl, rfl, e7, small1000 (by rw [List.length_map]; omega), ?_⟩
    refine ⟨_, _, load ++ [nw], nw, rfl, by rw [List.map_append]; exact upd_same, ⟨?_, ?_⟩, ?_, by omega, by rw [List.length_append, hln]; rfl, (t7.updN pa).mono (by omega), (s5.trans x57).updN f1 pa⟩
    · rw [List.pairwise_append]
      refine ⟨hri.1, List.pairwise_singleton _ _, fun y hy y' hy' => ?_⟩
      rw [List.mem_singleton.mp hy']
      have := hle y hy
      omega
    · intro y hy
      rcases List.mem_append.mp hy with w | w
      · exact hri.2 y w
      · rw [List.mem_singleton.mp w]; omega
    · intro y hy
      rcases List.mem_append.mp hy with w | w
      · have := hle y w; omega
      · rw [List.mem_singleton.mp w]; omega
  · rintro σ H5 ⟨o1, o2, load, now, rfl, e5, hri, hle, hnow, hln, t5, s5⟩
    walk_at "rd"
    exact q p load H5 f1 e5 hri (by omega) (t5.mono (by omega)) s5
end
end K13
namespace K13
open PySem L2
theorem goHome_sum : ∀ (cs : List Int) (g : Int), (goHome cs g).1.sum = cs.sum - g + (goHome cs g).2
  | [], g => by simp [goHome]; omega
  | c :: cs, g => by
    have := goHome_sum cs g
    rw [goHome, List.sum_cons, List.sum_cons, this]
    simp only
    generalize (if (goHome cs g).2 < c then (goHome cs g).2 else c) = z
    omega
theorem goHome_nn : ∀ (cs : List Int) (g : Int), (∀ c ∈ cs, 0 ≤ c) → 0 ≤ g → (∀ c ∈ (goHome cs g).1, 0 ≤ c) ∧ 0 ≤ (goHome cs g).2 ∧ ((goHome cs g).2 = 0 ∨ (goHome cs g).1.sum = 0)
  | [], g, _, hg => ⟨by simp [goHome], by simpa [goHome] using hg, .inr (by simp [goHome])⟩
  | c :: cs, g, h, hg => by
    obtain ⟨h1, h2, h3⟩ := goHome_nn cs g (fun y hy => h y (List.mem_cons_of_mem _ hy)) hg
    have hc := h c List.mem_cons_self
    rw [goHome]
    simp only
    generalize hG : (goHome cs g).2 = G at *
    refine ⟨fun y hy => ?_, ?_, ?_⟩
    · rcases List.mem_cons.mp hy with z | z
      · rw [z]; split <;> omega
      · exact h1 y z
    · split <;> omega
    · rw [List.sum_cons]
      split <;> omega
/-- what a change makes of hands -/
structure Wth (x : Pst) (st n : Stn) (ch : Int) : Prop where
  w : n.w = st.w
  s : n.s = st.s
  u : n.us = st.us
  r : 0 ≤ n.r
  c : n.cs.length = 5
  cn : ∀ y ∈ n.cs, 0 ≤ y
  sm : n.r + n.cs.sum = st.r + st.cs.sum + ch
  t : n.t = if ch = 0 then st.t else if 0 < ch then x.u else x.d
theorem with_props {x : Pst} {st : Stn} {ch : Int} (ha : x.a ≤ 4) (hr : 0 ≤ st.r) (hl : st.cs.length = 5) (hc : ∀ y ∈ st.cs, 0 ≤ y) (hz : 0 ≤ st.r + st.cs.sum + ch) : Wth x st (withI x st ch) ch := by
  by_cases c1 : ch = 0
  · subst c1
    have e : withI x st 0 = st := rfl
    rw [e]
    exact ⟨rfl, rfl, rfl, hr, hl, hc, by omega, rfl⟩
  · by_cases c2 : 0 < ch
    · have e : withI x st ch = { st with cs := st.cs.take x.a ++ [st.cs.getD x.a 0 + ch] ++ st.cs.drop (x.a + 1), t := x.u } := by unfold withI; rw [if_neg c1, if_pos c2]
      rw [e]
      refine ⟨rfl, rfl, rfl, hr, ?_, ?_, ?_, ?_⟩
      · simp only [List.length_append, List.length_take, List.length_drop, List.length_cons, List.length_nil]
        omega
      · intro y hy
        rcases List.mem_append.mp hy with z | z
        · rcases List.mem_append.mp z with z | z
          · exact hc y (List.mem_of_mem_take z)
          · rw [List.mem_singleton.mp z]
            have hlt : x.a < st.cs.length := by omega
            have : 0 ≤ st.cs.getD x.a 0 := by
              rw [List.getD_eq_getElem?_getD, List.getElem?_eq_getElem hlt]
              exact hc _ (List.getElem_mem hlt)
            omega
        · exact hc y (List.mem_of_mem_drop z)
      · show st.r + (st.cs.take x.a ++ [st.cs.getD x.a 0 + ch] ++ st.cs.drop (x.a + 1)).sum = _
        obtain ⟨y0, y1, y2, y3, y4, ey⟩ := len5 hl
        rw [ey]
        have : x.a = 0 ∨ x.a = 1 ∨ x.a = 2 ∨ x.a = 3 ∨ x.a = 4 := by omega
        rcases this with e | e | e | e | e <;> rw [e] <;> simp <;> omega
      · show x.u = _
        rw [if_neg c1, if_pos c2]
    · have e : withI x st ch = { st with r := st.r - (goHome st.cs (-ch)).2, cs := (goHome st.cs (-ch)).1, t := x.d } := by unfold withI; rw [if_neg c1, if_neg c2]
      rw [e]
      obtain ⟨k1, k2, k3⟩ := goHome_nn st.cs (-ch) hc (by omega)
      have k4 := goHome_sum st.cs (-ch)
      have k5 := sum_nn _ k1
      refine ⟨rfl, rfl, rfl, ?_, ?_, k1, ?_, ?_⟩
      · show 0 ≤ st.r - (goHome st.cs (-ch)).2
        omega
      · show (goHome st.cs (-ch)).1.length = 5
        rw [goHome_len]; exact hl
      · show st.r - (goHome st.cs (-ch)).2 + (goHome st.cs (-ch)).1.sum = _
        omega
      · show x.d = _
        rw [if_neg c1, if_neg c2]
theorem hands_moved {st : Stn} (h : st.cs.length = 5) : readyI st + (st.cs.drop 1 ++ [0]).sum = st.r + st.cs.sum := by
  obtain ⟨a, b, c, d, e, hc⟩ := len5 h
  unfold readyI
  rw [hc]
  simp
  omega
theorem ready_nn {st : Stn} (h : st.cs.length = 5) (hr : 0 ≤ st.r) (hc : ∀ y ∈ st.cs, 0 ≤ y) : 0 ≤ readyI st := by
  obtain ⟨a, b, c, d, e, ec⟩ := len5 h
  have := hc a (by rw [ec]; exact List.mem_cons_self)
  unfold readyI; rw [ec]; show 0 ≤ st.r + a; omega
theorem moved_nn {st : Stn} (hc : ∀ y ∈ st.cs, 0 ≤ y) : ∀ y ∈ st.cs.drop 1 ++ [0], 0 ≤ y := fun y hy => by
  rcases List.mem_append.mp hy with z | z
  · exact hc y (List.mem_of_mem_drop z)
  · rw [List.mem_singleton.mp z]; exact Int.le_refl 0

def push (v : Int) (g : Nat → Int) : Nat → Int
  | 0 => v
  | k + 1 => g k
def histOf (d : Int) (ws : List Int) : Nat → Int := fun k => (ws.reverse).getD k d
theorem hist_push (d : Int) (ws : List Int) (v : Int) : histOf d (ws ++ [v]) = push v (histOf d ws) := by
  funext k
  unfold histOf
  rw [List.reverse_append]
  cases k with
  | zero => rfl
  | succ k => rfl
def sumH (g : Nat → Int) : Nat → Int
  | 0 => 0
  | q + 1 => sumH g q + g q
theorem sumH_list : ∀ (n : Nat) (l : List Int), (l.take n).sum = sumH (fun k => l.getD k 0) n
  | 0, l => rfl
  | n + 1, l => by
    show _ = sumH (fun k => l.getD k 0) n + l.getD n 0
    rw [← sumH_list n l]
    by_cases h : n < l.length
    · rw [List.take_succ_eq_append_getElem h, List.sum_append, List.getD_eq_getElem?_getD, List.getElem?_eq_getElem h]
      simp
    · rw [List.take_of_length_le (by omega), List.take_of_length_le (by omega), List.getD_eq_getElem?_getD, List.getElem?_eq_none (by omega)]
      simp
theorem sum_rev : ∀ l : List Int, l.reverse.sum = l.sum
  | [] => rfl
  | x :: l => by rw [List.reverse_cons, List.sum_append, sum_rev l, List.sum_cons]; simp; omega
theorem sum_last (l : List Int) (n : Nat) : (l.drop (l.length - n)).sum = sumH (histOf 0 l) n := by
  have h := sumH_list n l.reverse
  rw [List.take_reverse, sum_rev] at h
  exact h
theorem sumH_mono {g g' : Nat → Int} (h : ∀ k, g k ≤ g' k) : ∀ n, sumH g n ≤ sumH g' n
  | 0 => Int.le_refl 0
  | n + 1 => by
    have := sumH_mono h n
    have := h n
    show sumH g n + g n ≤ sumH g' n + g' n
    omega
def wantI (nb : Int) (sp : Nat) (t : Int) : Int := (t + nb * sp - 1) / (nb * sp)
def clampI (lo hi v : Int) : Int := if (if v < hi then v else hi) > lo then (if v < hi then v else hi) else lo
def wv (x : Pst) (sp : Nat) (nb : Int) (cg : Nat → Int) : Int := clampI x.lo x.hi (wantI nb sp (sumH cg sp))
theorem clamp_bd {lo hi v : Int} (h : lo ≤ hi) : lo ≤ clampI lo hi v ∧ clampI lo hi v ≤ hi := by
  unfold clampI
  repeat' split <;> try omega
theorem clamp_mono {lo hi v v' : Int} (h : v ≤ v') : clampI lo hi v ≤ clampI lo hi v' := by
  unfold clampI
  repeat' split <;> try omega
theorem want_mono {nb : Int} {sp : Nat} {t t' : Int} (hn : 1 ≤ nb) (hs : 1 ≤ sp) (h : t ≤ t') : wantI nb sp t ≤ wantI nb sp t' := by
  unfold wantI
  have : 0 < nb * sp := Int.mul_pos (by omega) (by omega)
  exact Int.ediv_le_ediv this (by omega)
def csH (a : Nat) (g : Nat → Int) : List Int :=
  match a with
  | 0 => [g 0 - g 1, 0, 0, 0, 0]
  | 1 => [g 1 - g 2, g 0 - g 1, 0, 0, 0]
  | 2 => [g 2 - g 3, g 1 - g 2, g 0 - g 1, 0, 0]
  | 3 => [g 3 - g 4, g 2 - g 3, g 1 - g 2, g 0 - g 1, 0]
  | _ => [g 4 - g 5, g 3 - g 4, g 2 - g 3, g 1 - g 2, g 0 - g 1]
structure J (x : Pst) (sp : Nat) (nb : Int) (g cg : Nat → Int) (w : Int) (st : Stn) : Prop where
  w : st.w = w ∧ 0 ≤ w ∧ w ≤ 1000000000000
  r : st.r = g (x.a + 1)
  c : st.cs = csH x.a g
  s : st.s = 0
  t : st.t = 0
  u : ∃ a1 b1 a2 b2 a3 b3, st.us = [[cg 0, a1, b1], [cg 1, a2, b2], [cg 2, a3, b3]]
  gm : ∀ k, g (k + 1) ≤ g k
  gb : ∀ k, x.lo ≤ g k ∧ g k ≤ x.hi
  cm : ∀ k, cg (k + 1) ≤ cg k
  gw : g 0 ≤ wv x sp nb cg
def tkL (w c : Int) : Int := if 1000000000000 - w < c then 1000000000000 - w else c
def dnL (x : Pst) (g : Nat → Int) (w c : Int) : Int := if g x.a * x.p < w + tkL w c then g x.a * x.p else w + tkL w c
def rowL (x : Pst) (sp : Nat) (nb : Int) (g cg : Nat → Int) (w c : Int) : List Int := [dnL x g w c, c - tkL w c, wv x sp nb (push c cg) - g 0]
def dueL (x : Pst) (sp : Nat) (nb : Int) : (Nat → Int) → (Nat → Int) → Int → List Int → List (List Int)
  | _, _, _, [] => []
  | g, cg, w, c :: cs => rowL x sp nb g cg w c :: dueL x sp nb (push (wv x sp nb (push c cg)) g) (push c cg) (w + tkL w c - dnL x g w c) cs
theorem wish_is {x : Pst} {sp : Nat} {nb h : Int} {trs : List (List Int)} (hr : x.rss = [[⟨"come", sp, "each", nb, 0⟩]]) (hlo : x.lo ≤ x.hi) : wishI x.rss x.lo x.hi h trs = clampI x.lo x.hi (wantI nb sp (totOf "come" sp trs)) := by
  have s1 : says ⟨"come", sp, "each", nb, 0⟩ h trs = some (wantI nb sp (totOf "come" sp trs)) := by
    unfold says
    rw [if_pos (by rfl)]
    rfl
  have hw : topOf h (x.rss.map (rwish h trs)) = wantI nb sp (totOf "come" sp trs) := by
    rw [hr]
    simp only [List.map_cons, List.map_nil, rwish, s1, topOf, maxI]
  unfold wishI clampI
  rw [hw]
  simp only
  generalize wantI nb sp (totOf "come" sp trs) = y
  repeat' split <;> try omega
theorem tot_is {sp : Nat} {c d e : Int} {cg : Nat → Int} {a1 b1 a2 b2 a3 b3 : Int} (hs : 1 ≤ sp ∧ sp ≤ 4) : totOf "come" sp [[c, d, e], [cg 0, a1, b1], [cg 1, a2, b2], [cg 2, a3, b3]] = sumH (push c cg) sp := by
  have hw : whatIx "come" = 0 := by decide
  unfold totOf
  rw [hw]
  have : sp = 1 ∨ sp = 2 ∨ sp = 3 ∨ sp = 4 := by omega
  rcases this with rfl | rfl | rfl | rfl <;> simp [sumH, push] <;> omega
theorem push_le {c : Int} {cg : Nat → Int} (hc : cg 0 ≤ c) (hm : ∀ k, cg (k + 1) ≤ cg k) : ∀ k, cg k ≤ push c cg k
  | 0 => hc
  | k + 1 => hm k
theorem cs_sum {a : Nat} (ha : a ≤ 4) (g : Nat → Int) : g (a + 1) + (csH a g).sum = g 0 := by
  have : a = 0 ∨ a = 1 ∨ a = 2 ∨ a = 3 ∨ a = 4 := by omega
  rcases this with rfl | rfl | rfl | rfl | rfl <;> simp [csH] <;> omega
theorem cs_len (a : Nat) (g : Nat → Int) : (csH a g).length = 5 := by
  unfold csH
  split <;> rfl
theorem cs_nn {a : Nat} {g : Nat → Int} (hm : ∀ k, g (k + 1) ≤ g k) : ∀ y ∈ csH a g, 0 ≤ y := by
  have h0 := hm 0
  have h1 := hm 1
  have h2 := hm 2
  have h3 := hm 3
  have h4 := hm 4
  simp only [Nat.zero_add, Nat.reduceAdd] at h0 h1 h2 h3 h4
  unfold csH
  split <;> simp <;> omega
theorem cs_head {a : Nat} (ha : a ≤ 4) (g : Nat → Int) : g (a + 1) + (csH a g).getD 0 0 = g a := by
  have : a = 0 ∨ a = 1 ∨ a = 2 ∨ a = 3 ∨ a = 4 := by omega
  rcases this with rfl | rfl | rfl | rfl | rfl <;> simp [csH] <;> omega
theorem cs_next {a : Nat} (ha : a ≤ 4) (g : Nat → Int) (v : Int) : ((csH a g).drop 1 ++ [0]).take a ++ [((csH a g).drop 1 ++ [0]).getD a 0 + (v - g 0)] ++ ((csH a g).drop 1 ++ [0]).drop (a + 1) = csH a (push v g) := by
  have : a = 0 ∨ a = 1 ∨ a = 2 ∨ a = 3 ∨ a = 4 := by omega
  rcases this with rfl | rfl | rfl | rfl | rfl <;> simp [csH, push]
theorem cs_same {a : Nat} (ha : a ≤ 4) (g : Nat → Int) : (csH a g).drop 1 ++ [0] = csH a (push (g 0) g) := by
  have : a = 0 ∨ a = 1 ∨ a = 2 ∨ a = 3 ∨ a = 4 := by omega
  rcases this with rfl | rfl | rfl | rfl | rfl <;> simp [csH, push]
theorem step_is {x : Pst} {sp : Nat} {nb c w : Int} {g cg : Nat → Int} {st : Stn} (hx : PsL x sp nb) (hc : 0 ≤ c ∧ c ≤ 1000000000000) (hcg : cg 0 ≤ c) (j : J x sp nb g cg w st) :
    rowI x st c = rowL x sp nb g cg w c ∧ J x sp nb (push (wv x sp nb (push c cg)) g) (push c cg) (w + tkL w c - dnL x g w c) (nextI x st c) := by
  obtain ⟨hw, hw0, hw1⟩ := j.w
  have hm := hx.m
  have hlo := hx.lo
  have hcl : st.cs.length = 5 := by rw [j.c]; exact cs_len _ _
  have hrd : readyI st = g x.a := by unfold readyI; rw [j.r, j.c]; exact cs_head hx.a g
  have htk : takenI x st c = tkL w c := by
    unfold takenI tkL; rw [hm, hw]
    repeat' split <;> try omega
  have hdn : doneI x st c = dnL x g w c := by
    unfold doneI dnL
    rw [htk, hw, hrd]
  have hsm : readyI st + (st.cs.drop 1 ++ [0]).sum = g 0 := by rw [hands_moved hcl, j.r, j.c]; exact cs_sum hx.a g
  obtain ⟨a1, b1, a2, b2, a3, b3, hu⟩ := j.u
  have hch : chI x st c 12 = wv x sp nb (push c cg) - g 0 := by
    unfold chI
    rw [hsm, j.s, j.t]
    have hl : looksI x.e 0 0 = true := by unfold looksI; rw [hx.e]; decide
    rw [if_pos hl]
    unfold changeI newestI
    rw [wish_is hx.r hlo.2, hu, tot_is hx.s]
    show (if 12 < wv x sp nb (push c cg) - g 0 then 12 else wv x sp nb (push c cg) - g 0) = _
    have h1 : x.lo ≤ wv x sp nb (push c cg) ∧ wv x sp nb (push c cg) ≤ x.hi := clamp_bd hlo.2
    have h2 := hx.hi
    have h3 := j.gb 0
    rw [if_neg (by omega)]
  have hv : g 0 ≤ wv x sp nb (push c cg) := Int.le_trans j.gw (clamp_mono (want_mono hx.n.1 hx.s.1 (sumH_mono (push_le hcg j.cm) sp)))
  have hvb : x.lo ≤ wv x sp nb (push c cg) ∧ wv x sp nb (push c cg) ≤ x.hi := clamp_bd hlo.2
  refine ⟨by unfold rowI rowL; rw [hdn, htk, hch], ?_⟩
  unfold nextI
  rw [hch]
  generalize hV : wv x sp nb (push c cg) = v at *
  have htk0 : 0 ≤ tkL w c ∧ w + tkL w c ≤ 1000000000000 := by unfold tkL; split <;> omega
  have hga : 0 ≤ g x.a * x.p := Int.mul_nonneg (by have := j.gb x.a; omega) (by have := hx.p; omega)
  have hdn0 : 0 ≤ dnL x g w c ∧ dnL x g w c ≤ w + tkL w c := by unfold dnL; split <;> omega
  have hW := with_props (x := x) (st := movedI x st c) (ch := v - g 0) hx.a (by show 0 ≤ readyI st; rw [hrd]; have := j.gb x.a; omega) (by show (st.cs.drop 1 ++ [0]).length = 5; simp; omega)
    (moved_nn (by rw [j.c]; exact cs_nn j.gm)) (by show 0 ≤ readyI st + (st.cs.drop 1 ++ [0]).sum + (v - g 0); omega)
  have hcs : (withI x (movedI x st c) (v - g 0)).cs = csH x.a (push v g) ∧ (withI x (movedI x st c) (v - g 0)).r = g x.a := by
    by_cases z : v - g 0 = 0
    · have e : withI x (movedI x st c) (v - g 0) = movedI x st c := by unfold withI; rw [if_pos z]
      rw [e]
      refine ⟨?_, hrd⟩
      show st.cs.drop 1 ++ [0] = _
      rw [j.c, cs_same hx.a g, show v = g 0 by omega]
    · have e : withI x (movedI x st c) (v - g 0) = { movedI x st c with cs := (movedI x st c).cs.take x.a ++ [(movedI x st c).cs.getD x.a 0 + (v - g 0)] ++ (movedI x st c).cs.drop (x.a + 1), t := x.u } := by unfold withI; rw [if_neg z, if_pos (by omega)]
      rw [e]
      refine ⟨?_, hrd⟩
      show (st.cs.drop 1 ++ [0]).take x.a ++ [(st.cs.drop 1 ++ [0]).getD x.a 0 + (v - g 0)] ++ (st.cs.drop 1 ++ [0]).drop (x.a + 1) = _
      rw [j.c]; exact cs_next hx.a g v
  refine ⟨⟨?_, by omega, by omega⟩, ?_, hcs.1, ?_, ?_, ?_, ?_, ?_, ?_, ?_⟩
  · rw [hW.w]
    show st.w + takenI x st c - doneI x st c = _
    rw [hw, htk, hdn]
  · rw [hcs.2]; rfl
  · rw [hW.s]
    show sinceI x.e st.s = 0
    unfold sinceI; rw [hx.e, j.s]; decide
  · rw [hW.t]
    show (if v - g 0 = 0 then (if 0 > st.t - 1 then 0 else st.t - 1) else if 0 < v - g 0 then x.u else x.d) = 0
    rw [j.t, hx.u, hx.d]
    repeat' split <;> try omega
  · rw [hW.u]
    show ∃ a1 b1 a2 b2 a3 b3, (newestI x st c).take 3 = _
    unfold newestI
    rw [hu]
    exact ⟨_, _, _, _, _, _, rfl⟩
  · intro k
    cases k with
    | zero => exact hv
    | succ k => exact j.gm k
  · intro k
    cases k with
    | zero => exact hvb
    | succ k => exact j.gb k
  · intro k
    cases k with
    | zero => exact hcg
    | succ k => exact j.cm k
  · show v ≤ _
    rw [hV]; exact Int.le_refl _
/-- behind a load: what waits, and hands -/
def endL (x : Pst) (sp : Nat) (nb : Int) : (Nat → Int) → (Nat → Int) → Int → List Int → Int × Int
  | g, _, w, [] => (w, g 0)
  | g, cg, w, c :: cs => endL x sp nb (push (wv x sp nb (push c cg)) g) (push c cg) (w + tkL w c - dnL x g w c) cs
theorem play_is {x : Pst} {sp : Nat} {nb : Int} (hx : PsL x sp nb) : ∀ (load : List Int) (g cg : Nat → Int) (w : Int) (st : Stn), Rising load → (∀ c ∈ load, cg 0 ≤ c) → J x sp nb g cg w st →
    playI x st load = dueL x sp nb g cg w load ∧ ((afterI x st load).w, (afterI x st load).r + (afterI x st load).cs.sum) = endL x sp nb g cg w load ∧ ∀ r ∈ dueL x sp nb g cg w load, 0 ≤ r.getD 2 0
  | [], g, cg, w, st, _, _, j => ⟨rfl, by
      show (st.w, st.r + st.cs.sum) = (w, g 0)
      rw [j.w.1, j.r, j.c, cs_sum hx.a g], by intro r hr; cases hr⟩
  | c :: load, g, cg, w, st, hr, hc, j => by
    obtain ⟨e1, j1⟩ := step_is hx (hr.2 c List.mem_cons_self) (hc c List.mem_cons_self) j
    have hp := List.pairwise_cons.mp hr.1
    obtain ⟨i1, i2, i3⟩ := play_is hx load _ _ _ _ ⟨hp.2, fun y hy => hr.2 y (List.mem_cons_of_mem _ hy)⟩ (fun y hy => hp.1 y hy) j1
    refine ⟨?_, i2, fun r hr' => ?_⟩
    · show rowI x st c :: playI x (nextI x st c) load = _
      rw [i1, e1]; rfl
    · rcases List.mem_cons.mp hr' with z | z
      · rw [z]
        have : g 0 ≤ wv x sp nb (push c cg) := Int.le_trans j.gw (clamp_mono (want_mono hx.n.1 hx.s.1 (sumH_mono (push_le (hc c List.mem_cons_self) j.cm) sp)))
        show 0 ≤ wv x sp nb (push c cg) - g 0
        omega
      · exact i3 r z
end K13
namespace K13
open PySem L2
local macro_rules | `(tactic| walk_at "rd") => `(tactic| simp only [L2.start, List.map_cons, List.map_nil, List.length_cons, List.length_nil, Nat.reduceAdd, Nat.reduceSub, List.replicate, List.cons_append, List.nil_append, List.append_nil,
  tSeq, tIfS, tRet, tRetN, tNext, tAsg, gName, tDrop, rd_var0, rd_varS, rd_gcons, rd_gnil, if_true, if_false, Bool.false_eq_true, Bool.not_true, Bool.not_false, rd_set0, rd_setS, rd_eqI, rd_neI, rd_eqS, rd_neS, rd_argI, rd_argB, rd_argII, rd_test, rd_int, rd_ii, tC, tOp, tUn, rI0, rI, rU, tTest, tAnd, tOr, tNot, tAndV, tOrV, tNotV, tIf, tCall, tCB, tCons, tNil, tB, tChain, tSl, tNoPart, tPart, gSub, tPar, tLst, tTup, tLstW, tTupW, tBM, tAug, tPar3, tAugS, ipI, tMaxD, tGT2])
section
variable {P : Program} {w : World} {K : PySem.W.Frag} {mg : Str → Option Value} {base : Heap} {f : Addr} {fd : FuncData} {k : Nat}
def spLaw (K : PySem.W.Frag) : Sp := fun vs H Q _ => ∃ (p : Addr) (ns : List Int), vs = [.ref p] ∧ Scr K H p (ns.map V.int) ∧ ns.length ≤ 63 ∧ ∀ H', Q (.bl true) H'
theorem PsL.is {x : Pst} {sp : Nat} {nb : Int} (h : PsL x sp nb) : PsIs x := by
  have hn := h.n
  refine ⟨h.a, by have := h.p; omega, by rw [h.r]; exact (by decide : 1 ≤ 100), fun rs hrs r hr' => ?_⟩
  rw [h.r] at hrs
  rw [List.mem_singleton.mp hrs] at hr'
  rw [List.mem_singleton.mp hr']
  exact ⟨(by decide : ("come" : Str) ∈ (["come", "done", "wait"] : List Str)), h.s, by show 0 ≤ nb ∧ nb ≤ 1000000000000; omega, fun _ => hn.1⟩
theorem play_row (x : Pst) : ∀ (st : Stn) (l : List Int), ∀ r ∈ playI x st l, ∃ a b c, r = [a, b, c]
  | _, [], r, h => by cases h
  | st, d :: l, r, h => by
    rcases List.mem_cons.mp h with z | z
    · exact ⟨_, _, _, z⟩
    · exact play_row x _ l r z
theorem lint_data (is : List Int) : PyData.hasDict (.list (is.map .int)) = false ∧ PyData.canLay0 (.list (is.map .int)) = true ∧ PyData.depth (.list (is.map .int)) ≤ 60 := by
  obtain ⟨d1, d2, d3⟩ := ints_data is
  exact ⟨by simpa [PyData.hasDict] using d1, by simpa [PyData.canLay0] using d2, by show PyData.depthAll _ + 1 ≤ 60; rw [d3]; decide⟩
theorem tri_data (ws : List Int) : PyData.hasDict (triD ws) = false ∧ PyData.canLay0 (triD ws) = true ∧ PyData.depth (triD ws) = 1 := by
  obtain ⟨d1, d2, d3⟩ := ints_data ws
  exact ⟨by simpa [triD, PyData.hasDict] using d1, by simpa [triD, PyData.canLay0] using d2, by show PyData.depthAll _ + 1 = 1; rw [d3]⟩
theorem tris_all : ∀ us : List (List Int), PyData.hasDictAll (us.map triD) = false ∧ PyData.canLayAll0 (us.map triD) = true ∧ PyData.depthAll (us.map triD) ≤ 1
  | [] => ⟨rfl, rfl, Nat.zero_le _⟩
  | u :: us => by
    obtain ⟨h1, h2, h3⟩ := tris_all us
    obtain ⟨g1, g2, g3⟩ := tri_data u
    refine ⟨?_, ?_, ?_⟩
    · show (PyData.hasDict (triD u) || PyData.hasDictAll (us.map triD)) = false
      rw [h1, g1]; rfl
    · show (PyData.canLay0 (triD u) && PyData.canLayAll0 (us.map triD)) = true
      rw [h2, g2]; rfl
    · show max (PyData.depth (triD u)) (PyData.depthAll (us.map triD)) ≤ 1
      rw [g3]; omega
theorem ltris_data (us : List (List Int)) : PyData.hasDict (.list (us.map triD)) = false ∧ PyData.canLay0 (.list (us.map triD)) = true ∧ PyData.depth (.list (us.map triD)) ≤ 60 := by
  obtain ⟨d1, d2, d3⟩ := tris_all us
  exact ⟨by simpa [PyData.hasDict] using d1, by simpa [PyData.canLay0] using d2, by show PyData.depthAll _ + 1 ≤ 60; omega⟩
def firstS (x : Pst) : Stn := ⟨0, x.lo, [0, 0, 0, 0, 0], 0, 0, [[0, 0, 0], [0, 0, 0], [0, 0, 0]]⟩
theorem first_is (x : Pst) : StIs (firstS x) := ⟨rfl, rfl, fun y hy => by
  simp only [firstS, List.mem_cons, List.not_mem_nil, or_false] at hy
  rcases hy with rfl | rfl | rfl <;> rfl⟩
theorem first_J {x : Pst} {sp : Nat} {nb : Int} (hx : PsL x sp nb) : J x sp nb (histOf x.lo []) (histOf 0 []) 0 (firstS x) := by
  have h1 := hx.lo
  refine ⟨⟨rfl, Int.le_refl 0, by decide⟩, rfl, ?_, rfl, rfl, ⟨_, _, _, _, _, _, rfl⟩, fun _ => Int.le_refl _, fun _ => ⟨Int.le_refl _, h1.2⟩, fun _ => Int.le_refl _, (clamp_bd h1.2).1⟩
  have hh : ∀ k, histOf x.lo [] k = x.lo := fun _ => rfl
  show [0, 0, 0, 0, 0] = csH x.a (histOf x.lo [])
  unfold csH
  split <;> simp [hh]
theorem row_shape1 {H : Hp} {r : RowT} {v : V} (h : At H (rulesP [[r]]) v) : ∃ d d1 r1, v = .ref d ∧ H d = some (.tup [.ref d1]) ∧ H d1 = some (.tup [.ref r1]) ∧ H r1 = some (.tup [.str r.w, .int r.s, .str r.g, .int r.n, .int r.t]) := by
  obtain ⟨d, ws, rfl, g5, g6⟩ := tup_ats h
  obtain ⟨w0, _, rfl, i0, g6⟩ := AtAll.uncons g6
  cases AtAll.unnil g6
  obtain ⟨d1, vs, rfl, g7, g8⟩ := tup_ats i0
  obtain ⟨w1, _, rfl, i1, g8⟩ := AtAll.uncons g8
  cases AtAll.unnil g8
  obtain ⟨r1, rfl, k1⟩ := row_shape i1
  exact ⟨d, d1, r1, rfl, g5, g7, k1⟩
theorem len24 {α : Type} {l : List α} (h : l.length = 24) : ∃ a0 a1 a2 a3 a4 a5 a6 a7 a8 a9 a10 a11 a12 a13 a14 a15 a16 a17 a18 a19 a20 a21 a22 a23, l = [a0, a1, a2, a3, a4, a5, a6, a7, a8, a9, a10, a11, a12, a13, a14, a15, a16, a17, a18, a19, a20, a21, a22, a23] := by
  match l, h with
  | [a0, a1, a2, a3, a4, a5, a6, a7, a8, a9, a10, a11, a12, a13, a14, a15, a16, a17, a18, a19, a20, a21, a22, a23], _ => exact ⟨a0, a1, a2, a3, a4, a5, a6, a7, a8, a9, a10, a11, a12, a13, a14, a15, a16, a17, a18, a19, a20, a21, a22, a23, rfl⟩
theorem sc_law : FnScope ["_law_script", "_law_k", "_law_tape_here", "_law_post_here", "_law_what", "_law_span", "_law_sign", "_law_number", "_law_step", "_law_least", "_law_most", "_law_load_here", "_law_wishes", "_law_due", "_law_wait", "_law_at", "_law_come", "_law_total", "_law_wanted", "_law_ready", "_law_taken", "_law_done", "_law_ahead", "_law_stand", "_law_last"] ["_law_script"] (defScope s_law) := ⟨rfl, rfl, rfl, by decide +kernel, rfl, by decide +kernel, by decide +kernel⟩
theorem ok_law (F : Fun K "law" "law" s_law f fd) (B : Bi mg) (c_l_tape : Ct P w K mg base k "_law_tape" ["_law_script", "_law_k"] (spTape K)) (c_l_post : Ct P w K mg base k "_law_post" ["_law_tape_here"] spPost)
    (c_l_load : Ct P w K mg base k "_law_load" ["_law_script", "_law_tape_here", "_law_number"] (spLoad K)) (c_first_stand : Ct P w K mg base k "first_stand" ["post"] spFirst) (c_played : Ct P w K mg base k "played" ["post", "stand", "load"] spPlayed)
    (c_after : Ct P w K mg base k "after" ["post", "stand", "load"] spAfter) (c_hands_of : Ct P w K mg base k "hands_of" ["stand"] spHands) : FnOk P w K mg base CX0 (k + 1) f fd ["_law_script"] (spLaw K) := by
  refine F.ok sc_law (by rintro vs H Q E ⟨p, ns, rfl, _⟩; rfl) (fun cdv A outer s H vs Q E hr h => ?_)
  obtain ⟨p, ns, rfl, hS, hl, q⟩ := h
  have ND := sc_law.nd
  refine ⟨_, (pss_cons (ps_for PassesOwn.never rfl (pi_range1 (by rfl) B.range (pa_c (pb (call_max2 rfl) B.max bt_max (pa_c pe_int (pa_c (pb (call_min2 rfl) B.min bt_min (pa_c (pb (call_lenK (K := K) rfl) B.len bt_len (pa_c (pv 0) pa_nil)) (pa_c pe_int pa_nil))) pa_nil))) pa_nil)) (pg_name (i := 1) ND rfl (by first | exact Or.inl rfl | exact Or.inr rfl)) (pss_cons (ps_set (i := 2) ND rfl (by first | exact Or.inl rfl | exact Or.inr rfl) (pf c_l_tape hr (pa_c (pv 0) (pa_c (pv 1) pa_nil)))) (pss_cons (ps_set (i := 3) ND rfl (by first | exact Or.inl rfl | exact Or.inr rfl) (pf c_l_post hr (pa_c (pv 2) pa_nil))) (pss_cons (ps_asg (pe_ix ix_obj (pe_ix ix_obj (pe_ix ix_obj (pv 3) pe_int (fun _ _ => rfl)) pe_int (fun _ _ => rfl)) pe_int (fun _ _ => rfl)) (pg_tup rfl (pgs_cons (pg_name (i := 4) ND rfl (by first | exact Or.inl rfl | exact Or.inr rfl)) (pgs_cons (pg_name (i := 5) ND rfl (by first | exact Or.inl rfl | exact Or.inr rfl)) (pgs_cons (pg_name (i := 6) ND rfl (by first | exact Or.inl rfl | exact Or.inr rfl)) (pgs_cons (pg_name (i := 7) ND rfl (by first | exact Or.inl rfl | exact Or.inr rfl)) (pgs_cons (pg_name (i := 8) ND rfl (by first | exact Or.inl rfl | exact Or.inr rfl)) pgs_nil))))))) (pss_cons (ps_asg (pe_ix ix_obj (pv 3) pe_int (fun _ _ => rfl)) (pg_tup rfl (pgs_cons (pg_name (i := 9) ND rfl (by first | exact Or.inl rfl | exact Or.inr rfl)) (pgs_cons (pg_name (i := 10) ND rfl (by first | exact Or.inl rfl | exact Or.inr rfl)) pgs_nil)))) (pss_cons (ps_set (i := 11) ND rfl (by first | exact Or.inl rfl | exact Or.inr rfl) (pf c_l_load hr (pa_c (pv 0) (pa_c (pv 2) (pa_c (pv 7) pa_nil))))) (pss_cons (ps_par3 (i := 12) (j := 13) (l := 14) rfl ND rfl rfl rfl rfl rfl rfl (pa_c (pe_lstW pa_nil) (pa_c (pe_lstW pa_nil) (pa_c pe_int pa_nil))) (by rfl)) (pss_cons (ps_for PassesOwn.never rfl (pi_enum (K := K) rfl B.enumerate (pa_c (pv 11) pa_nil)) (pg_tup rfl (pgs_cons (pg_name (i := 15) ND rfl (by first | exact Or.inl rfl | exact Or.inr rfl)) (pgs_cons (pg_name (i := 16) ND rfl (by first | exact Or.inl rfl | exact Or.inr rfl)) pgs_nil))) (pss_cons (ps_set (i := 17) ND rfl (by first | exact Or.inl rfl | exact Or.inr rfl) (pb (call_sumI rfl) B.sum bt_sum (pa_c (pe_slice sl_list (pv 11) (po_some (pb (call_max2 rfl) B.max bt_max (pa_c pe_int (pa_c (pe_op op_sub (pe_op op_add (pv 15) pe_int) (pv 5)) pa_nil)))) (po_some (pe_op op_add (pv 15) pe_int))) pa_nil))) (pss_cons (ps_set (i := 18) ND rfl (by first | exact Or.inl rfl | exact Or.inr rfl) (pe_op op_fdivB (pe_op op_sub (pe_op op_add (pv 17) (pe_op op_mul (pv 7) (pv 5))) pe_int) (pe_op op_mul (pv 7) (pv 5)))) (pss_cons (ps_expr (pe_bm PySem.F.plainAttrs_list PySem.F.slot_list_append PySem.F.type_list_append mt_append (pv 12) (pa_c (pb (call_max2 rfl) B.max bt_max (pa_c (pv 9) (pa_c (pb (call_min2 rfl) B.min bt_min (pa_c (pv 10) (pa_c (pv 18) pa_nil))) pa_nil))) pa_nil))) (pss_cons (ps_set (i := 19) ND rfl (by first | exact Or.inl rfl | exact Or.inr rfl) (pe_ifExp (pt_cmpR op_gt (pv 15) (pe_ix ix_obj (pv 3) pe_int (fun _ _ => rfl)) (nomark _)) (pe_ix ix_obj (pv 12) (pe_op op_sub (pe_op op_sub (pv 15) (pe_ix ix_obj (pv 3) pe_int (fun _ _ => rfl))) pe_int) (fun _ _ => rfl)) (pv 9))) (pss_cons (ps_set (i := 20) ND rfl (by first | exact Or.inl rfl | exact Or.inr rfl) (pb (call_min2 rfl) B.min bt_min (pa_c (pv 16) (pa_c (pe_op op_sub (pe_op op_pow pe_int pe_int) (pv 14)) pa_nil)))) (pss_cons (ps_set (i := 21) ND rfl (by first | exact Or.inl rfl | exact Or.inr rfl) (pb (call_min2 rfl) B.min bt_min (pa_c (pe_op op_add (pv 14) (pv 20)) (pa_c (pe_op op_mul (pv 19) (pe_ix ix_obj (pv 3) pe_int (fun _ _ => rfl))) pa_nil)))) (pss_cons (ps_set (i := 14) ND rfl (by first | exact Or.inl rfl | exact Or.inr rfl) (pe_op op_sub (pe_op op_add (pv 14) (pv 20)) (pv 21))) (pss_cons (ps_set (i := 22) ND rfl (by first | exact Or.inl rfl | exact Or.inr rfl) (pe_ifExp (pt_cmpR op_gt (pv 15) pe_int (nomark _)) (pe_ix ix_obj (pv 12) (pe_op op_sub (pv 15) pe_int) (fun _ _ => rfl)) (pv 9))) (pss_one (ps_expr (pe_bm PySem.F.plainAttrs_list PySem.F.slot_list_append PySem.F.type_list_append mt_append (pv 13) (pa_c (pe_tupW (pa_c (pv 21) (pa_c (pe_op op_sub (pv 16) (pv 20)) (pa_c (pe_op op_sub (pe_ix ix_obj (pv 12) (pv 15) (fun _ _ => rfl)) (pv 22)) pa_nil)))) pa_nil))))))))))))) (pss_cons (ps_set (i := 23) ND rfl (by first | exact Or.inl rfl | exact Or.inr rfl) (pf c_first_stand hr (pa_c (pv 3) pa_nil))) (pss_cons (ps_if (pt_cmpR (op_neD hr.units) (pf c_played hr (pa_c (pv 3) (pa_c (pv 23) (pa_c (pt (call_lstL) B.list bt_list (pa_c (pv 11) pa_nil)) pa_nil)))) (pv 13) (nomark _)) (pss_one (ps_ret pe_bl)) pss_nil) (pss_cons (ps_if (pt_cmpR op_lt (pb (call_minL rfl) B.min bt_min (pa_c (pe_comp (N' := ["_law_one"]) (js := []) rfl (pi_list (pv 13)) CSc.mk0 rfl (by decide) rfl (fun fp s' H' => (pe_ix ix_obj (pv 0) pe_int (fun _ _ => rfl)))) pa_nil)) pe_int (nomark _)) (pss_one (ps_ret pe_bl)) pss_nil) (pss_cons (ps_set (i := 24) ND rfl (by first | exact Or.inl rfl | exact Or.inr rfl) (pf c_after hr (pa_c (pv 3) (pa_c (pv 23) (pa_c (pt (call_lstL) B.list bt_list (pa_c (pv 11) pa_nil)) pa_nil))))) (pss_one (ps_if (PW.pt (pw_or (pt_cmpR op_ne (pe_ix ix_obj (pv 24) pe_int (fun _ _ => rfl)) (pv 14) (nomark _)) (pw_or1 (pt_cmpR op_ne (pf c_hands_of hr (pa_c (pv 24) pa_nil)) (pe_ix ix_obj (pv 12) (pe_un un_neg pe_int) (fun _ _ => rfl)) (nomark _))))) (pss_one (ps_ret pe_bl)) pss_nil)))))))))))))) (pss_one (ps_ret pe_bl))), ?_⟩
  simp only [seqOr, seqOa 19, seqOa 22]
  walk_at "rd"
  obtain ⟨n, hn, hn8⟩ : ∃ n : Nat, (if (if (4 : Int) < (ns.length : Int) then (4 : Int) else (ns.length : Int)) > 2 then (if (4 : Int) < (ns.length : Int) then (4 : Int) else (ns.length : Int)) else 2) = (n : Int) ∧ n ≤ 4 := by
    refine ⟨(if (if (4 : Int) < (ns.length : Int) then (4 : Int) else (ns.length : Int)) > 2 then (if (4 : Int) < (ns.length : Int) then (4 : Int) else (ns.length : Int)) else 2).toNat, ?_, ?_⟩ <;> (split <;> split <;> omega)
  refine for_R (n := n) (fun R hR => ?_) (by omega) (fun i σ H' => ∃ r : St, σ = some (.ref p) :: r ∧ r.length = 24 ∧ Scr K H' p (ns.map V.int)) ⟨_, rfl, rfl, hS⟩ ?_ ?_
  · walk_at "rd"
    refine ⟨p, _, rfl, .inl hS.sq, ?_⟩
    rw [List.length_map]
    walk_at "rd"
    rw [hn]
    exact hR
  · rintro i σ H1 hi ⟨rr, rfl, hr24, hS1⟩
    obtain ⟨o1, o2, o3, o4, o5, o6, o7, o8, o9, o10, o11, o12, o13, o14, o15, o16, o17, o18, o19, o20, o21, o22, o23, o24, rfl⟩ := len24 hr24
    walk_at "rd"
    refine ⟨p, ns, _, rfl, hS1.sq, by omega, by omega, fun a H2 f2 s2 t2 => ?_⟩
    have hS2 := hS1.same s2
    refine ⟨a, 0, rfl, t2, by omega, fun pA x sp nb H3 hx a3 t3 s3 => ?_⟩
    have hS3 := hS2.sx t2 s3
    have b3 : At H3 (pstD x) (.ref pA) := a3.mono hid_sub
    obtain ⟨_, pb, pc, pd, ep, p1, p2, p3, p4⟩ := pst_shape2 b3
    cases ep
    rw [hx.r] at p4
    obtain ⟨_, d1, r1, ed, p5, p6, p7⟩ := row_shape1 p4
    cases ed
    refine Ix.tup p1 (v := .ref pd) rfl (Ix.tup p5 (v := .ref d1) rfl (Ix.tup p6 (v := .ref r1) rfl ⟨r1, _, rfl, SqT.of p7, rfl, ?_⟩))
    walk_at "rd"
    refine Ix.tup p1 (v := .ref pb) rfl ⟨pb, _, rfl, SqT.of p2, rfl, ?_⟩
    walk_at "rd"
    refine ⟨a, p, _, ns, nb, rfl, hS3, hl, t3, by omega, hx.n.1, fun b load H4 f4 e4 hri hz t4 s4 => ?_⟩
    have hS4 := hS3.sx t3 s4
    have b4 : At H4 (pstD x) (.ref pA) := (a3.mono s4).mono hid_sub
    clear p1 p2 p3 p4 p5 p6 p7
    obtain ⟨_, pb, pc, pd, ep, p1, p2, p3, p4⟩ := pst_shape2 b4
    cases ep
    refine ⟨(by decide), fun pw H5 f5 s5 e5 => ⟨(by decide), fun pu H6 f6 s6 e6 => ⟨_, _, _, rfl, ?_⟩⟩⟩
    have s46 := s5.trans s6
    have f5' : H4 pw = none := f5
    have f6' : H4 pu = none := s5.free f6
    have nwu : pu ≠ pw := fun z => by rw [z, e5] at f6; cases f6
    have nbw : b ≠ pw := fun z => by rw [z, f5'] at e4; cases e4
    have nbu : b ≠ pu := fun z => by rw [z, f6'] at e4; cases e4
    rw [tFor_enum]
    walk_at "rd"
    refine EK.of (s46 _ _ e4) (fun j σ H' => ∃ (ws : List Int) (w : Int) (xs : List V) (ds : List (List Int)) (c1 c2 c3 c4 c5 c6 c7 c8 : Option V), σ = [some (.ref p), some (V.int (0 + ↑i)), some (.ref a), some (.ref pA), some (.str "come"), some (.int sp), some (.str "each"), some (.int nb), some (.int 0), some (.int x.lo), some (.int x.hi), some (.ref b), some (.ref pw), some (.ref pu), some (.int w), c1, c2, c3, c4, c5, c6, c7, c8, o23, o24] ∧
        H' pw = some (.lst (ws.map V.int)) ∧ H' pu = some (.lst xs) ∧ AtAll (hid pu (hid pw H')) (ds.map triD) xs ∧ ws.length = j ∧ ds.length = j ∧ (0 ≤ w ∧ w ≤ 1000000000000) ∧ (∀ y ∈ ws, 0 ≤ y ∧ y ≤ 12) ∧
        ds ++ dueL x sp nb (histOf x.lo ws) (histOf 0 (load.take j)) w (load.drop j) = dueL x sp nb (histOf x.lo []) (histOf 0 []) 0 load ∧ endL x sp nb (histOf x.lo ws) (histOf 0 (load.take j)) w (load.drop j) = endL x sp nb (histOf x.lo []) (histOf 0 []) 0 load ∧ Same H4 H')
      ⟨[], 0, [], [], _, _, _, _, _, _, _, _, rfl, s6 _ _ e5, e6, AtAll.nil, rfl, rfl, by decide, by simp, rfl, rfl, s46⟩ (fun j σ H' _ ⟨_, _, _, _, _, _, _, _, _, _, _, _, _, _, _, _, _, _, _, _, _, _, sm⟩ => sm _ _ e4) ?_ ?_
    · rintro j y σ H7 tq hy ⟨ws, w, xs, ds, c1, c2, c3, c4, c5, c6, c7, c8, rfl, h7, g7, a7, lw, ld, hw, hws, eq1, eq2, sm⟩ ft
      rw [List.getElem?_map] at hy
      obtain ⟨c, hc, rfl⟩ := Option.map_eq_some_iff.mp hy
      refine ⟨tq, _, rfl, SqT.of upd_same, rfl, ?_⟩
      have s8 := same_new ft (HO.tup [V.int j, V.int c])
      generalize upd H7 tq (HO.tup [V.int j, V.int c]) = H8 at s8 ⊢
      walk_at "rd"
      have hj : j < load.length := (List.getElem?_eq_some_iff.mp hc).1
      have hsp := hx.s
      have hnb := hx.n
      have sm8 := sm.trans s8
      obtain ⟨lo', elo⟩ : ∃ lo' : Nat, (if (j : Int) + 1 - (sp : Int) > 0 then (j : Int) + 1 - (sp : Int) else 0) = (lo' : Int) ∧ lo' = j + 1 - sp := ⟨j + 1 - sp, by split <;> omega, rfl⟩
      rw [elo.1, show (j : Int) + 1 = ((j + 1 : Nat) : Int) by omega]
      refine ⟨b, _, rfl, SqL.of (sm8 _ _ e4), fun p9 f9 => ?_⟩
      rw [cut_mid (by omega) (by rw [List.length_map]; omega), ← List.map_take, ← List.map_drop]
      have s9 := same_new f9 (HO.lst (((load.take (j + 1)).drop lo').map V.int))
      have e9 : upd H8 p9 (HO.lst (((load.take (j + 1)).drop lo').map V.int)) p9 = some (.lst (((load.take (j + 1)).drop lo').map V.int)) := upd_same
      generalize upd H8 p9 (HO.lst (((load.take (j + 1)).drop lo').map V.int)) = H9 at s9 e9 ⊢
      have hns : 0 < nb * (sp : Int) := Int.mul_pos (by omega) (by omega)
      have hns2 : nb * (sp : Int) ≤ 100000000000 * 4 := Int.mul_le_mul hnb.2 (by omega) (by omega) (by omega)
      refine ⟨p9, _, rfl, .inl e9, .inr (by omega), .inr (by omega), ⟨hns, Int.lt_trans (show _ < (1000000000000 : Int) by omega) (by decide)⟩, ?_⟩
      have hsnoc := take_snoc hc
      have hsum : ((load.take (j + 1)).drop lo').sum = sumH (push c (histOf 0 (load.take j))) sp := by
        have h1 := sum_last (load.take (j + 1)) sp
        have h2 : (load.take (j + 1)).length - sp = lo' := by rw [List.length_take, elo.2]; omega
        rw [h2] at h1
        rw [h1, hsnoc, hist_push]
      rw [hsum]
      have hV : ∃ v, wv x sp nb (push c (histOf 0 (load.take j))) = v := ⟨_, rfl⟩
      obtain ⟨v, hV⟩ := hV
      have hV' := hV
      unfold wv clampI wantI at hV'
      rw [hV']
      have hvb : x.lo ≤ v ∧ v ≤ x.hi := by rw [← hV]; exact clamp_bd hx.lo.2
      have sm9 := sm8.trans s9
      have h79 := (s8.trans s9) _ _ h7
      refine ⟨.inl ⟨rfl, _, SqL.of h79⟩, pw, _, _, rfl, rfl, h79, small1000 (by rw [List.length_map]; omega), ?_⟩
      have ew : ws.map V.int ++ [V.int v] = (ws ++ [v]).map V.int := by rw [List.map_append]; rfl
      rw [ew]
      have sm10 : Same H4 (upd H9 pw (HO.lst ((ws ++ [v]).map V.int))) := sm9.updN f5'
      have h10 : upd H9 pw (HO.lst ((ws ++ [v]).map V.int)) pw = some (.lst ((ws ++ [v]).map V.int)) := upd_same
      have g10 : upd H9 pw (HO.lst ((ws ++ [v]).map V.int)) pu = some (.lst xs) := by rw [upd_ne nwu]; exact (s8.trans s9) _ _ g7
      have a10 : AtAll (hid pu (hid pw (upd H9 pw (HO.lst ((ws ++ [v]).map V.int))))) (ds.map triD) xs := by rw [hid_upd]; exact a7.mono (Same.hid (Same.hid (s8.trans s9)))
      generalize upd H9 pw (HO.lst ((ws ++ [v]).map V.int)) = H10 at sm10 h10 g10 a10 ⊢
      have hget : ∀ k : Nat, k < ws.length → (ws ++ [v])[ws.length - 1 - k]? = some (histOf x.lo ws k) := fun k hk => by
        unfold histOf
        rw [List.getElem?_append_left (by omega), List.getD_eq_getElem?_getD, List.getElem?_reverse (by omega), List.getElem?_eq_getElem (by omega)]
        rfl
      have hout : ∀ k : Nat, ws.length ≤ k → histOf x.lo ws k = x.lo := fun k hk => by
        unfold histOf
        rw [List.getD_eq_getElem?_getD, List.getElem?_eq_none (by rw [List.length_reverse]; exact hk)]; rfl
      have ha := hx.a
      refine tSeqO.of (fun σ' H' => H10 = H' ∧ ∃ c1 c2 c3 c4 c5 : Option V, σ' = [some (.ref p), some (V.int (0 + ↑i)), some (.ref a), some (.ref pA), some (.str "come"), some (.int sp), some (.str "each"), some (.int nb), some (.int 0), some (.int x.lo), some (.int x.hi), some (.ref b), some (.ref pw), some (.ref pu), some (.int w), some (.int j), some (.int c), c1, c2, some (.int (histOf x.lo ws x.a)), c3, c4, c5, o23, o24]) ?_ ?_
      rotate_left 1
      · intro N hN
        walk_at "rd"
        refine Ix.tup (sm10 _ _ p1) (v := .int x.a) rfl ⟨_, _, rfl, rfl, ?_⟩
        by_cases z : (x.a : Int) < (j : Int)
        · rw [if_pos (decide_eq_true z)]
          refine Ix.tup (sm10 _ _ p1) (v := .int x.a) rfl ⟨_, _, rfl, rfl, ?_⟩
          have hk := hget x.a (by omega)
          have ek : ((j : Int) - (x.a : Int) - 1) = ((ws.length - 1 - x.a : Nat) : Int) := by omega
          rw [ek]
          refine Ix.lst h10 (v := .int (histOf x.lo ws x.a)) (atI_nat (by rw [List.getElem?_map, hk]; rfl)) ?_
          exact hN _ _ ⟨rfl, _, _, _, _, _, rfl⟩
        · rw [if_neg (by simpa using z)]
          have hk := hout x.a (by omega)
          rw [hk] at hN
          exact hN _ _ ⟨rfl, _, _, _, _, _, rfl⟩
      rintro σ' H' ⟨rfl, c1, c2, c3, c4, c5, rfl⟩
      walk_at "rd"
      have e12 : (10 : Int) ^ Int.toNat 12 = 1000000000000 := by decide
      refine ⟨⟨by decide, by decide, by decide⟩, Ix.tup (sm10 _ _ p1) (v := .int x.p) rfl ⟨_, _, rfl, rfl, .inr (by have := hx.p; omega), ?_⟩⟩
      rw [e12]
      have etk : (if 1000000000000 - w < c then 1000000000000 - w else c) = tkL w c := rfl
      have edn : (if histOf x.lo ws x.a * x.p < w + tkL w c then histOf x.lo ws x.a * x.p else w + tkL w c) = dnL x (histOf x.lo ws) w c := rfl
      rw [etk, edn]
      generalize htk : tkL w c = tk
      generalize hdn : dnL x (histOf x.lo ws) w c = dn
      refine tSeqO.of (fun σ' H' => H10 = H' ∧ σ' = [some (.ref p), some (V.int (0 + ↑i)), some (.ref a), some (.ref pA), some (.str "come"), some (.int sp), some (.str "each"), some (.int nb), some (.int 0), some (.int x.lo), some (.int x.hi), some (.ref b), some (.ref pw), some (.ref pu), some (.int (w + tk - dn)), some (.int j), some (.int c), c1, c2, some (.int (histOf x.lo ws x.a)), some (.int tk), some (.int dn), some (.int (histOf x.lo ws 0)), o23, o24]) ?_ ?_
      rotate_left 1
      · intro N hN
        walk_at "rd"
        by_cases z : 0 < (j : Int)
        · rw [if_pos (decide_eq_true z)]
          have hk := hget 0 (by omega)
          have ek : ((j : Int) - 1) = ((ws.length - 1 - 0 : Nat) : Int) := by omega
          rw [ek]
          exact Ix.lst h10 (v := .int (histOf x.lo ws 0)) (atI_nat (by rw [List.getElem?_map, hk]; rfl)) (hN _ _ ⟨rfl, rfl⟩)
        · rw [if_neg (by simpa using z)]
          have hk := hout 0 (by omega)
          rw [hk] at hN
          exact hN _ _ ⟨rfl, rfl⟩
      rintro σ' H' ⟨rfl, rfl⟩
      walk_at "rd"
      refine ⟨.inl ⟨rfl, _, SqL.of g10⟩, ?_⟩
      refine Ix.lst h10 (v := .int v) (atI_nat (by subst lw; simp)) ⟨_, _, rfl, rfl, (by decide), fun p11 H11 f11 s11 e11 => ?_⟩
      have g11 := s11 _ _ g10
      have h11 := s11 _ _ h10
      have n11u : p11 ≠ pu := fun z => by rw [z, g10] at f11; cases f11
      have n11w : p11 ≠ pw := fun z => by rw [z, h10] at f11; cases f11
      refine ⟨pu, _, _, rfl, rfl, g11, small1000 (by rw [a7.length, List.length_map]; omega), ?_⟩
      have hrow : rowL x sp nb (histOf x.lo ws) (histOf 0 (load.take j)) w c = [dn, c - tk, v - histOf x.lo ws 0] := by
        unfold rowL; rw [hV, htk, hdn]
      have hdr : load.drop j = c :: load.drop (j + 1) := by
        rw [List.drop_eq_getElem_cons hj]
        obtain ⟨_, e⟩ := List.getElem?_eq_some_iff.mp hc
        rw [e]
      have htk0 : 0 ≤ tk ∧ w + tk ≤ 1000000000000 := by
        have := (hri.2 c (List.mem_of_getElem? hc))
        rw [← htk]; unfold tkL; split <;> omega
      have hga : 0 ≤ histOf x.lo ws x.a * x.p := by
        refine Int.mul_nonneg ?_ (by have := hx.p; omega)
        by_cases z : x.a < ws.length
        · have := hget x.a z
          have hm := List.mem_of_getElem? this
          rcases List.mem_append.mp hm with m | m
          · exact (hws _ m).1
          · rw [List.mem_singleton.mp m]; have := hx.lo; omega
        · rw [hout x.a (by omega)]; exact hx.lo.1
      have hdn0 : 0 ≤ dn ∧ dn ≤ w + tk := by
        rw [← hdn]; unfold dnL; rw [htk]; split <;> omega
      refine ⟨ws ++ [v], w + tk - dn, xs ++ [.ref p11], ds ++ [[dn, c - tk, v - histOf x.lo ws 0]], _, _, _, _, _, _, _, _, rfl, ?_, upd_same, ?_, by rw [List.length_append, lw]; rfl, by rw [List.length_append, ld]; rfl, by omega, ?_, ?_, ?_, (sm10.trans s11).updN f6'⟩
      · rw [upd_ne nwu.symm]; exact h11
      · rw [hid_upd_ne nwu, hid_upd, List.map_append]
        exact AtAll.append (a10.mono (Same.hid (Same.hid s11))) (AtAll.cons (At.tup (by rw [hid_ne n11u, hid_ne n11w]; exact e11) (ats_ints _)) AtAll.nil)
      · intro y hy
        have := hx.lo
        have := hx.hi
        rcases List.mem_append.mp hy with m | m
        · exact hws y m
        · rw [List.mem_singleton.mp m]; omega
      · rw [← eq1, hdr, dueL, hrow, hV, hsnoc, hist_push, hist_push, htk, hdn, List.append_assoc]; rfl
      · rw [← eq2, hdr, endL, hV, hsnoc, hist_push, hist_push, htk, hdn]
    · rintro σ H7 ⟨ws, w, xs, ds, c1, c2, c3, c4, c5, c6, c7, c8, rfl, h7, g7, a7, lw, ld, hw, hws, eq1, eq2, sm⟩
      walk_at "rd"
      have hlen : ws.length = load.length := by rw [lw, List.length_map]
      rw [List.length_map] at lw ld
      rw [List.length_map, List.drop_length, dueL, List.append_nil] at eq1
      rw [List.length_map, List.drop_length, endL] at eq2
      obtain ⟨i1, i2, i3⟩ := play_is hx load (histOf x.lo []) (histOf 0 []) 0 (firstS x) hri (fun y hy => (hri.2 y hy).1) (first_J hx)
      rw [← eq1] at i1 i3
      rw [← eq2] at i2
      have au : AtAll H7 (ds.map triD) xs := (a7.mono hid_sub).mono hid_sub
      refine ⟨.ref pA, x, rfl, b4.mono sm, fun u8 H8 s8 a8 => ?_⟩
      have sm8 := sm.trans s8
      show tSeqO _ _ _ _ _
      have rows : ∀ r ∈ ds, ∃ a b c, r = [a, b, c] := by rw [← i1]; exact play_row x _ _
      refine tSeqO.on (fun H9 s9 => ?_) (fun N hN => ?_)
      rotate_left 1
      · walk_at "rd"
        refine ⟨b, _, rfl, sm8 _ _ e4, fun p9 f9 => ?_⟩
        have s9 := same_new f9 (HO.lst (load.map V.int))
        have e9 : upd H8 p9 (HO.lst (load.map V.int)) p9 = some (.lst (load.map V.int)) := upd_same
        generalize upd H8 p9 (HO.lst (load.map V.int)) = H9 at s9 e9 ⊢
        refine ⟨.ref pA, u8, p9, x, firstS x, load, rfl, b4.mono (sm8.trans s9), a8.mono s9, hx.is, first_is x, e9, by omega, fun p10 ys H10 s10 f10 e10 a10 => ?_⟩
        rw [i1] at a10
        obtain ⟨z1, z2, z3⟩ := ltris_data ds
        refine ⟨.list (ds.map triD), .list (ds.map triD), At.lst e10 a10, At.lst ((s8.trans (s9.trans s10)) _ _ g7) (au.mono (s8.trans (s9.trans s10))), z1, z1, z2, z2, z3, ?_⟩
        rw [SeqAt.eqv_refl _ z2, if_neg (by decide)]
        exact hN _ (s9.trans s10)
      refine tSeqO.on (fun H10 s10 => ?_) (fun N hN => ?_)
      rotate_left 1
      · walk_at "rd"
        have s89 := s8.trans s9
        refine comp_LV (es := (ds.map (fun r => r.getD 2 0)).map .int) (fun R hR => ?_) (s89 _ _ g7) (by rw [List.length_map, List.length_map, au.length, List.length_map]) (Nat.le_of_lt (small1000 (by rw [List.length_map, List.length_map]; omega))) (ints_noL _) (fun j y e H' hy he s' R hR => ?_) (fun acc ys H' s' facc hl' hA => ?_)
        · walk_at "rd"; exact hR
        · walk_at "rd"
          obtain ⟨d, q1, q2⟩ := au.get hy
          rw [List.getElem?_map] at q1
          obtain ⟨r, er, rfl⟩ := Option.map_eq_some_iff.mp q1
          obtain ⟨q, zs, rfl, k1, k2⟩ := tup_ats (q2.mono (s89.trans s'))
          cases ats_back k2
          obtain ⟨a', b', c', rfl⟩ := rows r (List.mem_of_getElem? er)
          rw [List.getElem?_map, List.getElem?_map, er] at he
          cases he
          exact Ix.tup k1 (v := .int c') rfl (hR _ _ (Same.refl _) (At.int _))
        · have hys := ats_back hA
          cases ds with
          | nil => exfalso; simp at ld; omega
          | cons d0 ds' =>
            rw [hys] at hl'
            refine ⟨acc, d0.getD 2 0, ds'.map (fun r : List Int => r.getD 2 0), rfl, hl', ?_⟩
            have hge : 0 ≤ minI (d0.getD 2 0) (ds'.map (fun r => r.getD 2 0)) := minI_ge (i3 d0 List.mem_cons_self) fun y hy => by
              obtain ⟨r, hr', rfl⟩ := List.mem_map.mp hy
              exact i3 r (List.mem_cons_of_mem _ hr')
            rw [if_neg (by simpa using hge)]
            exact hN _ s'
      walk_at "rd"
      have s810 := s9.trans s10
      have sm10 := sm8.trans s810
      refine ⟨b, _, rfl, sm10 _ _ e4, fun p11 f11 => ?_⟩
      have s11 := same_new f11 (HO.lst (load.map V.int))
      have e11 : upd H10 p11 (HO.lst (load.map V.int)) p11 = some (.lst (load.map V.int)) := upd_same
      generalize upd H10 p11 (HO.lst (load.map V.int)) = H11 at s11 e11 ⊢
      refine ⟨.ref pA, u8, p11, x, firstS x, load, rfl, b4.mono (sm10.trans s11), a8.mono (s810.trans s11), hx.is, first_is x, e11, fun u12 H12 s12 a12 => ?_⟩
      obtain ⟨na, nb', nc, rfl, m1, m2, m3⟩ := stn_shape a12
      have iw : (afterI x (firstS x) load).w = w := congrArg Prod.fst i2
      have ih : (afterI x (firstS x) load).r + (afterI x (firstS x) load).cs.sum = histOf x.lo ws 0 := congrArg Prod.snd i2
      refine Ix.tup m1 (v := .int (afterI x (firstS x) load).w) rfl ?_
      rw [iw]
      walk_at "rd"
      rw [if_neg (by simp)]
      refine ⟨_, _, na, _, nb', _, _, rfl, rfl, m1, m2, ?_⟩
      rw [ih]
      have s712 : Same H7 H12 := s8.trans (s810.trans (s11.trans s12))
      have hne : ws ≠ [] := fun z => by rw [z] at lw; simp at lw; omega
      have ewl : ws.map V.int = (ws.dropLast).map V.int ++ [V.int (histOf x.lo ws 0)] := by
        have h1 := List.dropLast_concat_getLast (l := ws) hne
        have h2 : histOf x.lo ws 0 = ws.getLast hne := by
          have := congrArg (fun l => histOf x.lo l 0) h1
          simp only [hist_push] at this
          exact this.symm
        have := congrArg (List.map V.int) h1
        rw [List.map_append] at this
        rw [h2]; exact this.symm
      refine Ix.lst (s712 _ _ h7) (v := .int (histOf x.lo ws 0)) (by rw [ewl]; exact atI_last _ _) ?_
      walk_at "rd"
      rw [if_neg (by simp)]
      exact ⟨_, rfl, rfl, hS4.same (sm10.trans (s11.trans s12))⟩
  · rintro σ H1 ⟨rr, rfl, _, _⟩
    walk_at "rd"
    exact q _
end
end K13
namespace K13
open PySem L2
/-! ### the promises in their order -/
def mkCt {P : Program} {w : World} {K : PySem.W.Frag} {mg : Str → Option Value} {base : Heap} {k : Nat} {x qual : Str} {st : Stmt} {ps : List Str} {sp : Sp} {f : Addr} {fd : FuncData} (F : Fun K x qual st f fd) (b : Binds K fd ps []) (m : mg x = some (.ref f)) (G : FnOk P w K mg base CX0 k f fd ps sp) : Ct P w K mg base k x ps sp := ⟨f, fd, G, F.kp, b, m⟩
def mkCtD {P : Program} {w : World} {K : PySem.W.Frag} {mg : Str → Option Value} {base : Heap} {k : Nat} {x qual : Str} {st : Stmt} {ps : List Str} {sp : Sp} {f T : Addr} {i : Int} {t : Tok} {fd : FuncData} (F : FunD K x qual st f fd T i t) (b : Binds K fd ps []) (bd : Binds K fd ps [.int i t]) (m : mg x = some (.ref f)) (G : FnOk P w K mg base CX0 k f fd ps sp) : CtD P w K mg base k x ps i sp := ⟨f, fd, t, G, F.kp, b, bd, m⟩
theorem all_ok {P : Program} {w : World} {K : PySem.W.Frag} {mg : Str → Option Value} {base : Heap} (B : Bi mg) (O : Co K mg)
    {f0 : Addr} {d0 : FuncData} (F0 : Fun K "wish" "wish" s_wish f0 d0) (b0 : Binds K d0 ["post", "hands", "newest"] []) (m0 : mg "wish" = some (.ref f0))
    {f1 : Addr} {d1 : FuncData} (F1 : Fun K "rule_wish" "rule_wish" s_rule_wish f1 d1) (b1 : Binds K d1 ["rule", "hands", "newest"] []) (m1 : mg "rule_wish" = some (.ref f1))
    {f2 : Addr} {d2 : FuncData} (F2 : Fun K "row_says" "row_says" s_row_says f2 d2) (b2 : Binds K d2 ["row", "hands", "newest"] []) (m2 : mg "row_says" = some (.ref f2))
    {f3 : Addr} {d3 : FuncData} (F3 : Fun K "hands_of" "hands_of" s_hands_of f3 d3) (b3 : Binds K d3 ["stand"] []) (m3 : mg "hands_of" = some (.ref f3))
    {f4 T4 : Addr} {d4 : FuncData} {tk4 : Tok} (F4 : FunD K "beat" "beat" s_beat f4 d4 T4 12 tk4) (b4 : Binds K d4 ["post", "stand", "come", "free"] []) (bd4 : Binds K d4 ["post", "stand", "come", "free"] [.int 12 tk4]) (m4 : mg "beat" = some (.ref f4))
    {f5 : Addr} {d5 : FuncData} (F5 : Fun K "since_and_look" "since_and_look" s_since_and_look f5 d5) (b5 : Binds K d5 ["post", "since", "rest"] []) (m5 : mg "since_and_look" = some (.ref f5))
    {f6 : Addr} {d6 : FuncData} (F6 : Fun K "change_of" "change_of" s_change_of f6 d6) (b6 : Binds K d6 ["post", "hands", "newest", "free"] []) (m6 : mg "change_of" = some (.ref f6))
    {f7 : Addr} {d7 : FuncData} (F7 : Fun K "with_change" "with_change" s_with_change f7 d7) (b7 : Binds K d7 ["post", "stand", "change"] []) (m7 : mg "with_change" = some (.ref f7))
    {f8 : Addr} {d8 : FuncData} (F8 : Fun K "sent_home" "sent_home" s_sent_home f8 d8) (b8 : Binds K d8 ["ready", "called", "many"] []) (m8 : mg "sent_home" = some (.ref f8))
    {f9 : Addr} {d9 : FuncData} (F9 : Fun K "first_stand" "first_stand" s_first_stand f9 d9) (b9 : Binds K d9 ["post"] []) (m9 : mg "first_stand" = some (.ref f9))
    {f10 : Addr} {d10 : FuncData} (F10 : Fun K "played" "played" s_played f10 d10) (b10 : Binds K d10 ["post", "stand", "load"] []) (m10 : mg "played" = some (.ref f10))
    {f11 : Addr} {d11 : FuncData} (F11 : Fun K "after" "after" s_after f11 d11) (b11 : Binds K d11 ["post", "stand", "load"] []) (m11 : mg "after" = some (.ref f11))
    {f12 : Addr} {d12 : FuncData} (F12 : Fun K "_law_tape" "_law_tape" s_l_tape f12 d12) (b12 : Binds K d12 ["_law_script", "_law_k"] []) (m12 : mg "_law_tape" = some (.ref f12))
    {f13 : Addr} {d13 : FuncData} (F13 : Fun K "_law_draw" "_law_draw" s_l_draw f13 d13) (b13 : Binds K d13 ["_law_tape_here", "_law_many"] []) (m13 : mg "_law_draw" = some (.ref f13))
    {f14 : Addr} {d14 : FuncData} (F14 : Fun K "_law_post" "_law_post" s_l_post f14 d14) (b14 : Binds K d14 ["_law_tape_here"] []) (m14 : mg "_law_post" = some (.ref f14))
    {f15 : Addr} {d15 : FuncData} (F15 : Fun K "_law_load" "_law_load" s_l_load f15 d15) (b15 : Binds K d15 ["_law_script", "_law_tape_here", "_law_number"] []) (m15 : mg "_law_load" = some (.ref f15))
    {f16 : Addr} {d16 : FuncData} (F16 : Fun K "law" "law" s_law f16 d16) (b16 : Binds K d16 ["_law_script"] []) (m16 : mg "law" = some (.ref f16)) :
    FnOk P w K mg base CX0 7 f16 d16 ["_law_script"] (spLaw K) := by
  have c_row_says : Ct P w K mg base 1 "row_says" ["row", "hands", "newest"] spSays := mkCt F2 b2 m2 (ok_row_says F2 B O)
  have c_rule_wish : Ct P w K mg base 2 "rule_wish" ["rule", "hands", "newest"] spRw := mkCt F1 b1 m1 (ok_rule_wish F1 (c_row_says.mono (by decide)))
  have c_wish : Ct P w K mg base 3 "wish" ["post", "hands", "newest"] spWish := mkCt F0 b0 m0 (ok_wish F0 B (c_rule_wish.mono (by decide)))
  have c_hands_of : Ct P w K mg base 1 "hands_of" ["stand"] spHands := mkCt F3 b3 m3 (ok_hands_of F3 B)
  have c_since_and_look : Ct P w K mg base 1 "since_and_look" ["post", "since", "rest"] spSince := mkCt F5 b5 m5 (ok_since_and_look F5)
  have c_change_of : Ct P w K mg base 4 "change_of" ["post", "hands", "newest", "free"] spChange := mkCt F6 b6 m6 (ok_change_of F6 B (c_wish.mono (by decide)))
  have c_sent_home : Ct P w K mg base 1 "sent_home" ["ready", "called", "many"] spSent := mkCt F8 b8 m8 (ok_sent_home F8 B)
  have c_with_change : Ct P w K mg base 2 "with_change" ["post", "stand", "change"] spWith := mkCt F7 b7 m7 (ok_with_change F7 B (c_sent_home.mono (by decide)))
  have c_beat : CtD P w K mg base 5 "beat" ["post", "stand", "come", "free"] 12 spBeat := mkCtD F4 b4 bd4 m4 (ok_beat F4 B O (c_since_and_look.mono (by decide)) (c_change_of.mono (by decide)) (c_hands_of.mono (by decide)) (c_with_change.mono (by decide)))
  have c_first_stand : Ct P w K mg base 1 "first_stand" ["post"] spFirst := mkCt F9 b9 m9 (ok_first_stand F9 B)
  have c_played : Ct P w K mg base 6 "played" ["post", "stand", "load"] spPlayed := mkCt F10 b10 m10 (ok_played F10 B (c_beat.mono (by decide)))
  have c_after : Ct P w K mg base 6 "after" ["post", "stand", "load"] spAfter := mkCt F11 b11 m11 (ok_after F11 B (c_beat.mono (by decide)))
  have c__law_tape : Ct P w K mg base 1 "_law_tape" ["_law_script", "_law_k"] (spTape K) := mkCt F12 b12 m12 (ok_l_tape F12 B)
  have c__law_draw : Ct P w K mg base 1 "_law_draw" ["_law_tape_here", "_law_many"] spDraw := mkCt F13 b13 m13 (ok_l_draw F13 B)
  have c__law_post : Ct P w K mg base 2 "_law_post" ["_law_tape_here"] spPost := mkCt F14 b14 m14 (ok_l_post F14 B (c__law_draw.mono (by decide)))
  have c__law_load : Ct P w K mg base 2 "_law_load" ["_law_script", "_law_tape_here", "_law_number"] (spLoad K) := mkCt F15 b15 m15 (ok_l_load F15 B (c__law_draw.mono (by decide)))
  exact ok_law F16 B (c__law_tape.mono (by decide)) (c__law_post.mono (by decide)) (c__law_load.mono (by decide)) (c_first_stand.mono (by decide)) (c_played.mono (by decide)) (c_after.mono (by decide)) (c_hands_of.mono (by decide))
/-! ### the program's top -/
theorem all_mk {l : PySem.W.OpenLaw} {w : World} {K : PySem.W.Frag} {h : Heap} {mg : Str → Option Value} {fa : Addr} (X : K.In h) (G : h.Ns mainGlobals mg) (hfa : mg "law" = some (.ref fa))
    {f0 : Addr} {od0 an0 : Option Addr} {sl0 : Array (Option Value)} {oc0 kV0 dc0 pm0 cd0 ct0 : Value}
    {f1 : Addr} {od1 an1 : Option Addr} {sl1 : Array (Option Value)} {oc1 kV1 dc1 pm1 cd1 ct1 : Value}
    {f2 : Addr} {od2 an2 : Option Addr} {sl2 : Array (Option Value)} {oc2 kV2 dc2 pm2 cd2 ct2 : Value}
    {f3 : Addr} {od3 an3 : Option Addr} {sl3 : Array (Option Value)} {oc3 kV3 dc3 pm3 cd3 ct3 : Value}
    {f4 : Addr} {od4 an4 : Option Addr} {sl4 : Array (Option Value)} {oc4 kV4 dc4 pm4 cd4 ct4 : Value}
    {f5 : Addr} {od5 an5 : Option Addr} {sl5 : Array (Option Value)} {oc5 kV5 dc5 pm5 cd5 ct5 : Value}
    {f6 : Addr} {od6 an6 : Option Addr} {sl6 : Array (Option Value)} {oc6 kV6 dc6 pm6 cd6 ct6 : Value}
    {f7 : Addr} {od7 an7 : Option Addr} {sl7 : Array (Option Value)} {oc7 kV7 dc7 pm7 cd7 ct7 : Value}
    {f8 : Addr} {od8 an8 : Option Addr} {sl8 : Array (Option Value)} {oc8 kV8 dc8 pm8 cd8 ct8 : Value}
    {f9 : Addr} {od9 an9 : Option Addr} {sl9 : Array (Option Value)} {oc9 kV9 dc9 pm9 cd9 ct9 : Value}
    {f10 : Addr} {od10 an10 : Option Addr} {sl10 : Array (Option Value)} {oc10 kV10 dc10 pm10 cd10 ct10 : Value}
    {f11 : Addr} {od11 an11 : Option Addr} {sl11 : Array (Option Value)} {oc11 kV11 dc11 pm11 cd11 ct11 : Value}
    {f12 : Addr} {od12 an12 : Option Addr} {sl12 : Array (Option Value)} {oc12 kV12 dc12 pm12 cd12 ct12 : Value}
    {f13 : Addr} {od13 an13 : Option Addr} {sl13 : Array (Option Value)} {oc13 kV13 dc13 pm13 cd13 ct13 : Value}
    {f14 : Addr} {od14 an14 : Option Addr} {sl14 : Array (Option Value)} {oc14 kV14 dc14 pm14 cd14 ct14 : Value}
    {f15 : Addr} {od15 an15 : Option Addr} {sl15 : Array (Option Value)} {oc15 kV15 dc15 pm15 cd15 ct15 : Value}
    {f16 : Addr} {od16 an16 : Option Addr} {sl16 : Array (Option Value)} {oc16 kV16 dc16 pm16 cd16 ct16 : Value}
    (a0 : PySem.W.nsIn K mainGlobals "wish" = some (some (.ref f0))) (l0 : K.lookup f0 = some ⟨oc0, od0, .func (PySem.W.fnOf "wish" "wish" (defArgs s_wish) (defBody s_wish) (defScope s_wish) .none kV0 dc0 pm0 an0 cd0 ct0), sl0⟩) (c0 : PySem.W.codeIn K cd0 "wish" = true) (k0 : PySem.W.keepIn K (.ref f0) = true)
    (a1 : PySem.W.nsIn K mainGlobals "rule_wish" = some (some (.ref f1))) (l1 : K.lookup f1 = some ⟨oc1, od1, .func (PySem.W.fnOf "rule_wish" "rule_wish" (defArgs s_rule_wish) (defBody s_rule_wish) (defScope s_rule_wish) .none kV1 dc1 pm1 an1 cd1 ct1), sl1⟩) (c1 : PySem.W.codeIn K cd1 "rule_wish" = true) (k1 : PySem.W.keepIn K (.ref f1) = true)
    (a2 : PySem.W.nsIn K mainGlobals "row_says" = some (some (.ref f2))) (l2 : K.lookup f2 = some ⟨oc2, od2, .func (PySem.W.fnOf "row_says" "row_says" (defArgs s_row_says) (defBody s_row_says) (defScope s_row_says) .none kV2 dc2 pm2 an2 cd2 ct2), sl2⟩) (c2 : PySem.W.codeIn K cd2 "row_says" = true) (k2 : PySem.W.keepIn K (.ref f2) = true)
    (a3 : PySem.W.nsIn K mainGlobals "hands_of" = some (some (.ref f3))) (l3 : K.lookup f3 = some ⟨oc3, od3, .func (PySem.W.fnOf "hands_of" "hands_of" (defArgs s_hands_of) (defBody s_hands_of) (defScope s_hands_of) .none kV3 dc3 pm3 an3 cd3 ct3), sl3⟩) (c3 : PySem.W.codeIn K cd3 "hands_of" = true) (k3 : PySem.W.keepIn K (.ref f3) = true)
    {T4 : Addr} {tk4 : Tok} {oT4 : Value} {dT4 : Option Addr} {nT4 : Nat} {sT4 : Array (Option Value)}
    (a4 : PySem.W.nsIn K mainGlobals "beat" = some (some (.ref f4))) (l4 : K.lookup f4 = some ⟨oc4, od4, .func (PySem.W.fnOf "beat" "beat" (defArgs s_beat) (defBody s_beat) (defScope s_beat) (.ref T4) kV4 dc4 pm4 an4 cd4 ct4), sl4⟩) (c4 : PySem.W.codeIn K cd4 "beat" = true) (k4 : PySem.W.keepIn K (.ref f4) = true)
    (e4 : K.lookup T4 = some ⟨oT4, dT4, .seq #[.int 12 tk4] nT4, sT4⟩)
    (a5 : PySem.W.nsIn K mainGlobals "since_and_look" = some (some (.ref f5))) (l5 : K.lookup f5 = some ⟨oc5, od5, .func (PySem.W.fnOf "since_and_look" "since_and_look" (defArgs s_since_and_look) (defBody s_since_and_look) (defScope s_since_and_look) .none kV5 dc5 pm5 an5 cd5 ct5), sl5⟩) (c5 : PySem.W.codeIn K cd5 "since_and_look" = true) (k5 : PySem.W.keepIn K (.ref f5) = true)
    (a6 : PySem.W.nsIn K mainGlobals "change_of" = some (some (.ref f6))) (l6 : K.lookup f6 = some ⟨oc6, od6, .func (PySem.W.fnOf "change_of" "change_of" (defArgs s_change_of) (defBody s_change_of) (defScope s_change_of) .none kV6 dc6 pm6 an6 cd6 ct6), sl6⟩) (c6 : PySem.W.codeIn K cd6 "change_of" = true) (k6 : PySem.W.keepIn K (.ref f6) = true)
    (a7 : PySem.W.nsIn K mainGlobals "with_change" = some (some (.ref f7))) (l7 : K.lookup f7 = some ⟨oc7, od7, .func (PySem.W.fnOf "with_change" "with_change" (defArgs s_with_change) (defBody s_with_change) (defScope s_with_change) .none kV7 dc7 pm7 an7 cd7 ct7), sl7⟩) (c7 : PySem.W.codeIn K cd7 "with_change" = true) (k7 : PySem.W.keepIn K (.ref f7) = true)
    (a8 : PySem.W.nsIn K mainGlobals "sent_home" = some (some (.ref f8))) (l8 : K.lookup f8 = some ⟨oc8, od8, .func (PySem.W.fnOf "sent_home" "sent_home" (defArgs s_sent_home) (defBody s_sent_home) (defScope s_sent_home) .none kV8 dc8 pm8 an8 cd8 ct8), sl8⟩) (c8 : PySem.W.codeIn K cd8 "sent_home" = true) (k8 : PySem.W.keepIn K (.ref f8) = true)
    (a9 : PySem.W.nsIn K mainGlobals "first_stand" = some (some (.ref f9))) (l9 : K.lookup f9 = some ⟨oc9, od9, .func (PySem.W.fnOf "first_stand" "first_stand" (defArgs s_first_stand) (defBody s_first_stand) (defScope s_first_stand) .none kV9 dc9 pm9 an9 cd9 ct9), sl9⟩) (c9 : PySem.W.codeIn K cd9 "first_stand" = true) (k9 : PySem.W.keepIn K (.ref f9) = true)
    (a10 : PySem.W.nsIn K mainGlobals "played" = some (some (.ref f10))) (l10 : K.lookup f10 = some ⟨oc10, od10, .func (PySem.W.fnOf "played" "played" (defArgs s_played) (defBody s_played) (defScope s_played) .none kV10 dc10 pm10 an10 cd10 ct10), sl10⟩) (c10 : PySem.W.codeIn K cd10 "played" = true) (k10 : PySem.W.keepIn K (.ref f10) = true)
    (a11 : PySem.W.nsIn K mainGlobals "after" = some (some (.ref f11))) (l11 : K.lookup f11 = some ⟨oc11, od11, .func (PySem.W.fnOf "after" "after" (defArgs s_after) (defBody s_after) (defScope s_after) .none kV11 dc11 pm11 an11 cd11 ct11), sl11⟩) (c11 : PySem.W.codeIn K cd11 "after" = true) (k11 : PySem.W.keepIn K (.ref f11) = true)
    (a12 : PySem.W.nsIn K mainGlobals "_law_tape" = some (some (.ref f12))) (l12 : K.lookup f12 = some ⟨oc12, od12, .func (PySem.W.fnOf "_law_tape" "_law_tape" (defArgs s_l_tape) (defBody s_l_tape) (defScope s_l_tape) .none kV12 dc12 pm12 an12 cd12 ct12), sl12⟩) (c12 : PySem.W.codeIn K cd12 "_law_tape" = true) (k12 : PySem.W.keepIn K (.ref f12) = true)
    (a13 : PySem.W.nsIn K mainGlobals "_law_draw" = some (some (.ref f13))) (l13 : K.lookup f13 = some ⟨oc13, od13, .func (PySem.W.fnOf "_law_draw" "_law_draw" (defArgs s_l_draw) (defBody s_l_draw) (defScope s_l_draw) .none kV13 dc13 pm13 an13 cd13 ct13), sl13⟩) (c13 : PySem.W.codeIn K cd13 "_law_draw" = true) (k13 : PySem.W.keepIn K (.ref f13) = true)
    (a14 : PySem.W.nsIn K mainGlobals "_law_post" = some (some (.ref f14))) (l14 : K.lookup f14 = some ⟨oc14, od14, .func (PySem.W.fnOf "_law_post" "_law_post" (defArgs s_l_post) (defBody s_l_post) (defScope s_l_post) .none kV14 dc14 pm14 an14 cd14 ct14), sl14⟩) (c14 : PySem.W.codeIn K cd14 "_law_post" = true) (k14 : PySem.W.keepIn K (.ref f14) = true)
    (a15 : PySem.W.nsIn K mainGlobals "_law_load" = some (some (.ref f15))) (l15 : K.lookup f15 = some ⟨oc15, od15, .func (PySem.W.fnOf "_law_load" "_law_load" (defArgs s_l_load) (defBody s_l_load) (defScope s_l_load) .none kV15 dc15 pm15 an15 cd15 ct15), sl15⟩) (c15 : PySem.W.codeIn K cd15 "_law_load" = true) (k15 : PySem.W.keepIn K (.ref f15) = true)
    (a16 : PySem.W.nsIn K mainGlobals "law" = some (some (.ref f16))) (l16 : K.lookup f16 = some ⟨oc16, od16, .func (PySem.W.fnOf "law" "law" (defArgs s_law) (defBody s_law) (defScope s_law) .none kV16 dc16 pm16 an16 cd16 ct16), sl16⟩) (c16 : PySem.W.codeIn K cd16 "law" = true) (k16 : PySem.W.keepIn K (.ref f16) = true)
    (z_int : PySem.W.nsIn K mainGlobals "int" = some none)
    (z_tuple : PySem.W.nsIn K mainGlobals "tuple" = some none)
    (z_len : PySem.W.nsIn K mainGlobals "len" = some none)
    (z_sum : PySem.W.nsIn K mainGlobals "sum" = some none)
    (z_range : PySem.W.nsIn K mainGlobals "range" = some none)
    (z_abs : PySem.W.nsIn K mainGlobals "abs" = some none)
    (z_min : PySem.W.nsIn K mainGlobals "min" = some none)
    (z_max : PySem.W.nsIn K mainGlobals "max" = some none)
    (z_list : PySem.W.nsIn K mainGlobals "list" = some none)
    (z_reversed : PySem.W.nsIn K mainGlobals "reversed" = some none)
    (z_enumerate : PySem.W.nsIn K mainGlobals "enumerate" = some none)
    {w_WHATS : Addr} {nn_WHATS : Nat} {ss_WHATS : Array (Option Value)} {u_WHATS0 u_WHATS1 u_WHATS2 : Tok} (n_WHATS : PySem.W.nsIn K mainGlobals "WHATS" = some (some (.ref w_WHATS))) (m_WHATS : K.lookup w_WHATS = some ⟨.type "tuple", none, .seq #[.str "come" u_WHATS0, .str "done" u_WHATS1, .str "wait" u_WHATS2] nn_WHATS, ss_WHATS⟩)
    {t_OVER : Tok} (n_OVER : PySem.W.nsIn K mainGlobals "OVER" = some (some (.str "over" t_OVER)))
    {t_UNDER : Tok} (n_UNDER : PySem.W.nsIn K mainGlobals "UNDER" = some (some (.str "under" t_UNDER)))
    {t_EACH : Tok} (n_EACH : PySem.W.nsIn K mainGlobals "EACH" = some (some (.str "each" t_EACH)))
    {t_TRIPLES_SEEN : Tok} (n_TRIPLES_SEEN : PySem.W.nsIn K mainGlobals "TRIPLES_SEEN" = some (some (.int 3 t_TRIPLES_SEEN))) :
    ∃ fd : FuncData, (∀ (s : Shared) (v : Value), BindsTo s fd ⟨[v], []⟩ [("_law_script", v)]) ∧ ∀ base : Heap, K.In base → base.Ns mainGlobals mg → FnOk l.prog w K mg base CX0 7 fa fd ["_law_script"] (spLaw K) := by
  have e := hfa.symm.trans (PySem.W.mg_of X G a16)
  cases e
  have F0 := fun_mk (st := s_wish) l0 c0 k0
  have b0 := F0.binds (ps := ["post", "hands", "newest"]) fun _ _ _ _ _ _ us hl => match us, hl with | [_, _, _], _ => rfl
  have F1 := fun_mk (st := s_rule_wish) l1 c1 k1
  have b1 := F1.binds (ps := ["rule", "hands", "newest"]) fun _ _ _ _ _ _ us hl => match us, hl with | [_, _, _], _ => rfl
  have F2 := fun_mk (st := s_row_says) l2 c2 k2
  have b2 := F2.binds (ps := ["row", "hands", "newest"]) fun _ _ _ _ _ _ us hl => match us, hl with | [_, _, _], _ => rfl
  have F3 := fun_mk (st := s_hands_of) l3 c3 k3
  have b3 := F3.binds (ps := ["stand"]) fun _ _ _ _ _ _ us hl => match us, hl with | [_], _ => rfl
  have F4 : FunD K "beat" "beat" s_beat f4 _ T4 12 tk4 := ⟨⟨_, _, _, _, _, _, _, _, _, rfl, l4, c4⟩, k4, ⟨_, _, e4, rfl⟩⟩
  have b4 := F4.binds (ps := ["post", "stand", "come", "free"]) (ds := []) fun _ _ _ _ _ _ us hl => match us, hl with | [_, _, _, _], _ => ⟨_, rfl, rfl⟩
  have bd4 := F4.binds (ps := ["post", "stand", "come", "free"]) (ds := [.int 12 tk4]) fun _ _ _ _ _ _ us hl => by
    have hl2 := Nat.succ.inj ((List.length_append).symm.trans hl)
    match us, hl2 with
    | [_, _, _], _ => exact ⟨_, rfl, rfl⟩
  have F5 := fun_mk (st := s_since_and_look) l5 c5 k5
  have b5 := F5.binds (ps := ["post", "since", "rest"]) fun _ _ _ _ _ _ us hl => match us, hl with | [_, _, _], _ => rfl
  have F6 := fun_mk (st := s_change_of) l6 c6 k6
  have b6 := F6.binds (ps := ["post", "hands", "newest", "free"]) fun _ _ _ _ _ _ us hl => match us, hl with | [_, _, _, _], _ => rfl
  have F7 := fun_mk (st := s_with_change) l7 c7 k7
  have b7 := F7.binds (ps := ["post", "stand", "change"]) fun _ _ _ _ _ _ us hl => match us, hl with | [_, _, _], _ => rfl
  have F8 := fun_mk (st := s_sent_home) l8 c8 k8
  have b8 := F8.binds (ps := ["ready", "called", "many"]) fun _ _ _ _ _ _ us hl => match us, hl with | [_, _, _], _ => rfl
  have F9 := fun_mk (st := s_first_stand) l9 c9 k9
  have b9 := F9.binds (ps := ["post"]) fun _ _ _ _ _ _ us hl => match us, hl with | [_], _ => rfl
  have F10 := fun_mk (st := s_played) l10 c10 k10
  have b10 := F10.binds (ps := ["post", "stand", "load"]) fun _ _ _ _ _ _ us hl => match us, hl with | [_, _, _], _ => rfl
  have F11 := fun_mk (st := s_after) l11 c11 k11
  have b11 := F11.binds (ps := ["post", "stand", "load"]) fun _ _ _ _ _ _ us hl => match us, hl with | [_, _, _], _ => rfl
  have F12 := fun_mk (st := s_l_tape) l12 c12 k12
  have b12 := F12.binds (ps := ["_law_script", "_law_k"]) fun _ _ _ _ _ _ us hl => match us, hl with | [_, _], _ => rfl
  have F13 := fun_mk (st := s_l_draw) l13 c13 k13
  have b13 := F13.binds (ps := ["_law_tape_here", "_law_many"]) fun _ _ _ _ _ _ us hl => match us, hl with | [_, _], _ => rfl
  have F14 := fun_mk (st := s_l_post) l14 c14 k14
  have b14 := F14.binds (ps := ["_law_tape_here"]) fun _ _ _ _ _ _ us hl => match us, hl with | [_], _ => rfl
  have F15 := fun_mk (st := s_l_load) l15 c15 k15
  have b15 := F15.binds (ps := ["_law_script", "_law_tape_here", "_law_number"]) fun _ _ _ _ _ _ us hl => match us, hl with | [_, _, _], _ => rfl
  have F16 := fun_mk (st := s_law) l16 c16 k16
  have b16 := F16.binds (ps := ["_law_script"]) fun _ _ _ _ _ _ us hl => match us, hl with | [_], _ => rfl
  have B : Bi mg := ⟨PySem.W.mg_none_of X G z_int, PySem.W.mg_none_of X G z_tuple, PySem.W.mg_none_of X G z_len, PySem.W.mg_none_of X G z_sum, PySem.W.mg_none_of X G z_range, PySem.W.mg_none_of X G z_abs, PySem.W.mg_none_of X G z_min, PySem.W.mg_none_of X G z_max, PySem.W.mg_none_of X G z_list, PySem.W.mg_none_of X G z_reversed, PySem.W.mg_none_of X G z_enumerate⟩
  have O : Co K mg := ⟨⟨w_WHATS, PySem.W.mg_of X G n_WHATS, ⟨_, m_WHATS, rfl, rfl⟩, fun H => .inr ⟨_, _, nn_WHATS, m_WHATS, rfl, rfl, (by show 3 ≤ sizeLine; decide), (.cons ⟨_, rfl⟩ (.cons ⟨_, rfl⟩ (.cons ⟨_, rfl⟩ .nil)))⟩⟩, ⟨t_OVER, PySem.W.mg_of X G n_OVER⟩, ⟨t_UNDER, PySem.W.mg_of X G n_UNDER⟩, ⟨t_EACH, PySem.W.mg_of X G n_EACH⟩, ⟨t_TRIPLES_SEEN, PySem.W.mg_of X G n_TRIPLES_SEEN⟩⟩
  refine ⟨PySem.W.fnOf "law" "law" (defArgs s_law) (defBody s_law) (defScope s_law) .none kV16 dc16 pm16 an16 cd16 ct16, fun s v => .of_eq rfl, fun base _ _ => ?_⟩
  exact all_ok B O F0 b0 (PySem.W.mg_of X G a0) F1 b1 (PySem.W.mg_of X G a1) F2 b2 (PySem.W.mg_of X G a2) F3 b3 (PySem.W.mg_of X G a3) F4 b4 bd4 (PySem.W.mg_of X G a4) F5 b5 (PySem.W.mg_of X G a5) F6 b6 (PySem.W.mg_of X G a6) F7 b7 (PySem.W.mg_of X G a7) F8 b8 (PySem.W.mg_of X G a8) F9 b9 (PySem.W.mg_of X G a9) F10 b10 (PySem.W.mg_of X G a10) F11 b11 (PySem.W.mg_of X G a11) F12 b12 (PySem.W.mg_of X G a12) F13 b13 (PySem.W.mg_of X G a13) F14 b14 (PySem.W.mg_of X G a14) F15 b15 (PySem.W.mg_of X G a15) F16 b16 (PySem.W.mg_of X G a16)
theorem walk {l : PySem.W.OpenLaw} {q : Program} {loose : List Str} {XP : (Str → Option Value) → Heap → Prop} {YP : World → Heap → Prop} {d : DefRec} {K : Params → PySem.W.Frag} (hn : l.most = some 63) (hdf : d.params.defaults = [])
    (hY : ∀ (w : World) (h : Heap), YP w h → (K w.params).In h)
    (F : ∀ (w : World) (mg : Str → Option Value) (fa : Addr) (h : Heap), (K w.params).In h → h.Ns mainGlobals mg → mg d.name = some (.ref fa) →
      ∃ fd : FuncData, (∀ (s : Shared) (u : Value), BindsTo s fd ⟨[u], []⟩ [("_law_script", u)]) ∧ ∀ base : Heap, (K w.params).In base → base.Ns mainGlobals mg → FnOk l.prog w (K w.params) mg base CX0 7 fa fd ["_law_script"] (spLaw (K w.params))) :
    PySem.W.WalkO q loose XP YP l.row.toRowW d [] (fun f vs => PySem.call f vs) :=
  L2.walk_of (n := 63) (k := 7) (x := "_law_script") (CX := fun _ => CX0) (sp := fun w => spLaw (K w.params)) hn (by decide) hdf ⟨rfl, by decide, by decide, rfl⟩ hY F (fun _ _ a ns hl hO hS => ⟨a, ns, rfl, Scr.of hS hO, hl, fun _ => rfl⟩) fun _ _ _ _ _ z => z
end K13
open PySem PySem.W PyProof.Rows
set_option maxRecDepth 100000 in
set_option maxHeartbeats 0 in
theorem PySem.Challenge.cw_waithands_k13_rising_loads_holds : PySem.Challenge.rw_waithands_k13_rising_loads.Holds := by
  w_on; o_law; k_head; (case hw => w_witness2)
  k_fill
  refine K13.walk (l := PySem.Challenge.rw_waithands_k13_rising_loads) rfl rfl (fun w h Y => PySem.W.kIn_of Y) ?F
  case F =>
    intro w mg fa h KX G hmg
    refine' K13.all_mk KX G hmg ?a0 ?l0 ?c0 ?k0 ?a1 ?l1 ?c1 ?k1 ?a2 ?l2 ?c2 ?k2 ?a3 ?l3 ?c3 ?k3 ?a4 ?l4 ?c4 ?k4 ?e4 ?a5 ?l5 ?c5 ?k5 ?a6 ?l6 ?c6 ?k6 ?a7 ?l7 ?c7 ?k7 ?a8 ?l8 ?c8 ?k8 ?a9 ?l9 ?c9 ?k9 ?a10 ?l10 ?c10 ?k10 ?a11 ?l11 ?c11 ?k11 ?a12 ?l12 ?c12 ?k12 ?a13 ?l13 ?c13 ?k13 ?a14 ?l14 ?c14 ?k14 ?a15 ?l15 ?c15 ?k15 ?a16 ?l16 ?c16 ?k16 ?z_int ?z_tuple ?z_len ?z_sum ?z_range ?z_abs ?z_min ?z_max ?z_list ?z_reversed ?z_enumerate ?n_WHATS ?m_WHATS ?n_OVER ?n_UNDER ?n_EACH ?n_TRIPLES_SEEN
    (case a0 => k_is)
    (case l0 => k_is)
    (case c0 => k_is)
    (case k0 => k_is)
    (case a1 => k_is)
    (case l1 => k_is)
    (case c1 => k_is)
    (case k1 => k_is)
    (case a2 => k_is)
    (case l2 => k_is)
    (case c2 => k_is)
    (case k2 => k_is)
    (case a3 => k_is)
    (case l3 => k_is)
    (case c3 => k_is)
    (case k3 => k_is)
    (case a4 => k_is)
    (case l4 => k_is)
    (case c4 => k_is)
    (case k4 => k_is)
    (case e4 => k_is)
    (case a5 => k_is)
    (case l5 => k_is)
    (case c5 => k_is)
    (case k5 => k_is)
    (case a6 => k_is)
    (case l6 => k_is)
    (case c6 => k_is)
    (case k6 => k_is)
    (case a7 => k_is)
    (case l7 => k_is)
    (case c7 => k_is)
    (case k7 => k_is)
    (case a8 => k_is)
    (case l8 => k_is)
    (case c8 => k_is)
    (case k8 => k_is)
    (case a9 => k_is)
    (case l9 => k_is)
    (case c9 => k_is)
    (case k9 => k_is)
    (case a10 => k_is)
    (case l10 => k_is)
    (case c10 => k_is)
    (case k10 => k_is)
    (case a11 => k_is)
    (case l11 => k_is)
    (case c11 => k_is)
    (case k11 => k_is)
    (case a12 => k_is)
    (case l12 => k_is)
    (case c12 => k_is)
    (case k12 => k_is)
    (case a13 => k_is)
    (case l13 => k_is)
    (case c13 => k_is)
    (case k13 => k_is)
    (case a14 => k_is)
    (case l14 => k_is)
    (case c14 => k_is)
    (case k14 => k_is)
    (case a15 => k_is)
    (case l15 => k_is)
    (case c15 => k_is)
    (case k15 => k_is)
    (case a16 => k_is)
    (case l16 => k_is)
    (case c16 => k_is)
    (case k16 => k_is)
    (case z_int => k_is)
    (case z_tuple => k_is)
    (case z_len => k_is)
    (case z_sum => k_is)
    (case z_range => k_is)
    (case z_abs => k_is)
    (case z_min => k_is)
    (case z_max => k_is)
    (case z_list => k_is)
    (case z_reversed => k_is)
    (case z_enumerate => k_is)
    (case n_WHATS => k_is)
    (case m_WHATS => k_is)
    (case n_OVER => k_is)
    (case n_UNDER => k_is)
    (case n_EACH => k_is)
    (case n_TRIPLES_SEEN => k_is)
