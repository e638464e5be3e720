import PyProof.Rows.All
import Wide.All
import OpenK.AllK
import Wide.FinOn
import Lean
import PyProof.EqAt
import PyProof.EqKinds
import PyProof.TupleCall
import PyProof.P3In
import PyProof.NeData
import KE.KMinKey
import PyProof.Rows.CallKwBuiltin
import PyProof.LayNew
import PyProof.EnumFor
import PyProof.EnumMake
import PyProof.EnumStmt
import KE.KRevIter
import KE.KRevSl
import PyProof.StationsW
import PyProof.RulesAs
import KE.KTryMore
import PyProof.Rows.TopTwo
import PyProof.NsDelKeeps
import PyProof.ExcArgsOwn
import KE.KIsAll
import PyProof.AutoListH
import PySem.Challenge.RW_waithands_k64_loads_that_break
set_option Elab.async false
set_option linter.all false
set_option maxRecDepth 100000
/-! THE HAND LAYER, for ints, bools, texts, own classes, LISTS and tuples (index, slices, in, append, pop ..), calls, loops. Paste it whole ahead of your own text; what your proof does not reach may be deleted. -/
namespace L2
open PySem PySem.Spec PyProof.Rows

/-- a key: an int or a str -/
abbrev Key := Sum Int Str
def keyIs : Key → Value → Bool
  | .inl k, v => Value.isInt k v
  | .inr x, v => Value.isStrOf x v
def keyH (w : World) : Key → Int
  | .inl k => hashInt k
  | .inr x => hashStr w x
theorem keyIs_shape : ∀ {k : Key} {v : Value}, keyIs k v = true → (∃ i t, k = Sum.inl i ∧ v = Value.int i t) ∨ (∃ x t, k = Sum.inr x ∧ v = Value.str x t)
  | .inl i, v, h => by
    obtain ⟨t, e⟩ := Value.isInt_shape (k := i) (v := v) h
    exact .inl ⟨i, t, rfl, e⟩
  | .inr x, v, h => by
    obtain ⟨t, e⟩ := Value.isStrOf_shape (x := x) (v := v) h
    exact .inr ⟨x, t, rfl, e⟩
theorem key_ll (a b : Int) : decide ((Sum.inl a : Key) = Sum.inl b) = (a == b) := by
  by_cases e : a = b
  · subst e; simp
  · have h : ¬ (Sum.inl a : Key) = Sum.inl b := fun q => e (Sum.inl.inj q)
    rw [decide_eq_false h]
    exact (beq_eq_false_iff_ne.mpr e).symm
theorem key_rr (a b : Str) : decide ((Sum.inr a : Key) = Sum.inr b) = decide (a = b) := by
  by_cases e : a = b
  · subst e; simp
  · have h : ¬ (Sum.inr a : Key) = Sum.inr b := fun q => e (Sum.inr.inj q)
    rw [decide_eq_false h, decide_eq_false e]
theorem key_lr (a : Int) (b : Str) : decide ((Sum.inl a : Key) = Sum.inr b) = false := decide_eq_false (fun q => nomatch q)
theorem key_rl (a : Str) (b : Int) : decide ((Sum.inr a : Key) = Sum.inl b) = false := decide_eq_false (fun q => nomatch q)

def mixKind (prog : Program) (w : World) : PySem.KeyKind prog w Key where
  is := keyIs
  hash := keyH w
  inj := fun v a b ha hb => by
    rcases keyIs_shape ha with ⟨i, t, rfl, rfl⟩ | ⟨x, t, rfl, rfl⟩
    · rcases keyIs_shape hb with ⟨j, u, rfl, e⟩ | ⟨y, u, rfl, e⟩
      · injection e with e1 _; rw [e1]
      · exact nomatch e
    · rcases keyIs_shape hb with ⟨j, u, rfl, e⟩ | ⟨y, u, rfl, e⟩
      · exact nomatch e
      · injection e with e1 _; rw [e1]
  byValue := fun k v h => by
    rcases keyIs_shape h with ⟨i, t, rfl, rfl⟩ | ⟨x, t, rfl, rfl⟩ <;> rfl
  pyHash := fun hv h => by
    rcases keyIs_shape hv with ⟨i, t, rfl, rfl⟩ | ⟨x, t, rfl, rfl⟩
    · exact wpAny_pyHash_int h
    · exact wpAny_pyHash_str h
  eqBool := fun hu hv h => by
    rcases keyIs_shape hu with ⟨i, t, rfl, rfl⟩ | ⟨x, t, rfl, rfl⟩
    · rcases keyIs_shape hv with ⟨j, u, rfl, rfl⟩ | ⟨y, u, rfl, rfl⟩
      · rw [key_ll] at h; exact wpAny_eqBool_int h
      · rw [key_lr] at h; exact SeqAt.EqAt.int_str i t y u _ _ _ _ h
    · rcases keyIs_shape hv with ⟨j, u, rfl, rfl⟩ | ⟨y, u, rfl, rfl⟩
      · rw [key_rl] at h; exact SeqAt.EqAt.str_int x t j u _ _ _ _ h
      · rw [key_rr] at h; exact wpAny_eqBool_str h
  «strs» := fun k x t v h => by
    rcases keyIs_shape h with ⟨i, u, rfl, e⟩ | ⟨y, u, rfl, e⟩
    · exact nomatch e
    · injection e with e1 _
      subst e1
      cases v <;> rfl

end L2

namespace L2
open PySem PySem.Spec PyProof.Rows

/-- a value, without the heap -/
inductive V where
  | non | bl (b : Bool) | int (i : Int) | str (x : Str) | byt (b : Array UInt8) | flt (b : UInt64) | ref (a : Addr) | ty (n : String)
  deriving DecidableEq

def RelV : V → Value → Prop
  | .non, u => u = Value.none
  | .bl b, u => u = Value.bool b
  | .int i, u => ∃ t, u = Value.int i t
  | .str x, u => ∃ t, u = Value.str x t
  | .byt b, u => ∃ t, u = Value.bytes b t
  | .flt b, u => ∃ t, u = Value.float b t
  | .ref a, u => u = Value.ref a
  | .ty n, u => u = Value.type n

abbrev Vals : List V → List Value → Prop := Paired RelV
theorem Vals.length {xs : List V} {us : List Value} (r : Vals xs us) : xs.length = us.length := Paired.length r
theorem Vals.get : ∀ {xs : List V} {us : List Value} {i : Nat} {x : V}, Vals xs us → xs[i]? = some x → ∃ u, us[i]? = some u ∧ RelV x u
  | _, _, _, _, .nil, e => by simp at e
  | _, _, 0, _, .cons r _, e => by simp at e; subst e; exact ⟨_, rfl, r⟩
  | _, _, i + 1, x, .cons _ t, e => by
    obtain ⟨u, h1, h2⟩ := Vals.get (i := i) (x := x) t (by simpa using e)
    exact ⟨u, by simpa using h1, h2⟩
theorem Vals.set {x : V} {u : Value} (r : RelV x u) : ∀ {xs : List V} {us : List Value} (i : Nat), Vals xs us → Vals (xs.set i x) (us.set i u)
  | _, _, _, .nil => .nil
  | _, _, 0, .cons _ t => .cons r t
  | _, _, i + 1, .cons q t => .cons q (Vals.set r i t)
theorem Vals.append : ∀ {xs ys : List V} {us ws : List Value}, Vals xs us → Vals ys ws → Vals (xs ++ ys) (us ++ ws)
  | _, _, _, _, .nil, s => s
  | _, _, _, _, .cons r t, s => .cons r (Vals.append t s)
theorem Vals.take : ∀ {xs : List V} {us : List Value} (n : Nat), Vals xs us → Vals (xs.take n) (us.take n)
  | _, _, 0, _ => .nil
  | _, _, _ + 1, .nil => .nil
  | _, _, n + 1, .cons r t => .cons r (Vals.take n t)
theorem Vals.drop : ∀ {xs : List V} {us : List Value} (n : Nat), Vals xs us → Vals (xs.drop n) (us.drop n)
  | _, _, 0, r => r
  | _, _, _ + 1, .nil => .nil
  | _, _, n + 1, .cons _ t => Vals.drop n t
theorem Vals.none_of : ∀ {xs : List V} {us : List Value} {i : Nat}, Vals xs us → xs[i]? = none → us[i]? = none := fun {xs us i} r e => by
  have h1 := r.length
  have h2 : xs.length ≤ i := List.getElem?_eq_none_iff.mp e
  exact List.getElem?_eq_none_iff.mpr (by omega)

def RelO : Option V → Option Value → Prop
  | some v, some u => RelV v u
  | none, none => True
  | _, _ => False
def KV {κ : Type} : List (κ × V) → List (κ × Value) → Prop := Paired fun (p : κ × V) (q : κ × Value) => p.1 = q.1 ∧ RelV p.2 q.2

/-- a key of a dict (00_mix): an int or a text -/
def kV : Key → V
  | .inl i => .int i
  | .inr x => .str x

/-- what stands at a tracked address -/
inductive HO where
  /-- a list -/
  | lst (xs : List V)
  /-- a tuple (never changes) -/
  | tup (xs : List V)
  /-- a dict whose keys are ints and texts; one whose keys are tuples of ints and texts (the empty one is both) -/
  | dK (kvs : List (Key × V)) | dT (kvs : List (List Key × V))
  /-- a set of ints: its members, its size -/
  | set (S : Int → Bool) (n : Nat)
  /-- an instance of the class at C, its dict at dx, its attributes -/
  | ins (C dx : Addr) (fs : List (Str × V))
  /-- the dict of the instance at x -/
  | own (x : Addr)
  /-- the dict of an exception -/
  | xd (fs : List (Str × V))
  /-- a bound method, f of x -/
  | met (f x : Addr)
  /-- a range object lo, lo + 1, .. below hi -/
  | rng (lo hi : Int)
  /-- a thing that is known to the object (the script; a dict while a loop walks it): read, never written while it is so -/
  | frz (o : Obj) (u : HO)
  /-- a code object's table -/
  | tbl (ps : Array Value)
  /-- any other thing, by what is true of its one object (a def of one's own: SetO a S n := HO.ext fun h => ..) -/
  | ext (φ : Heap → Prop)

abbrev Hp := Addr → Option HO
def upd (H : Hp) (a : Addr) (o : HO) : Hp := fun b => if b = a then some o else H b
theorem upd_same {H : Hp} {a : Addr} {o : HO} : upd H a o a = some o := by unfold upd; rw [if_pos rfl]
theorem upd_ne {H : Hp} {a b : Addr} {o : HO} (h : b ≠ a) : upd H a o b = H b := by unfold upd; rw [if_neg h]
theorem ne_of_none {H : Hp} {a b : Addr} {o : HO} (h : H a = some o) (h' : H b = none) : a ≠ b := by
  intro e; subst e; rw [h] at h'; cases h'

section
variable (P : Program) (w : World)
def ObjOk (H : Hp) (h : Heap) (a : Addr) : HO → Prop
  | .lst xs => xs.length ≤ sizeLine ∧ ∃ (its : List Value) (n : Nat), Vals xs its ∧ h.get? a = some { cls := .type "list", data := .seq its.toArray n }
  | .tup xs => xs.length ≤ sizeLine ∧ ∃ its : List Value, Vals xs its ∧ IsTup h a its.toArray
  | .dK kvs => kvs.length ≤ sizeLine ∧ (a == sysModules) = false ∧ ∃ vs, KV kvs vs ∧ h.DictOf (mixKind P w) a vs
  | .dT kvs => kvs.length ≤ sizeLine ∧ (a == sysModules) = false ∧ ∃ xs : List (List Key × Addr × Value),
      Paired (fun (p : List Key × V) (q : List Key × Addr × Value) => p.1 = q.1 ∧ H q.2.1 = some (.tup (p.1.map kV)) ∧ RelV p.2 q.2.2) kvs xs ∧
      ∃ o es ep, h.get? a = some o ∧ o.ExactDict ∧ o.data = .dict es ep ∧ es.toList = xs.map (entryOfKey (tupleKind (mixKind P w))) ∧ (xs.map (·.1)).Nodup
  | .set S n => h.SetOf (intKind P w) a S n
  | .ins C dx fs => H dx = some (.own a) ∧ fs.length ≤ 1000 ∧ dx ≠ a ∧ h.get? a = some (PySem.W.instObj C dx) ∧
      ∃ mA, h.Ns1 dx mA ∧ (∀ f, RelO (fs.lookup f) (mA f)) ∧ PySem.Within mA (fs.map (·.1))
  | .own _ => ∃ o, h.get? a = some o
  | .xd fs => ∃ mA, h.Ns1 a mA ∧ ∀ f, RelO (fs.lookup f) (mA f)
  | .rng lo hi => ∃ t u v, h.get? a = some { cls := .type "range", data := .fields #[.int lo t, .int hi u, .int 1 v] }
  | .frz o u => h.get? a = some o ∧ ObjOk H h a u
  | .tbl ps => h.get? a = some { cls := .none, data := .fields ps }
  | .met f x => h.get? a = some (PySem.W.methodObj (.ref f) (.ref x))
  | .ext φ => φ h ∧ (∃ o, h.get? a = some o) ∧ ∀ h1 h2 : Heap, φ h1 → (∀ o, h1.get? a = some o → h2.get? a = some o) → φ h2
/-- the abstract heap is held -/
def HOk (H : Hp) (h : Heap) : Prop := ∀ a o, H a = some o → ObjOk P w H h a o
end

section
variable {P : Program} {w : World} {H H' : Hp} {h h' : Heap} {a : Addr} {o : HO}
theorem ObjOk.lt (x : ObjOk P w H h a o) : a < h.objs.size := by
  cases o with
  | lst xs => obtain ⟨_, _, _, _, e⟩ := x; exact Heap.lt_size e
  | tup xs => obtain ⟨_, _, _, p⟩ := x; exact p.lt
  | dK kvs => obtain ⟨_, _, _, _, o, _, _, e, _⟩ := x; exact Heap.lt_size e
  | dT kvs => obtain ⟨_, _, _, _, o, _, _, e, _⟩ := x; exact Heap.lt_size e
  | set S n => obtain ⟨o, _, _, _, e, _⟩ := x; exact Heap.lt_size e
  | ins C dx fs => obtain ⟨_, _, _, e, _⟩ := x; exact Heap.lt_size e
  | own y => obtain ⟨_, e⟩ := x; exact Heap.lt_size e
  | xd fs => obtain ⟨_, ⟨_, _, _, e, _⟩, _⟩ := x; exact Heap.lt_size e
  | rng lo hi => obtain ⟨_, _, _, e⟩ := x; exact Heap.lt_size e
  | frz ob u => obtain ⟨e, _⟩ := x; exact Heap.lt_size e
  | tbl ps => exact Heap.lt_size (show h.get? a = some _ from x)
  | met f y => exact Heap.lt_size (show h.get? a = some _ from x)
  | ext φ => obtain ⟨_, ⟨_, e⟩, _⟩ := x; exact Heap.lt_size e
theorem Paired.mapP {α β : Type} {F G : α → β → Prop} : ∀ {l₁ : List α} {l₂ : List β}, Paired F l₁ l₂ → (∀ a b, F a b → G a b) → Paired G l₁ l₂
  | _, _, .nil, _ => .nil
  | _, _, .cons r t, f => .cons (f _ _ r) (Paired.mapP t f)
/-- what an object's description leans on: its own object, its own dict, the tuples -/
theorem ObjOk.stay (x : ObjOk P w H h a o) (k : ∀ b u, (b = a ∨ H b = some (.own a)) → h.get? b = some u → h'.get? b = some u)
    (ho : ∀ b, H b = some (.own a) → H' b = some (.own a)) (ht : ∀ b xs, H b = some (.tup xs) → H' b = some (.tup xs)) : ObjOk P w H' h' a o := by
  induction o with
  | lst xs => obtain ⟨z, its, n, r, e⟩ := x; exact ⟨z, its, n, r, k _ _ (.inl rfl) e⟩
  | tup xs => obtain ⟨z, its, r, ob, e, c⟩ := x; exact ⟨z, its, r, ob, k _ _ (.inl rfl) e, c⟩
  | dK kvs => obtain ⟨z, y, vs, r, ob, es, ep, e, c⟩ := x; exact ⟨z, y, vs, r, ob, es, ep, k _ _ (.inl rfl) e, c⟩
  | dT kvs =>
    obtain ⟨z, y, xs, r, ob, es, ep, e, c⟩ := x
    exact ⟨z, y, xs, Paired.mapP r fun p q z => ⟨z.1, ht _ _ z.2.1, z.2.2⟩, ob, es, ep, k _ _ (.inl rfl) e, c⟩
  | set S n => obtain ⟨ob, es, ep, t, e, c⟩ := x; exact ⟨ob, es, ep, t, k _ _ (.inl rfl) e, c⟩
  | ins C dx fs =>
    obtain ⟨d, z, ne, e, mA, ⟨od, es, ep, e2, c⟩, r⟩ := x
    exact ⟨ho _ d, z, ne, k _ _ (.inl rfl) e, mA, ⟨od, es, ep, k _ _ (.inr d) e2, c⟩, r⟩
  | own y => obtain ⟨ob, e⟩ := x; exact ⟨ob, k _ _ (.inl rfl) e⟩
  | xd fs => obtain ⟨mA, ⟨od, es, ep, e, c⟩, r⟩ := x; exact ⟨mA, ⟨od, es, ep, k _ _ (.inl rfl) e, c⟩, r⟩
  | rng lo hi => obtain ⟨t, u, v, e⟩ := x; exact ⟨t, u, v, k _ _ (.inl rfl) e⟩
  | frz ob u ih => obtain ⟨e, q⟩ := x; exact ⟨k _ _ (.inl rfl) e, ih q⟩
  | tbl ps =>
    have e : h.get? a = some { cls := .none, data := .fields ps } := x
    show h'.get? a = some { cls := .none, data := .fields ps }
    exact k a _ (.inl rfl) e
  | met f y =>
    have e : h.get? a = some (PySem.W.methodObj (.ref f) (.ref y)) := x
    show h'.get? a = some (PySem.W.methodObj (.ref f) (.ref y))
    exact k a _ (.inl rfl) e
  | ext φ => obtain ⟨p, ⟨o, e⟩, st⟩ := x; exact ⟨st _ _ p fun o q => k _ _ (.inl rfl) q, ⟨o, k _ _ (.inl rfl) e⟩, st⟩
theorem HOk.lt (x : HOk P w H h) (e : H a = some o) : a < h.objs.size := (x a o e).lt
theorem HOk.fresh (x : HOk P w H h) (e : h.objs.size ≤ a) : H a = none := by
  cases q : H a with
  | none => rfl
  | some u => exact absurd (Nat.lt_of_lt_of_le (x.lt q) e) (Nat.lt_irrefl _)
/-- every object of the heap is kept -/
theorem HOk.kept (x : HOk P w H h) (k : ∀ b u, h.get? b = some u → h'.get? b = some u) : HOk P w H h' := fun a o e =>
  (x a o e).stay (fun b u _ q => k b u q) (fun _ q => q) fun _ _ q => q
/-- a new object is laid and tracked -/
theorem HOk.laid (x : HOk P w H h) (k : ∀ b u, h.get? b = some u → h'.get? b = some u) (hp : h.objs.size ≤ a) (new : ObjOk P w (upd H a o) h' a o) : HOk P w (upd H a o) h' := fun b u e => by
  have hn := x.fresh hp
  by_cases hb : b = a
  · subst hb; rw [upd_same] at e; cases e; exact new
  · rw [upd_ne hb] at e
    exact (x b u e).stay (fun c v _ q => k c v q) (fun c q => by rw [upd_ne (ne_of_none q hn)]; exact q) fun c xs q => by rw [upd_ne (ne_of_none q hn)]; exact q
end

/-- what may be read as u: it is u, or a known u -/
def Rd (H : Hp) (a : Addr) (u : HO) : Prop := H a = some u ∨ ∃ o, H a = some (.frz o u)
theorem Rd.of {H : Hp} {a : Addr} {u : HO} (h : H a = some u) : Rd H a u := .inl h
theorem Rd.ok {P : Program} {w : World} {H : Hp} {h : Heap} {a : Addr} {u : HO} (r : Rd H a u) (x : HOk P w H h) : ObjOk P w H h a u := by
  rcases r with r | ⟨o, r⟩
  · exact x a u r
  · obtain ⟨_, q⟩ := x a _ r
    exact q
/-- what may be written -/
def Mut : Option HO → Prop
  | some (.lst _) => True
  | some (.dK _) => True
  | some (.dT _) => True
  | some (.set _ _) => True
  | some (.ins _ _ _) => True
  | some (.ext _) => True
  | _ => False
section
variable {P : Program} {w : World} {H : Hp} {h h' : Heap} {x e : Addr} {o' : HO}
/-- the object at e is changed: x itself, or the dict of the instance x -/
theorem HOk.write (ok : HOk P w H h) (mu : Mut (H x)) (he : e = x ∨ H e = some (.own x)) (k : ∀ b u, b ≠ e → h.get? b = some u → h'.get? b = some u) (heo : ∃ u, h'.get? e = some u)
    (new : ObjOk P w (upd H x o') h' x o') : HOk P w (upd H x o') h' := fun b u q => by
  have nown : ∀ c y, H c = some (.own y) → c ≠ x := fun c y r z => by subst z; rw [r] at mu; exact mu
  have ntup : ∀ c xs, H c = some (.tup xs) → c ≠ x := fun c xs r z => by subst z; rw [r] at mu; exact mu
  by_cases hb : b = x
  · subst hb; rw [upd_same] at q; cases q; exact new
  · rw [upd_ne hb] at q
    by_cases hbe : b = e
    · have q' : H b = some (.own x) := by
        rcases he with z | z
        · exact absurd (hbe.trans z) hb
        · rw [hbe]; exact z
      rw [q] at q'; cases q'
      obtain ⟨v, hv⟩ := heo
      exact ⟨v, by rw [hbe]; exact hv⟩
    · refine (ok b u q).stay (fun c v hc r => k c v ?_ r) (fun c r => by rw [upd_ne (nown c b r)]; exact r) fun c xs r => by rw [upd_ne (ntup c xs r)]; exact r
      rcases hc with rfl | hc
      · exact hbe
      · rintro rfl
        rcases he with z | z
        · exact nown c b hc z
        · rw [hc] at z; cases z; exact hb rfl
end

/-! ### kept unless tracked; of the frames at fs (the callers') the slots may change (an exception that passes writes there); of the records at ex (iterators) nothing is said -/
structure Un (fs ex : List Addr) (H H' : Hp) (h h' : Heap) : Prop where
  keep : ∀ b o, h.get? b = some o → H b = none → b ∉ fs → b ∉ ex → h'.get? b = some o
  slot : ∀ b o, h.get? b = some o → H b = none → b ∈ fs → b ∉ ex → ∃ sl, h'.get? b = some { o with slots := sl }
  free : ∀ b o, h.get? b = some o → H b = none → b ∉ ex → H' b = none
  there : ∀ b o, h.get? b = some o → b ∉ ex → ∃ o', h'.get? b = some o'
  tups : ∀ b xs, H b = some (.tup xs) → H' b = some (.tup xs)
  frzs : ∀ b o u, H b = some (.frz o u) → H' b = some (.frz o u)
  tbls : ∀ b ps, H b = some (.tbl ps) → ∃ more, H' b = some (.tbl (ps ++ more))
section
variable {fs fs' ex ex' : List Addr} {H H1 H2 : Hp} {h h1 h2 h' : Heap} {a x e : Addr} {o : HO}
theorem Un.any (u : Un fs ex H H1 h h1) {b : Addr} {ob : Obj} (q : h.get? b = some ob) (n : H b = none) (hx : b ∉ ex) : ∃ sl, h1.get? b = some { ob with slots := sl } := by
  by_cases hb : b ∈ fs
  · exact u.slot b ob q n hb hx
  · exact ⟨ob.slots, u.keep b ob q n hb hx⟩
theorem Un.trans (a : Un fs ex H H1 h h1) (b : Un fs ex H1 H2 h1 h2) : Un fs ex H H2 h h2 where
  keep := fun c ob q n hc hx => b.keep c ob (a.keep c ob q n hc hx) (a.free c ob q n hx) hc hx
  slot := fun c ob q n hc hx => by
    obtain ⟨sl, e1⟩ := a.slot c ob q n hc hx
    obtain ⟨sl', e2⟩ := b.slot c _ e1 (a.free c ob q n hx) hc hx
    exact ⟨sl', e2⟩
  free := fun c ob q n hx => by
    obtain ⟨o', e1⟩ := a.there c ob q hx
    exact b.free c o' e1 (a.free c ob q n hx) hx
  there := fun c ob q hx => by
    obtain ⟨o', e1⟩ := a.there c ob q hx
    exact b.there c o' e1 hx
  tups := fun c xs q => b.tups c xs (a.tups c xs q)
  frzs := fun c ob xs q => b.frzs c ob xs (a.frzs c ob xs q)
  tbls := fun c ps q => by
    obtain ⟨m1, e1⟩ := a.tbls c ps q
    obtain ⟨m2, e2⟩ := b.tbls c _ e1
    exact ⟨m1 ++ m2, by rw [e2, Array.append_assoc]⟩
theorem Un.kept (k : ∀ b u, h.get? b = some u → h'.get? b = some u) : Un fs ex H H h h' :=
  ⟨fun b ob q _ _ _ => k b ob q, fun b ob q _ _ _ => ⟨ob.slots, k b ob q⟩, fun _ _ _ n _ => n, fun b ob q _ => ⟨ob, k b ob q⟩, fun _ _ q => q, fun _ _ _ q => q, fun _ ps q => ⟨#[], by rw [q]; simp⟩⟩
theorem Un.refl : Un fs ex H H h h := Un.kept fun _ _ q => q
theorem Un.laid (k : ∀ b u, h.get? b = some u → h'.get? b = some u) (hp : h.objs.size ≤ a) (hn : H a = none) : Un fs ex H (upd H a o) h h' where
  keep := fun b u q _ _ _ => k b u q
  slot := fun b u q _ _ _ => ⟨u.slots, k b u q⟩
  free := fun b u q n _ => by rw [upd_ne (Nat.ne_of_lt (Nat.lt_of_lt_of_le (Heap.lt_size q) hp))]; exact n
  there := fun b u q _ => ⟨u, k b u q⟩
  tups := fun b xs q => by rw [upd_ne (ne_of_none q hn)]; exact q
  frzs := fun b u xs q => by rw [upd_ne (ne_of_none q hn)]; exact q
  tbls := fun b ps q => ⟨#[], by rw [upd_ne (ne_of_none q hn), q]; simp⟩
theorem Un.write (mu : Mut (H x)) (he : e = x ∨ H e = some (.own x)) (k : ∀ b u, b ≠ e → h.get? b = some u → h'.get? b = some u) (heo : ∃ u, h'.get? e = some u) : Un fs ex H (upd H x o) h h' := by
  have hx : ∀ b, H b = none → b ≠ x := fun b n z => by subst z; rw [n] at mu; exact mu
  have hb : ∀ b, H b = none → b ≠ e := fun b n z => by
    subst z
    rcases he with r | r
    · exact hx b n r
    · rw [n] at r; cases r
  have hm : ∀ b u, H b = some u → ¬ Mut (some u) → b ≠ x := fun b u q nm z => by subst z; rw [q] at mu; exact nm mu
  refine ⟨fun b u q n _ _ => k b u (hb b n) q, fun b u q n _ _ => ⟨u.slots, k b u (hb b n) q⟩, fun b u q n _ => by rw [upd_ne (hx b n)]; exact n, fun b u q _ => ?_,
    fun b xs q => by rw [upd_ne (hm b _ q fun z => z)]; exact q, fun b u xs q => by rw [upd_ne (hm b _ q fun z => z)]; exact q, fun b ps q => ⟨#[], by rw [upd_ne (hm b _ q fun z => z), q]; simp⟩⟩
  by_cases hbe : b = e
  · subst hbe; exact heo
  · exact ⟨u, k b u hbe q⟩
theorem Un.mono (u : Un fs ex H H1 h h1) (hs : ∀ b ∈ fs, b ∈ fs') (hx : ∀ b ∈ ex, b ∈ ex') : Un fs' ex' H H1 h h1 :=
  ⟨fun b ob q n hb he => u.keep b ob q n (fun z => hb (hs b z)) fun z => he (hx b z), fun _ _ q n _ he => u.any q n fun z => he (hx _ z), fun b ob q n he => u.free b ob q n fun z => he (hx b z), fun b ob q he => u.there b ob q fun z => he (hx b z), u.tups, u.frzs, u.tbls⟩
end

/-! ### the heap without what is tracked -/
def trk (h : Heap) (H : Hp) : List Addr := (List.range h.objs.size).filter fun a => (H a).isSome
def hidT (h : Heap) (H : Hp) : Heap := PySem.W.hideAll h (trk h H)
theorem hidT_size (h : Heap) (H : Hp) : (hidT h H).objs.size = h.objs.size := PySem.W.hideAll_size _ _
theorem hidT_get {h : Heap} {H : Hp} {b : Addr} {o : Obj} (e : h.get? b = some o) (n : H b = none) : (hidT h H).get? b = some o :=
  PySem.W.hideAll_get _ e fun hm => by
    have q : (H b).isSome = true := (List.mem_filter.mp hm).2
    rw [n] at q; simp at q
theorem of_hidT {h : Heap} {H : Hp} {b : Addr} {o : Obj} (e : (hidT h H).get? b = some o) : h.get? b = some o ∧ H b = none := by
  have e' : h.get? b = some o := PySem.W.of_hideAll (trk h H) e
  refine ⟨e', ?_⟩
  cases q : H b with
  | none => rfl
  | some x =>
    have hm : b ∈ trk h H := List.mem_filter.mpr ⟨List.mem_range.mpr (Heap.lt_size e'), by simp [q]⟩
    have z : (hidT h H).get? b = none := PySem.W.hideAll_none (trk h H) hm
    rw [z] at e; cases e

/-! ### OpenK's ledger, filled with every new object but one -/
def allNews (g h : Heap) (L : Addr) : List (Addr × Obj) := (List.range h.objs.size).filterMap fun a => if a = L ∨ (g.get? a).isSome = true then none else (h.get? a).map fun o => (a, o)
def rest (g h : Heap) (L d : Addr) : List (Addr × Obj) := (allNews g h L).filter fun p => decide (p.1 ≠ d)
end L2

namespace L2
open PySem PySem.Spec PyProof.Rows

/-- the module's facts, over the base: the heap at the law's entry without what is tracked there -/
structure Mod (K : PySem.W.Frag) (mg : Str → Option Value) (base : Heap) : Prop where
  kin : K.In base
  glob : base.Ns mainGlobals mg
  blt : ∃ mb, base.Ns builtinsNs mb ∧ ∀ x : Str, x ≠ "__name__" → mb x = bootBuiltins x
  nolimit : base.NoLimit

/-- the context: a def's body (or a comprehension's block) running. base: fixed through the whole law; s₀, H₀: the entry; outer: the frames whose slots others may change (a def's callers); stack: all frames that run;
   ex: iterators that were made ahead of the entry and are walked here (a comprehension's); fn: the names whose cells were made at the entry (a def: all; a comprehension's block: its own); calm: not within an except suite; pn: pins that every state bears; xe: what is wanted of an exception that leaves the code -/
structure Cx where
  prog : Program
  w : World
  K : PySem.W.Frag
  mg : Str → Option Value
  base : Heap
  A : Around
  N : List Str
  s₀ : Shared
  H₀ : Hp
  env : Env
  outer : List Env
  stack : List Env
  ex : List Addr
  fn : Str → Bool
  calm : Bool
  pn : List (Addr × Obj)
  xe : Value → Shared → Prop
/-- the callers' frames -/
def frs (l : List Env) : List Addr := l.filterMap (·.frame)
abbrev Cx.fs (X : Cx) : List Addr := frs X.outer

def Vis (sc : Scope) (x : Str) : Prop := sc.names.lookup x = some .local ∨ sc.names.lookup x = some .cell ∨ sc.names.lookup x = some .free
def Loc (sc : Scope) (x : Str) : Prop := sc.names.lookup x = some .local ∨ sc.names.lookup x = some .cell
def Look (env : Env) (h : Heap) (m : Str → Option Value) (x : Str) (u : Value) : Prop :=
  (env.kindOf x = some .local ∧ m x = some u) ∨ ((env.kindOf x = some .cell ∨ env.kindOf x = some .free) ∧ ∃ c, env.cells.lookup x = some c ∧ h.IsCell c (some u))

structure Cx.Ok (X : Cx) : Prop where
  mod : Mod X.K X.mg X.base
  kind : X.env.scope.kind = .function
  glob : X.env.globals = mainGlobals
  blt : X.env.builtins = builtinsNs
  above : X.s₀.heap.objs.size ≤ X.env.locals
  inj : ∀ x y c, X.env.cells.lookup x = some c → X.env.cells.lookup y = some c → x = y
  has : ∀ x, (X.env.kindOf x = some .cell ∨ X.env.kindOf x = some .free) → ∃ c, X.env.cells.lookup x = some c
  cab : ∀ x c, X.fn x = true → X.env.cells.lookup x = some c → X.s₀.heap.objs.size ≤ c
  hd : X.calm = true → X.A.handled = none
  frames : X.A.frames = some X.stack
  stk : X.stack = X.outer ∨ (X.stack = X.env :: X.outer ∧ X.env.frame = some X.env.locals)
  exf : ∀ b ∈ X.ex, b ≠ X.env.locals ∧ ∀ x c, X.env.cells.lookup x = some c → c ≠ b
  bs : ∀ b o, X.base.get? b = some o → X.s₀.heap.get? b = some o ∧ X.H₀ b = none
  bsz : X.base.objs.size ≤ X.s₀.heap.objs.size
  noex : ∀ b o, X.base.get? b = some o → b ∉ X.ex
  exfs : ∀ b ∈ X.ex, b ∉ X.fs
  funs : X.s₀.heap.FunFrames X.base X.outer
  frf : ∀ b ∈ X.fs, X.H₀ b = none

structure Inv (X : Cx) (pins : List (Addr × Obj)) (σ : List (Option V)) (H : Hp) (s : Shared) : Prop where
  ok : X.Ok
  os : s.os = X.s₀.os
  bare : AllBare s.gens
  base : Un X.fs X.ex X.H₀ H X.s₀.heap s.heap
  loc : ∃ m, s.heap.Ns X.env.locals m ∧ ∀ (i : Nat) (x : Str) (v : V), X.N[i]? = some x → σ[i]? = some (some v) → Vis X.env.scope x → ∃ u, RelV v u ∧ Look X.env s.heap m x u
  cell : ∀ x c, X.env.cells.lookup x = some c → ∃ v, s.heap.IsCell c v
  free : H X.env.locals = none
  freeC : ∀ x c, X.env.cells.lookup x = some c → H c = none
  pin : ∀ p ∈ X.pn ++ pins, s.heap.get? p.1 = some p.2 ∧ H p.1 = none ∧ p.1 ≠ X.env.locals ∧ p.1 ∉ X.fs ∧ ∀ v, p.2.data ≠ .cell v
  hok : HOk X.prog X.w H s.heap
  len : σ.length = X.N.length

section
variable {X : Cx} {pins : List (Addr × Obj)} {σ : List (Option V)} {H H' : Hp} {s : Shared} {h' : Heap}

theorem Cx.Ok.nofr (ok : X.Ok) {b : Addr} {o : Obj} (e : X.base.get? b = some o) : b ∉ X.fs := fun hb => by
  have := (ok.funs.mem hb).1
  rw [e] at this; cases this
theorem Inv.bs (I : Inv X pins σ H s) : ∀ b o, X.base.get? b = some o → s.heap.get? b = some o ∧ H b = none := fun b o e =>
  ⟨I.base.keep b o (I.ok.bs b o e).1 (I.ok.bs b o e).2 (I.ok.nofr e) (I.ok.noex b o e), I.base.free b o (I.ok.bs b o e).1 (I.ok.bs b o e).2 (I.ok.noex b o e)⟩
theorem Inv.bk (I : Inv X pins σ H s) : ∀ b o, X.base.get? b = some o → s.heap.get? b = some o := fun b o e => (I.bs b o e).1
theorem Inv.mod (I : Inv X pins σ H s) : Mod X.K X.mg X.base := I.ok.mod
theorem Inv.kIn (I : Inv X pins σ H s) : X.K.In s.heap := I.ok.mod.kin.keeps I.bk
theorem Inv.nolimit (I : Inv X pins σ H s) : s.heap.NoLimit := I.ok.mod.nolimit.keeps I.bk
/-- the frame over the base: for OpenK's rules (K.In X.base is I.mod.kin) -/
theorem Inv.fr (I : Inv X pins σ H s) : ∃ m, Fr X.base X.env.locals s.heap m :=
  let ⟨m, hn, _⟩ := I.loc
  ⟨m, hn, I.bk, Nat.le_trans I.ok.bsz I.ok.above⟩
theorem Inv.lt (I : Inv X pins σ H s) : X.env.locals < s.heap.objs.size := let ⟨_, hn, _⟩ := I.loc; hn.lt
theorem Inv.sz (I : Inv X pins σ H s) : X.s₀.heap.objs.size ≤ s.heap.objs.size := Nat.le_trans I.ok.above (Nat.le_of_lt I.lt)
theorem Inv.nofs (I : Inv X pins σ H s) {a : Addr} (h : s.heap.objs.size ≤ a) : a ∉ X.fs := fun hb => by
  obtain ⟨_, o, ho, _⟩ := I.ok.funs.mem hb
  exact absurd (Nat.lt_of_lt_of_le (Heap.lt_size ho) (Nat.le_trans I.sz h)) (Nat.lt_irrefl _)
theorem Inv.cne (I : Inv X pins σ H s) : ∀ x c, X.env.cells.lookup x = some c → c ≠ X.env.locals := fun x c e z => by
  obtain ⟨v, o, ho, hd⟩ := I.cell x c e
  obtain ⟨m, ⟨o', es, ep, ho', hd', _⟩, _⟩ := I.loc
  rw [z, ho'] at ho; cases ho; rw [hd'] at hd; cases hd
theorem Inv.funs (I : Inv X pins σ H s) : s.heap.FunFrames X.base X.outer := by
  have all : ∀ (l : List Env), (∀ b ∈ frs l, b ∈ X.fs) → X.s₀.heap.FunFrames X.base l → s.heap.FunFrames X.base l := by
    intro l
    induction l with
    | nil => intro _ _; trivial
    | cons env r ih =>
      intro hs hl
      obtain ⟨hk, ⟨L, o, hf, hn, ho, hd⟩, hr⟩ := hl
      have hL : L ∈ X.fs := hs L (by unfold frs; rw [List.filterMap_cons, hf]; exact List.mem_cons_self)
      obtain ⟨sl, e⟩ := I.base.slot L o ho (I.ok.frf L hL) hL fun z => I.ok.exfs L z hL
      exact ⟨hk, ⟨L, _, hf, hn, e, hd⟩, ih (fun b hb => hs b (by unfold frs; rw [List.filterMap_cons, hf]; exact List.mem_cons_of_mem _ hb)) hr⟩
  exact all X.outer (fun _ hb => hb) I.ok.funs

/-- the frames that run, for a call -/
theorem Inv.stack (I : Inv X pins σ H s) : s.heap.FunFrames X.base X.stack := by
  rcases I.ok.stk with e | ⟨e, hf⟩
  · rw [e]; exact I.funs
  · rw [e]
    obtain ⟨m, hn, _⟩ := I.loc
    refine .cons (by rw [I.ok.kind]; decide) hf hn ?_ I.funs
    exact Heap.get?_none_of_le (Nat.le_trans I.ok.bsz I.ok.above)
theorem Inv.stkSub (I : Inv X pins σ H s) : ∀ b ∈ frs X.stack, b ∈ X.env.locals :: X.fs := fun b hb => by
  rcases I.ok.stk with e | ⟨e, hf⟩
  · rw [e] at hb; exact List.mem_cons_of_mem _ hb
  · rw [e] at hb
    unfold frs at hb
    rw [List.filterMap_cons, hf] at hb
    exact hb
theorem Inv.stkFree (I : Inv X pins σ H s) : ∀ b ∈ frs X.stack, H b = none := fun b hb => by
  rcases List.mem_cons.mp (I.stkSub b hb) with e | hb
  · rw [e]; exact I.free
  · obtain ⟨_, o, ho, _⟩ := I.ok.funs.mem hb
    exact I.base.free b o ho (I.ok.frf b hb) fun z => I.ok.exfs b z hb

/-- THE STEP: the untracked objects but the frame and the records at ch are kept (the callers' frames up to slots), the frame's map is kept, the new abstract heap is held -/
theorem Inv.step {g' : Array GenState} {t' : Nat} {d' : Drawn} {ch : List Addr} (I : Inv X pins σ H s)
    (hch : ∀ b ∈ ch, (b ∈ X.ex ∨ X.s₀.heap.objs.size ≤ b) ∧ b ≠ X.env.locals ∧ (∀ x c, X.env.cells.lookup x = some c → c ≠ b) ∧ ∀ p ∈ X.pn ++ pins, p.1 ≠ b)
    (keep : ∀ b o, b ≠ X.env.locals → b ∉ X.fs → b ∉ ch → s.heap.get? b = some o → H b = none → h'.get? b = some o)
    (slot : ∀ b o, b ≠ X.env.locals → b ∈ X.fs → b ∉ ch → s.heap.get? b = some o → H b = none → ∃ sl, h'.get? b = some { o with slots := sl }) (free : ∀ b o, b ∉ ch → s.heap.get? b = some o → H b = none → H' b = none)
    (there : ∀ b o, b ∉ ch → s.heap.get? b = some o → ∃ o', h'.get? b = some o')
    (tups : ∀ b xs, H b = some (.tup xs) → H' b = some (.tup xs)) (frzs : ∀ b o u, H b = some (.frz o u) → H' b = some (.frz o u)) (tbls : ∀ b ps, H b = some (.tbl ps) → ∃ more, H' b = some (.tbl (ps ++ more)))
    (ns : ∀ m, s.heap.Ns X.env.locals m → h'.Ns X.env.locals m) (hok : HOk X.prog X.w H' h') (hg : AllBare g') :
    Inv X pins σ H' { s with heap := h', gens := g', drawn := d', toks := t' } := by
  have neL : ∀ b o, X.s₀.heap.get? b = some o → b ≠ X.env.locals := fun b o e => Nat.ne_of_lt (Nat.lt_of_lt_of_le (Heap.lt_size e) I.ok.above)
  have neC : ∀ b o, X.s₀.heap.get? b = some o → b ∉ X.ex → b ∉ ch := fun b o e hx hb => by
    rcases (hch b hb).1 with z | z
    · exact hx z
    · exact absurd (Nat.lt_of_lt_of_le (Heap.lt_size e) z) (Nat.lt_irrefl _)
  have cellK : ∀ x c, X.env.cells.lookup x = some c → ∀ v, s.heap.IsCell c v → h'.IsCell c v := fun x c e v ⟨o, ho, hd⟩ => by
    have nch : c ∉ ch := fun z => (hch c z).2.2.1 x c e rfl
    by_cases hc : c ∈ X.fs
    · obtain ⟨sl, q⟩ := slot c o (I.cne x c e) hc nch ho (I.freeC x c e)
      exact ⟨_, q, hd⟩
    · exact ⟨o, keep c o (I.cne x c e) hc nch ho (I.freeC x c e), hd⟩
  refine ⟨I.ok, I.os, hg, ⟨fun b o e n hb hx => ?_, fun b o e n hb hx => ?_, fun b o e n hx => ?_, fun b o e hx => ?_, fun b xs e => tups b xs (I.base.tups b xs e), fun b o xs e => frzs b o xs (I.base.frzs b o xs e), fun b ps e => ?_⟩, ?_, fun x c e => ?_, ?_, fun x c e => ?_, fun p hp => ?_, hok, I.len⟩
  · exact keep b o (neL b o e) hb (neC b o e hx) (I.base.keep b o e n hb hx) (I.base.free b o e n hx)
  · obtain ⟨sl, e1⟩ := I.base.slot b o e n hb hx
    obtain ⟨sl', e2⟩ := slot b _ (neL b o e) hb (neC b o e hx) e1 (I.base.free b o e n hx)
    exact ⟨sl', e2⟩
  · obtain ⟨o', e1⟩ := I.base.there b o e hx
    exact free b o' (neC b o e hx) e1 (I.base.free b o e n hx)
  · obtain ⟨o', e1⟩ := I.base.there b o e hx
    exact there b o' (neC b o e hx) e1
  · obtain ⟨m1, e1⟩ := I.base.tbls b ps e
    obtain ⟨m2, e2⟩ := tbls b _ e1
    exact ⟨m1 ++ m2, by rw [e2, Array.append_assoc]⟩
  · obtain ⟨m, hn, hl⟩ := I.loc
    refine ⟨m, ns m hn, fun i x v e1 e2 e3 => ?_⟩
    obtain ⟨u, r, l⟩ := hl i x v e1 e2 e3
    refine ⟨u, r, ?_⟩
    rcases l with l | ⟨k, c, e, z⟩
    · exact .inl l
    · exact .inr ⟨k, c, e, cellK x c e _ z⟩
  · obtain ⟨v, z⟩ := I.cell x c e
    exact ⟨v, cellK x c e v z⟩
  · obtain ⟨m, ⟨o, _, _, ho, _⟩, _⟩ := I.loc
    exact free _ o (fun z => (hch _ z).2.1 rfl) ho I.free
  · obtain ⟨v, o, ho, hd⟩ := I.cell x c e
    exact free c o (fun z => (hch c z).2.2.1 x c e rfl) ho (I.freeC x c e)
  · obtain ⟨e, n, ne, nf, d⟩ := I.pin p hp
    have nch : p.1 ∉ ch := fun z => (hch p.1 z).2.2.2 p hp rfl
    exact ⟨keep p.1 p.2 ne nf nch e n, free p.1 p.2 nch e n, ne, nf, d⟩
/-- .. where the frame's own object is kept too -/
theorem Inv.un {t' : Nat} (I : Inv X pins σ H s) (u : Un X.fs [] H H' s.heap h') (hok : HOk X.prog X.w H' h') : Inv X pins σ H' { s with heap := h', toks := t' } := by
  obtain ⟨m, ⟨o, es, ep, ho, r⟩, _⟩ := id I.loc
  obtain ⟨sl, hL⟩ := u.any ho I.free (by simp)
  exact I.step (g' := s.gens) (d' := s.drawn) (ch := []) (fun _ z => nomatch z) (fun b o _ hb _ e n => u.keep b o e n hb (by simp)) (fun b o _ hb _ e n => u.slot b o e n hb (by simp)) (fun b o _ e n => u.free b o e n (by simp)) (fun b o _ e => u.there b o e (by simp)) u.tups u.frzs u.tbls (fun m' hm => by
    obtain ⟨o', es', ep', ho', r'⟩ := hm
    rw [ho] at ho'; cases ho'
    exact ⟨_, es', ep', hL, r'⟩) hok I.bare
/-- behind a call (or a comprehension's block): the slots of this frame may have changed too, the records at ch may have turned -/
theorem Inv.call {g' : Array GenState} {t' : Nat} {d' : Drawn} {ch : List Addr} (I : Inv X pins σ H s) (u : Un (frs X.stack) ch H H' s.heap h') (hok : HOk X.prog X.w H' h') (hg : AllBare g')
    (hch : ∀ b ∈ ch, (b ∈ X.ex ∨ X.s₀.heap.objs.size ≤ b) ∧ b ≠ X.env.locals ∧ (∀ x c, X.env.cells.lookup x = some c → c ≠ b) ∧ ∀ p ∈ X.pn ++ pins, p.1 ≠ b) :
    Inv X pins σ H' { s with heap := h', gens := g', drawn := d', toks := t' } := by
  obtain ⟨m, ⟨o, es, ep, ho, r⟩, _⟩ := id I.loc
  obtain ⟨sl, hL⟩ := u.any ho I.free fun z => (hch _ z).2.1 rfl
  exact I.step (ch := ch) hch (fun b o hL hb hc e n => u.keep b o e n (fun z => (List.mem_cons.mp (I.stkSub b z)).elim hL hb) hc) (fun b o _ _ hc e n => u.any e n hc) (fun b o hc e n => u.free b o e n hc) (fun b o hc e => u.there b o e hc) u.tups u.frzs u.tbls (fun m' hm => by
    obtain ⟨o', es', ep', ho', r'⟩ := hm
    rw [ho] at ho'; cases ho'
    exact ⟨_, es', ep', hL, r'⟩) hok hg
/-- an untracked record of ours (an iterator) has turned -/
theorem Inv.turned {t' : Nat} {it : Addr} (I : Inv X pins σ H s) (k : ∀ b o, b ≠ it → s.heap.get? b = some o → h'.get? b = some o) (hn : H it = none) (hL : it ≠ X.env.locals)
    (h1 : it ∈ X.ex ∨ X.s₀.heap.objs.size ≤ it) (h2 : ∀ x c, X.env.cells.lookup x = some c → c ≠ it) (h3 : ∀ p ∈ X.pn ++ pins, p.1 ≠ it) : Inv X pins σ H { s with heap := h', toks := t' } := by
  have nit : ∀ b u, H b = some u → b ≠ it := fun b u e z => by rw [z, hn] at e; cases e
  refine I.step (g' := s.gens) (d' := s.drawn) (ch := [it]) (fun b hb => ?_) (fun b o _ _ hc e _ => k b o (fun z => hc (by simp [z])) e) (fun b o _ _ hc e _ => ⟨o.slots, k b o (fun z => hc (by simp [z])) e⟩) (fun _ _ _ _ n => n)
    (fun b o hc e => ⟨o, k b o (fun z => hc (by simp [z])) e⟩) (fun _ _ e => e) (fun _ _ _ e => e) (fun b ps e => ⟨#[], by rw [e]; simp⟩) (fun m hm => ?_) (fun b u e => ?_) I.bare
  · have e : b = it := by simpa using hb
    subst e
    exact ⟨h1, hL, h2, h3⟩
  · obtain ⟨o, es, ep, ho, r⟩ := hm
    exact ⟨o, es, ep, k _ o (Ne.symm hL) ho, r⟩
  · refine (I.hok b u e).stay (fun c v hc q => k c v ?_ q) (fun _ q => q) fun _ _ q => q
    rcases hc with z | z
    · rw [z]; exact nit b u e
    · exact nit c _ z
theorem Inv.tok (I : Inv X pins σ H s) (t : Nat) : Inv X pins σ H { s with toks := t } := I.un (h' := s.heap) (t' := t) Un.refl I.hok
/-- all objects kept -/
theorem Inv.kept {t' : Nat} (I : Inv X pins σ H s) (k : ∀ b u, s.heap.get? b = some u → h'.get? b = some u) : Inv X pins σ H { s with heap := h', toks := t' } := I.un (Un.kept k) (I.hok.kept k)
/-- a new object laid and tracked -/
theorem Inv.laid {a : Addr} {o : HO} {t' : Nat} (I : Inv X pins σ H s) (k : ∀ b u, s.heap.get? b = some u → h'.get? b = some u) (hp : s.heap.objs.size ≤ a) (new : ObjOk X.prog X.w (upd H a o) h' a o) :
    Inv X pins σ (upd H a o) { s with heap := h', toks := t' } := I.un (Un.laid k hp (I.hok.fresh hp)) (I.hok.laid k hp new)
/-- an object written -/
theorem Inv.write {x e : Addr} {o : HO} {t' : Nat} (I : Inv X pins σ H s) (mu : Mut (H x)) (he : e = x ∨ H e = some (.own x)) (k : ∀ b u, b ≠ e → s.heap.get? b = some u → h'.get? b = some u) (heo : ∃ u, h'.get? e = some u)
    (new : ObjOk X.prog X.w (upd H x o) h' x o) : Inv X pins σ (upd H x o) { s with heap := h', toks := t' } := I.un (Un.write mu he k heo) (I.hok.write mu he k heo new)
/-- forgetting slots, pins -/
theorem Inv.weak {σ' : List (Option V)} (I : Inv X pins σ H s) (hl : σ'.length = σ.length) (w : ∀ (i : Nat) v, σ'[i]? = some (some v) → σ[i]? = some (some v)) : Inv X pins σ' H s :=
  ⟨I.ok, I.os, I.bare, I.base, let ⟨m, hn, hl'⟩ := I.loc; ⟨m, hn, fun i x v e1 e2 e3 => hl' i x v e1 (w i v e2) e3⟩, I.cell, I.free, I.freeC, I.pin, I.hok, hl.trans I.len⟩
theorem Inv.pins_of {pins' : List (Addr × Obj)} (I : Inv X pins σ H s) (h : ∀ p ∈ pins', s.heap.get? p.1 = some p.2 ∧ H p.1 = none ∧ p.1 ≠ X.env.locals ∧ p.1 ∉ X.fs ∧ ∀ v, p.2.data ≠ .cell v) : Inv X pins' σ H s :=
  ⟨I.ok, I.os, I.bare, I.base, I.loc, I.cell, I.free, I.freeC, fun p hp => (List.mem_append.mp hp).elim (fun z => I.pin p (List.mem_append_left _ z)) (h p), I.hok, I.len⟩

theorem nodup_ix {N : List Str} (hN : N.Nodup) {i j : Nat} {x : Str} (a : N[i]? = some x) (b : N[j]? = some x) : i = j := by
  obtain ⟨h1, e1⟩ := List.getElem?_eq_some_iff.mp a
  obtain ⟨h2, e2⟩ := List.getElem?_eq_some_iff.mp b
  exact (List.getElem_inj hN).mp (e1.trans e2.symm)

/-- a name is stored; what changed -/
theorem store_ok2 {M : Model} {A : Around} {E : Value → Shared → Prop} {i : Nat} {x : Str} {v : V} {u : Value} {Q : Unit → Shared → Prop} (I : Inv X pins σ H s) (hN : X.N.Nodup) (hi : X.N[i]? = some x) (hx : Loc X.env.scope x) (r : RelV v u)
    (h : ∀ s', Inv X pins (σ.set i (some v)) H s' → (∃ a, Heap.SameBut a s.heap s'.heap ∧ (a = X.env.locals ∨ X.env.cells.lookup x = some a)) → Q () s') (hf : X.fn x = true ∨ X.env.scope.names.lookup x = some .local := by first | exact .inl rfl | exact .inr rfl | assumption) : wpAny M A (storeName X.env x u) Q E s := by
  obtain ⟨m, hn, hl⟩ := id I.loc
  have hcls : (X.env.scope.kind == .class || (X.env.scope.kind == .module && X.env.locals != X.env.globals)) = false := by rw [I.ok.kind]; rfl
  have hiσ : i < σ.length := by rw [I.len]; exact (List.getElem?_eq_some_iff.mp hi).1
  have cne := I.cne
  have tracked : ∀ {a : Addr} {h' : Heap}, (∃ o, s.heap.get? a = some o ∧ H a = none) → Heap.SameBut a s.heap h' → HOk X.prog X.w H h' := fun {a h'} ha hs b ob e => by
    obtain ⟨_, _, hfree⟩ := ha
    refine (I.hok b ob e).stay (fun c w' hc q => (hs.2 c ?_).trans q) (fun _ q => q) fun _ _ q => q
    rintro rfl
    rcases hc with rfl | hc
    · rw [hfree] at e; cases e
    · rw [hfree] at hc; cases hc
  rcases hx with hk | hk
  · refine wpAny_storeName_local hk hn (fun h' hn' hs => ?_) hcls
    obtain ⟨oL, _, _, hoL, _⟩ := id hn
    refine h _ ⟨I.ok, I.os, I.bare, ⟨fun b o e n hb hx => ?_, fun b o e n hb hx => ?_, I.base.free, fun b o e hx => ?_, I.base.tups, I.base.frzs, I.base.tbls⟩, ⟨_, hn', fun j y v' e1 e2 e3 => ?_⟩, fun y c e => ?_, I.free, I.freeC, fun p hp => ?_, tracked ⟨oL, hoL, I.free⟩ hs, by simpa using I.len⟩ ⟨_, hs, .inl rfl⟩
    · exact (hs.2 b (Nat.ne_of_lt (Nat.lt_of_lt_of_le (Heap.lt_size e) I.ok.above))).trans (I.base.keep b o e n hb hx)
    · obtain ⟨sl, e1⟩ := I.base.slot b o e n hb hx
      exact ⟨sl, (hs.2 b (Nat.ne_of_lt (Nat.lt_of_lt_of_le (Heap.lt_size e) I.ok.above))).trans e1⟩
    · obtain ⟨o', e1⟩ := I.base.there b o e hx
      exact ⟨o', (hs.2 b (Nat.ne_of_lt (Nat.lt_of_lt_of_le (Heap.lt_size e) I.ok.above))).trans e1⟩
    · by_cases hj : j = i
      · subst hj
        rw [hi] at e1; cases e1
        rw [List.getElem?_set_self hiσ] at e2
        cases e2
        exact ⟨u, r, .inl ⟨hk, by simp⟩⟩
      · rw [List.getElem?_set_ne (Ne.symm hj)] at e2
        obtain ⟨u', r', q⟩ := hl j y v' e1 e2 e3
        refine ⟨u', r', ?_⟩
        rcases q with ⟨k, e⟩ | ⟨k, c, e, z⟩
        · refine .inl ⟨k, ?_⟩
          have : y ≠ x := fun e => hj (nodup_ix hN e1 (e ▸ hi))
          simp [this, e]
        · exact .inr ⟨k, c, e, z.sameBut hs (cne y c e)⟩
    · obtain ⟨w', z⟩ := I.cell y c e
      exact ⟨w', z.sameBut hs (cne y c e)⟩
    · obtain ⟨e, n, ne, nf, d⟩ := I.pin p hp
      exact ⟨(hs.2 p.1 ne).trans e, n, ne, nf, d⟩
  · have hfn : X.fn x = true := by
      rcases hf with z | z
      · exact z
      · rw [z] at hk; cases hk
    obtain ⟨c, hc⟩ := I.ok.has x (.inl hk)
    obtain ⟨w', z⟩ := I.cell x c hc
    refine wpAny_storeName_cell I.ok.kind hk hc z (fun h' hc' hs => ?_)
    obtain ⟨oc, hoc, hocd⟩ := id z
    refine h { s with heap := h' } ⟨I.ok, I.os, I.bare, ⟨fun b o e n hb hx => ?_, fun b o e n hb hx => ?_, I.base.free, fun b o e hx => ?_, I.base.tups, I.base.frzs, I.base.tbls⟩, ⟨m, hn.sameBut hs (Ne.symm (cne x c hc)), fun j y v' e1 e2 e3 => ?_⟩, fun y c' e => ?_, I.free, I.freeC, fun p hp => ?_, tracked ⟨oc, hoc, I.freeC x c hc⟩ hs, by simpa using I.len⟩ ⟨c, hs, .inr hc⟩
    · exact (hs.2 b (Nat.ne_of_lt (Nat.lt_of_lt_of_le (Heap.lt_size e) (I.ok.cab x c hfn hc)))).trans (I.base.keep b o e n hb hx)
    · obtain ⟨sl, e1⟩ := I.base.slot b o e n hb hx
      exact ⟨sl, (hs.2 b (Nat.ne_of_lt (Nat.lt_of_lt_of_le (Heap.lt_size e) (I.ok.cab x c hfn hc)))).trans e1⟩
    · obtain ⟨o', e1⟩ := I.base.there b o e hx
      exact ⟨o', (hs.2 b (Nat.ne_of_lt (Nat.lt_of_lt_of_le (Heap.lt_size e) (I.ok.cab x c hfn hc)))).trans e1⟩
    · by_cases hj : j = i
      · subst hj
        rw [hi] at e1; cases e1
        rw [List.getElem?_set_self hiσ] at e2
        cases e2
        exact ⟨u, r, .inr ⟨.inl hk, c, hc, hc'⟩⟩
      · rw [List.getElem?_set_ne (Ne.symm hj)] at e2
        obtain ⟨u', r', q⟩ := hl j y v' e1 e2 e3
        refine ⟨u', r', ?_⟩
        rcases q with q | ⟨k, c', e, z'⟩
        · exact .inl q
        · refine .inr ⟨k, c', e, z'.sameBut hs ?_⟩
          rintro rfl
          exact hj (nodup_ix hN e1 (I.ok.inj _ _ _ e hc ▸ hi))
    · by_cases hcc : c' = c
      · subst hcc; exact ⟨_, hc'⟩
      · obtain ⟨w2, z2⟩ := I.cell y c' e
        exact ⟨w2, z2.sameBut hs hcc⟩
    · obtain ⟨e, n, ne, nf, d⟩ := I.pin p hp
      refine ⟨(hs.2 p.1 ?_).trans e, n, ne, nf, d⟩
      intro q
      rw [q, hoc] at e
      have q' : oc = p.2 := Option.some.inj e
      exact d w' (by rw [← q']; exact hocd)
theorem store_ok {M : Model} {A : Around} {E : Value → Shared → Prop} {i : Nat} {x : Str} {v : V} {u : Value} {Q : Unit → Shared → Prop} (I : Inv X pins σ H s) (hN : X.N.Nodup) (hi : X.N[i]? = some x) (hx : Loc X.env.scope x) (r : RelV v u)
    (h : ∀ s', Inv X pins (σ.set i (some v)) H s' → Q () s') (hf : X.fn x = true ∨ X.env.scope.names.lookup x = some .local := by first | exact .inl rfl | exact .inr rfl | assumption) : wpAny M A (storeName X.env x u) Q E s :=
  store_ok2 I hN hi hx r (fun s' I' _ => h s' I') hf
/-- behind a call or a block, the state as it is -/
theorem Inv.call' {s' : Shared} {ch : List Addr} (I : Inv X pins σ H s) (ho : s'.os = s.os) (u : Un (frs X.stack) ch H H' s.heap s'.heap) (hok : HOk X.prog X.w H' s'.heap) (hg : AllBare s'.gens)
    (hch : ∀ b ∈ ch, (b ∈ X.ex ∨ X.s₀.heap.objs.size ≤ b) ∧ b ≠ X.env.locals ∧ (∀ x c, X.env.cells.lookup x = some c → c ≠ b) ∧ ∀ p ∈ X.pn ++ pins, p.1 ≠ b) : Inv X pins σ H' s' := by
  obtain ⟨h', g', d', t', o'⟩ := s'
  have e : o' = s.os := ho
  subst e
  exact I.call (g' := g') (t' := t') (d' := d') u hok hg hch
end

/-! ### the judgements -/
/-- an exception: its class, its own dict's address (where it has one), the abstract heap behind it -/
abbrev XK := Value → Option Addr → Hp → Prop
abbrev St := List (Option V)
abbrev VK := V → Hp → Prop
/-- an expression's reading; a test's; an argument list's -/
abbrev TE := St → Hp → VK → Prop
abbrev TT := St → Hp → (Bool → Hp → Prop) → Prop
abbrev TA := St → Hp → (List V → Hp → Prop) → Prop
/-- what is wanted behind a statement -/
structure Ends where
  nx : St → Hp → Prop
  rt : VK
  bk : St → Hp → Prop := fun _ _ => False
  ct : St → Hp → Prop := fun _ _ => False
abbrev TS := Ends → St → Hp → Prop

def EP (X : Cx) (pins : List (Addr × Obj)) (σ : St) (Q : VK) (u : Value) (s' : Shared) : Prop := ∃ v H', Inv X pins σ H' s' ∧ RelV v u ∧ Q v H'
def TP (X : Cx) (pins : List (Addr × Obj)) (σ : St) (Q : Bool → Hp → Prop) (b : Bool) (s' : Shared) : Prop := ∃ H', Inv X pins σ H' s' ∧ Q b H'
def AP (X : Cx) (pins : List (Addr × Obj)) (σ : St) (Q : List V → Hp → Prop) (us : List Value) (s' : Shared) : Prop := ∃ vs H', Inv X pins σ H' s' ∧ Vals vs us ∧ Q vs H'
def SP (X : Cx) (pins : List (Addr × Obj)) (D : Ends) (f : Flow) (s' : Shared) : Prop :=
  match f with
  | .next => ∃ σ' H', Inv X pins σ' H' s' ∧ D.nx σ' H'
  | .brk => ∃ σ' H', Inv X pins σ' H' s' ∧ D.bk σ' H'
  | .cont => ∃ σ' H', Inv X pins σ' H' s' ∧ D.ct σ' H'
  | .ret u => ∃ v σ' H', Inv X pins σ' H' s' ∧ RelV v u ∧ D.rt v H'

structure PE (X : Cx) (e : Expr) (t : TE) : Prop where
  mk ::
  go :
  ∀ (pins : List (Addr × Obj)) (s : Shared) (σ : St) (H : Hp) (Q : VK), Inv X pins σ H s → t σ H Q → wpAny (model X.prog X.w) X.A (eval e X.env) (EP X pins σ Q) X.xe s
instance {X : Cx} {e : Expr} {t : TE} : CoeFun (PE X e t) (fun _ =>
  ∀ (pins : List (Addr × Obj)) (s : Shared) (σ : St) (H : Hp) (Q : VK), Inv X pins σ H s → t σ H Q → wpAny (model X.prog X.w) X.A (eval e X.env) (EP X pins σ Q) X.xe s) := ⟨PE.go⟩
structure PT (X : Cx) (e : Expr) (t : TT) : Prop where
  mk ::
  go :
  ∀ (pins : List (Addr × Obj)) (s : Shared) (σ : St) (H : Hp) (Q : Bool → Hp → Prop), Inv X pins σ H s → t σ H Q → wpAny (model X.prog X.w) X.A (isTrue e X.env (eval e X.env)) (TP X pins σ Q) X.xe s
instance {X : Cx} {e : Expr} {t : TT} : CoeFun (PT X e t) (fun _ =>
  ∀ (pins : List (Addr × Obj)) (s : Shared) (σ : St) (H : Hp) (Q : Bool → Hp → Prop), Inv X pins σ H s → t σ H Q → wpAny (model X.prog X.w) X.A (isTrue e X.env (eval e X.env)) (TP X pins σ Q) X.xe s) := ⟨PT.go⟩
/-- a test whatever its 'whole' is (and, or) -/
structure PW (X : Cx) (e : Expr) (t : TT) : Prop where
  mk ::
  go :
  ∀ (whole : Sem Value) (pins : List (Addr × Obj)) (s : Shared) (σ : St) (H : Hp) (Q : Bool → Hp → Prop), Inv X pins σ H s → t σ H Q → wpAny (model X.prog X.w) X.A (isTrue e X.env whole) (TP X pins σ Q) X.xe s
instance {X : Cx} {e : Expr} {t : TT} : CoeFun (PW X e t) (fun _ =>
  ∀ (whole : Sem Value) (pins : List (Addr × Obj)) (s : Shared) (σ : St) (H : Hp) (Q : Bool → Hp → Prop), Inv X pins σ H s → t σ H Q → wpAny (model X.prog X.w) X.A (isTrue e X.env whole) (TP X pins σ Q) X.xe s) := ⟨PW.go⟩
theorem PW.pt {X : Cx} {e : Expr} {t : TT} (h : PW X e t) : PT X e t := .mk <| h _
/-- an argument list (no star), from the left -/
structure PA (X : Cx) (es : List Expr) (t : TA) : Prop where
  mk ::
  go :
  ∀ (pos : Pos) (pins : List (Addr × Obj)) (s : Shared) (σ : St) (H : Hp) (Q : List V → Hp → Prop), Inv X pins σ H s → t σ H Q → wpAny (model X.prog X.w) X.A (spliced (backTo pos (starEach es X.env))) (AP X pins σ Q) X.xe s
instance {X : Cx} {es : List Expr} {t : TA} : CoeFun (PA X es t) (fun _ =>
  ∀ (pos : Pos) (pins : List (Addr × Obj)) (s : Shared) (σ : St) (H : Hp) (Q : List V → Hp → Prop), Inv X pins σ H s → t σ H Q → wpAny (model X.prog X.w) X.A (spliced (backTo pos (starEach es X.env))) (AP X pins σ Q) X.xe s) := ⟨PA.go⟩
structure PS (X : Cx) (st : Stmt) (t : TS) : Prop where
  mk ::
  go :
  ∀ (pins : List (Addr × Obj)) (s : Shared) (σ : St) (H : Hp) (D : Ends), Inv X pins σ H s → t D σ H → wpAny (model X.prog X.w) X.A (exec st X.env) (SP X pins D) X.xe s
instance {X : Cx} {st : Stmt} {t : TS} : CoeFun (PS X st t) (fun _ =>
  ∀ (pins : List (Addr × Obj)) (s : Shared) (σ : St) (H : Hp) (D : Ends), Inv X pins σ H s → t D σ H → wpAny (model X.prog X.w) X.A (exec st X.env) (SP X pins D) X.xe s) := ⟨PS.go⟩
structure PSs (X : Cx) (st : List Stmt) (t : TS) : Prop where
  mk ::
  go :
  ∀ (pins : List (Addr × Obj)) (s : Shared) (σ : St) (H : Hp) (D : Ends), Inv X pins σ H s → t D σ H → wpAny (model X.prog X.w) X.A (execs st X.env) (SP X pins D) X.xe s
instance {X : Cx} {st : List Stmt} {t : TS} : CoeFun (PSs X st t) (fun _ =>
  ∀ (pins : List (Addr × Obj)) (s : Shared) (σ : St) (H : Hp) (D : Ends), Inv X pins σ H s → t D σ H → wpAny (model X.prog X.w) X.A (execs st X.env) (SP X pins D) X.xe s) := ⟨PSs.go⟩
/-- weaken the end -/
theorem thn {α : Type} {t : Sem α} {Q Q' : α → Shared → Prop} {M : Model} {A : Around} {E : Value → Shared → Prop} {s : Shared} (h : wpAny M A t Q E s) (hQ : ∀ a s, Q a s → Q' a s) : wpAny M A t Q' E s := wpAny_mono h hQ fun _ _ x => x
end L2

namespace L2
open PySem PySem.Spec PyProof.Rows
section
variable {X : Cx}

/-! ### names and constants -/
def tVar (i : Nat) : TE := fun σ H Q => ∃ v, σ[i]? = some (some v) ∧ Q v H
def tC (v : V) : TE := fun _ H Q => Q v H
theorem pe_var {i : Nat} {x : Str} {pos : Pos} (hN : X.N[i]? = some x) (hv : Vis X.env.scope x) (hd : (x == ("__debug__" : Str)) = false := by decide) (hcd : (x == ("__classdict__" : Str)) = false := by decide) : PE X (.Name x pos) (tVar i) := by
  refine .mk ?_
  intro pins s σ H Q I h
  obtain ⟨v, e, h⟩ := h
  obtain ⟨m, hn, hl⟩ := I.loc
  obtain ⟨u, r, l⟩ := hl i x v hN e hv
  have fin : EP X pins σ Q u s := ⟨v, H, I, r, h⟩
  rcases l with ⟨hk, hm⟩ | ⟨hk, c, hc, hcell⟩
  · exact wpAny_Name (wpAny_loadName_local I.ok.kind hk hn hm fin) hd
  · rcases hk with hk | hk
    · exact wpAny_Name (wpAny_loadName_cell I.ok.kind hk hc hcell fin) hd
    · exact wpAny_Name (wpAny_loadName_free I.ok.kind hk hc hcell fin hcd) hd
theorem pe_int {i j pos} : PE X (.Constant (.int i) j pos) (tC (.int i)) := .mk <| fun _ _ _ H _ I h => wpAny_Constant_int ⟨.int i, H, I.tok _, ⟨_, rfl⟩, h⟩
theorem pe_bl {b j pos} : PE X (.Constant (.bool b) j pos) (tC (.bl b)) := .mk <| fun _ _ _ H _ I h => Constant_bool ⟨.bl b, H, I, rfl, h⟩
theorem pe_non {j pos} : PE X (.Constant .none j pos) (tC .non) := .mk <| fun _ _ _ H _ I h => Constant_none ⟨.non, H, I, rfl, h⟩
theorem pe_str {x j pos} : PE X (.Constant (.str x) j pos) (tC (.str x)) := .mk <| fun _ _ _ H _ I h => Calls.Constant_str ⟨.str x, H, I.tok _, ⟨_, rfl⟩, h⟩

/-- a global name of the def -/
def Gl (X : Cx) (x : Str) : Prop := X.env.kindOf x = some .globalImplicit
theorem ld_glob {E : Value → Shared → Prop} {pins : List (Addr × Obj)} {s : Shared} {σ : St} {H : Hp} {x : Str} {u : Value} {pos : Pos} {Q : Value → Shared → Prop} (I : Inv X pins σ H s) (hg : Gl X x) (hm : X.mg x = some u) (h : Q u s)
    (hd : (x == ("__debug__" : Str)) = false := by decide) : wpAny (model X.prog X.w) X.A (eval (.Name x pos) X.env) Q E s :=
  Calls.Name_function_global I.ok.kind hg (Calls.loadGlobal_global (by rw [I.ok.glob]; exact I.mod.glob.keeps I.bk) hm h) hd
theorem ld_blt {E : Value → Shared → Prop} {pins : List (Addr × Obj)} {s : Shared} {σ : St} {H : Hp} {x : Str} {u : Value} {pos : Pos} {Q : Value → Shared → Prop} (I : Inv X pins σ H s) (hg : Gl X x) (hm : X.mg x = none) (hv : bootBuiltins x = some u) (h : Q u s)
    (hn : x ≠ "__name__" := by decide) (hd : (x == ("__debug__" : Str)) = false := by decide) : wpAny (model X.prog X.w) X.A (eval (.Name x pos) X.env) Q E s := by
  obtain ⟨mb, h1, h2⟩ := I.mod.blt
  exact Calls.Name_function_global I.ok.kind hg (Calls.loadGlobal_builtin (by rw [I.ok.glob]; exact I.mod.glob.keeps I.bk) hm (by rw [I.ok.blt]; exact h1.keeps I.bk) ((h2 x hn).trans hv) h) hd
/-- a module's constant, a class, a function, as a value -/
theorem pe_glob {x : Str} {v : V} {u : Value} {pos : Pos} (hg : Gl X x) (hm : X.mg x = some u) (r : RelV v u) (hd : (x == ("__debug__" : Str)) = false := by decide) : PE X (.Name x pos) (tC v) :=
  .mk <| fun _ _ _ H _ I h => ld_glob I hg hm ⟨v, H, I, r, h⟩ hd
theorem pe_bltn {x : Str} {v : V} {u : Value} {pos : Pos} (hg : Gl X x) (hm : X.mg x = none) (hv : bootBuiltins x = some u) (r : RelV v u) (hn : x ≠ "__name__" := by decide) (hd : (x == ("__debug__" : Str)) = false := by decide) : PE X (.Name x pos) (tC v) :=
  .mk <| fun _ _ _ H _ I h => ld_blt I hg hm hv ⟨v, H, I, r, h⟩ hn hd

/-! ### arithmetic -/
variable {a b : Expr} {ta tb : TE} {pos : Pos}
/-! ### comparisons -/
/-- a comparison as a value, as a test -/
def tB (t : TE) : TT := fun σ H Q => t σ H fun x H1 => ∃ c, x = .bl c ∧ Q c H1
/-- an expression whose value is a bool, as a test -/
theorem pt_val {e : Expr} {t : TE} (h : PE X e t) (he : ∀ whole, isTrue e X.env whole = (do let v ← whole; standAt e.pos; holding [v] (truthy v)) := by intro _; rfl) : PT X e (tB t) := by
  refine .mk ?_
  intro pins s σ H Q I hw
  refine isTrue_plain (thn (h pins s σ H _ I hw) fun v s1 ⟨x, H1, I1, r1, q1⟩ => ?_) (he _)
  obtain ⟨d, rfl, q⟩ := q1
  cases r1
  exact wpAny_truthy_bool ⟨H1, I1, q⟩

/-! ### and, or, not -/
variable {tA tB' : TT} {rest : List Expr}
def tAnd (t u : TT) : TT := fun σ H Q => t σ H fun c H1 => if c = true then u σ H1 Q else Q false H1
def tOr (t u : TT) : TT := fun σ H Q => t σ H fun c H1 => if c = true then Q true H1 else u σ H1 Q
def tNot (t : TT) : TT := fun σ H Q => t σ H fun c H1 => Q (!c) H1
theorem pw_and1 (ha : PT X a tA) : PW X (.BoolOp .And [a] pos) tA := by
  refine .mk ?_
  intro wh pins s σ H Q I h
  refine isTrue_and (thn (ha pins s σ H Q I h) fun c s1 e => ?_)
  cases c with
  | true => exact isTrue_and_nil e
  | false => exact e
theorem pw_or1 (ha : PT X a tA) : PW X (.BoolOp .Or [a] pos) tA := by
  refine .mk ?_
  intro wh pins s σ H Q I h
  refine isTrue_or (thn (ha pins s σ H Q I h) fun c s1 e => ?_)
  cases c with
  | false => exact isTrue_or_nil e
  | true => exact e
theorem pw_and (ha : PT X a tA) (hb : PW X (.BoolOp .And (b :: rest) pos) tB') : PW X (.BoolOp .And (a :: b :: rest) pos) (tAnd tA tB') := by
  refine .mk ?_
  intro wh pins s σ H Q I h
  refine isTrue_and (thn (ha pins s σ H _ I h) fun c s1 ⟨H1, I1, q1⟩ => ?_)
  cases c with
  | true => exact hb wh pins s1 σ H1 Q I1 q1
  | false => exact ⟨H1, I1, q1⟩
theorem pw_or (ha : PT X a tA) (hb : PW X (.BoolOp .Or (b :: rest) pos) tB') : PW X (.BoolOp .Or (a :: b :: rest) pos) (tOr tA tB') := by
  refine .mk ?_
  intro wh pins s σ H Q I h
  refine isTrue_or (thn (ha pins s σ H _ I h) fun c s1 ⟨H1, I1, q1⟩ => ?_)
  cases c with
  | true => exact ⟨H1, I1, q1⟩
  | false => exact hb wh pins s1 σ H1 Q I1 q1
theorem pt_not (ha : PT X a tA) : PT X (.UnaryOp .Not a pos) (tNot tA) := by
  refine .mk ?_
  intro pins s σ H Q I h
  exact isTrue_not (ha pins s σ H (fun c H1 => Q (!c) H1) I h)
/-- .. as values (bools) -/
def tAndV (ta tb : TE) : TE := fun σ H Q => ta σ H fun x H1 => ∃ c, x = .bl c ∧ if c = true then tb σ H1 Q else Q (.bl false) H1
def tOrV (ta tb : TE) : TE := fun σ H Q => ta σ H fun x H1 => ∃ c, x = .bl c ∧ if c = true then Q (.bl true) H1 else tb σ H1 Q
def tNotV (ta : TE) : TE := fun σ H Q => ta σ H fun x H1 => ∃ c, x = .bl c ∧ Q (.bl (!c)) H1
theorem pe_one {op} {t : TE} (h : PE X a t) : PE X (.BoolOp op [a] pos) t := .mk <| fun pins s σ H Q I hw => BoolOp_one (h pins s σ H Q I hw)
theorem pe_and (ha : PE X a ta) (hb : PE X (.BoolOp .And (b :: rest) pos) tb) : PE X (.BoolOp .And (a :: b :: rest) pos) (tAndV ta tb) := by
  refine .mk ?_
  intro pins s σ H Q I h
  refine BoolOp_and (thn (ha pins s σ H _ I h) fun v s1 ⟨x, H1, I1, r1, q1⟩ => ?_)
  obtain ⟨c, rfl, q1⟩ := q1
  cases r1
  refine wpAny_truthy_bool ?_
  cases c with
  | true => exact hb pins s1 σ H1 Q I1 q1
  | false => exact ⟨.bl false, H1, I1, rfl, q1⟩
theorem pe_or (ha : PE X a ta) (hb : PE X (.BoolOp .Or (b :: rest) pos) tb) : PE X (.BoolOp .Or (a :: b :: rest) pos) (tOrV ta tb) := by
  refine .mk ?_
  intro pins s σ H Q I h
  refine BoolOp_or (thn (ha pins s σ H _ I h) fun v s1 ⟨x, H1, I1, r1, q1⟩ => ?_)
  obtain ⟨c, rfl, q1⟩ := q1
  cases r1
  refine wpAny_truthy_bool ?_
  cases c with
  | false => exact hb pins s1 σ H1 Q I1 q1
  | true => exact ⟨.bl true, H1, I1, rfl, q1⟩
theorem pe_not (ha : PE X a ta) : PE X (.UnaryOp .Not a pos) (tNotV ta) := by
  refine .mk ?_
  intro pins s σ H Q I h
  refine UnaryOp_ (thn (ha pins s σ H _ I h) fun v s1 ⟨x, H1, I1, r1, q1⟩ => ?_)
  obtain ⟨c, rfl, q1⟩ := q1
  cases r1
  exact not_of (wpAny_truthy_bool ⟨.bl (!c), H1, I1, rfl, q1⟩)
/-- a if t else b -/
def tIf (t : TT) (ta tb : TE) : TE := fun σ H Q => t σ H fun c H1 => if c = true then ta σ H1 Q else tb σ H1 Q
theorem pe_ifExp {c : Expr} (hc : PT X c tA) (ha : PE X a ta) (hb : PE X b tb) : PE X (.IfExp c a b pos) (tIf tA ta tb) := by
  refine .mk ?_
  intro pins s σ H Q I h
  refine wpAny_IfExp (thn (hc pins s σ H _ I h) fun d s1 ⟨H1, I1, q1⟩ => ?_)
  cases d with
  | true => exact ha pins s1 σ H1 Q I1 q1
  | false => exact hb pins s1 σ H1 Q I1 q1
end
end L2

namespace L2
open PySem PySem.Spec PyProof.Rows

/-! ### a list, a tuple that is read: tracked, frozen, or an object of the module -/
def SqL (K : PySem.W.Frag) (H : Hp) (a : Addr) (xs : List V) : Prop :=
  Rd H a (.lst xs) ∨
    ∃ (o : Obj) (its : Array Value) (n : Nat), K.lookup a = some o ∧ o.cls = .type "list" ∧ o.dict = none ∧ o.data = .seq its n ∧ its.size ≤ sizeLine ∧ Vals xs its.toList
def SqT (K : PySem.W.Frag) (H : Hp) (a : Addr) (xs : List V) : Prop :=
  Rd H a (.tup xs) ∨
    ∃ (o : Obj) (its : Array Value) (n : Nat), K.lookup a = some o ∧ o.cls = .type "tuple" ∧ o.data = .seq its n ∧ its.size ≤ sizeLine ∧ Vals xs its.toList
def absV : Value → Option V
  | .none => some .non
  | .bool b => some (.bl b)
  | .int i _ => some (.int i)
  | .str x _ => some (.str x)
  | .bytes b _ => some (.byt b)
  | .float b _ => some (.flt b)
  | .ref a => some (.ref a)
  | .type n => some (.ty n)
  | _ => none
theorem RelV.abs {x : V} {u : Value} (r : RelV x u) : absV u = some x := by
  cases x with
  | non => cases r; rfl
  | bl _ => cases r; rfl
  | int _ => obtain ⟨t, rfl⟩ := r; rfl
  | str _ => obtain ⟨t, rfl⟩ := r; rfl
  | byt _ => obtain ⟨t, rfl⟩ := r; rfl
  | flt _ => obtain ⟨t, rfl⟩ := r; rfl
  | ref _ => cases r; rfl
  | ty _ => cases r; rfl
theorem RelV.inj {x y : V} {u : Value} (r : RelV x u) (q : RelV y u) : x = y := Option.some.inj (r.abs.symm.trans q.abs)
theorem Vals.inj : ∀ {xs ys : List V} {us : List Value}, Vals xs us → Vals ys us → xs = ys
  | _, _, _, .nil, .nil => rfl
  | _, _, _, .cons r t, .cons r' t' => by rw [r.inj r', Vals.inj t t']
section
variable {X : Cx} {pins : List (Addr × Obj)} {σ : St} {H : Hp} {s : Shared} {a : Addr} {xs ys : List V}
theorem SqL.of {K : PySem.W.Frag} (h : H a = some (.lst xs)) : SqL K H a xs := .inl (.inl h)
theorem SqT.of {K : PySem.W.Frag} (h : H a = some (.tup xs)) : SqT K H a xs := .inl (.inl h)
theorem Inv.list (I : Inv X pins σ H s) (h : SqL X.K H a xs) : ∃ its : List Value, Vals xs its ∧ PlainL s.heap a its.toArray ∧ xs.length ≤ sizeLine := by
  rcases h with h | ⟨o, its, n, hk, hc, hd, hs, hz, r⟩
  · obtain ⟨z, its, n, r, e⟩ := h.ok I.hok
    exact ⟨its, r, ⟨_, n, e, rfl, rfl, rfl⟩, z⟩
  · refine ⟨its.toList, r, ⟨o, n, I.kIn a o hk, hc, hd, by simpa using hs⟩, ?_⟩
    have e := r.length
    simp only [Array.length_toList] at e
    omega
theorem Inv.tuple (I : Inv X pins σ H s) (h : SqT X.K H a xs) : ∃ its : List Value, Vals xs its ∧ IsTup s.heap a its.toArray ∧ xs.length ≤ sizeLine := by
  rcases h with h | ⟨o, its, n, hk, hc, hs, hz, r⟩
  · obtain ⟨z, its, r, p⟩ := h.ok I.hok
    exact ⟨its, r, p, z⟩
  · refine ⟨its.toList, r, ⟨o, I.kIn a o hk, hc, n, by simpa using hs⟩, ?_⟩
    have e := r.length
    simp only [Array.length_toList] at e
    omega
theorem Inv.list_inj (I : Inv X pins σ H s) (h : SqL X.K H a xs) (h' : SqL X.K H a ys) : xs = ys := by
  obtain ⟨its, r, ⟨o, n, e, _, _, d⟩, _⟩ := I.list h
  obtain ⟨its', r', ⟨o', n', e', _, _, d'⟩, _⟩ := I.list h'
  rw [e] at e'; cases e'
  rw [d] at d'
  injection d' with d1 _
  have : its = its' := by simpa using congrArg Array.toList d1
  subst this
  exact r.inj r'
theorem Inv.tuple_inj (I : Inv X pins σ H s) (h : SqT X.K H a xs) (h' : SqT X.K H a ys) : xs = ys := by
  obtain ⟨its, r, ⟨o, e, _, n, d⟩, _⟩ := I.tuple h
  obtain ⟨its', r', ⟨o', e', _, n', d'⟩, _⟩ := I.tuple h'
  rw [e] at e'; cases e'
  rw [d] at d'
  injection d' with d1 _
  have : its = its' := by simpa using congrArg Array.toList d1
  subst this
  exact r.inj r'
end

/-! ### another wish about exceptions -/
abbrev Cx.wish (X : Cx) (E : Value → Shared → Prop) : Cx := { X with xe := E }
/-- no exception leaves -/
abbrev Cx.nox (X : Cx) : Cx := X.wish fun _ _ => False
theorem Cx.Ok.wish {X : Cx} (ok : X.Ok) (E : Value → Shared → Prop) : (X.wish E).Ok :=
  ⟨ok.mod, ok.kind, ok.glob, ok.blt, ok.above, ok.inj, ok.has, ok.cab, ok.hd, ok.frames, ok.stk, ok.exf, ok.bs, ok.bsz, ok.noex, ok.exfs, ok.funs, ok.frf⟩
theorem Cx.Ok.unwish {X : Cx} {E : Value → Shared → Prop} (ok : (X.wish E).Ok) : X.Ok :=
  ⟨ok.mod, ok.kind, ok.glob, ok.blt, ok.above, ok.inj, ok.has, ok.cab, ok.hd, ok.frames, ok.stk, ok.exf, ok.bs, ok.bsz, ok.noex, ok.exfs, ok.funs, ok.frf⟩
section
variable {X : Cx} {pins : List (Addr × Obj)} {σ : St} {H : Hp} {s : Shared} {E : Value → Shared → Prop}
theorem Inv.wish (I : Inv X pins σ H s) (E : Value → Shared → Prop) : Inv (X.wish E) pins σ H s := ⟨I.ok.wish E, I.os, I.bare, I.base, I.loc, I.cell, I.free, I.freeC, I.pin, I.hok, I.len⟩
theorem Inv.unwish (I : Inv (X.wish E) pins σ H s) : Inv X pins σ H s := ⟨I.ok.unwish, I.os, I.bare, I.base, I.loc, I.cell, I.free, I.freeC, I.pin, I.hok, I.len⟩
theorem SP.unwish {D : Ends} {f : Flow} {s' : Shared} (h : SP (X.wish E) pins D f s') : SP X pins D f s' := by
  cases f with
  | next => obtain ⟨σ', H', I, q⟩ := h; exact ⟨σ', H', I.unwish, q⟩
  | brk => obtain ⟨σ', H', I, q⟩ := h; exact ⟨σ', H', I.unwish, q⟩
  | cont => obtain ⟨σ', H', I, q⟩ := h; exact ⟨σ', H', I.unwish, q⟩
  | ret u => obtain ⟨v, σ', H', I, r, q⟩ := h; exact ⟨v, σ', H', I.unwish, r, q⟩
theorem PE.nox {e : Expr} {t : TE} (h : PE X.nox e t) : PE X e t := .mk <| fun pins s σ H Q I hw =>
  wpAny_mono (h pins s σ H Q (I.wish _) hw) (fun _ _ ⟨v, H', I', r, q⟩ => ⟨v, H', I'.unwish, r, q⟩) fun _ _ z => False.elim z
theorem PT.nox {e : Expr} {t : TT} (h : PT X.nox e t) : PT X e t := .mk <| fun pins s σ H Q I hw =>
  wpAny_mono (h pins s σ H Q (I.wish _) hw) (fun _ _ ⟨H', I', q⟩ => ⟨H', I'.unwish, q⟩) fun _ _ z => False.elim z
theorem PSs.nox {st : List Stmt} {t : TS} (h : PSs X.nox st t) : PSs X st t := .mk <| fun pins s σ H D I hw =>
  wpAny_mono (h pins s σ H D (I.wish _) hw) (fun _ _ q => q.unwish) fun _ _ z => False.elim z
end

/-! ### blocks and small statements -/
section
variable {X : Cx} {st : Stmt} {rest : List Stmt} {t u : TS} {e : Expr} {te : TE} {pos : Pos}
def tNext : TS := fun D σ H => D.nx σ H
def tSeq (t u : TS) : TS := fun D σ H => t { D with nx := u D } σ H
theorem pss_nil : PSs X [] tNext := .mk <| fun _ _ σ H _ I h => wpAny_execs_nil ⟨σ, H, I, h⟩
theorem pss_cons (h1 : PS X st t) (h2 : PSs X rest u) : PSs X (st :: rest) (tSeq t u) := by
  refine .mk ?_
  intro pins s σ H D I h
  refine wpAny_execs_cons (thn (h1 pins s σ H { D with nx := u D } I h) fun f s1 q => ?_)
  cases f with
  | next =>
    obtain ⟨σ', H', I', q⟩ := q
    exact h2 pins s1 σ' H' D I' q
  | ret v => exact q
  | brk => exact q
  | cont => exact q
theorem pss_one (h1 : PS X st t) : PSs X [st] t := by
  refine .mk ?_
  intro pins s σ H D I h
  refine wpAny_execs_cons (thn (h1 pins s σ H D I h) fun f s1 q => ?_)
  cases f with
  | next => exact wpAny_execs_nil q
  | ret v => exact q
  | brk => exact q
  | cont => exact q
/-- in a def's body nothing is shown -/
theorem Inv.quiet {pins : List (Addr × Obj)} {σ : St} {H : Hp} {s : Shared} (I : Inv X pins σ H s) : interactive X.env = false := by simp [interactive, I.ok.kind]
/-- an expression whose value is dropped -/
def tDrop (te : TE) : TS := fun D σ H => te σ H fun _ H1 => D.nx σ H1
theorem ps_expr (he : PE X e te) (hs : swapsWith e none pos.line X.env = pure false := by rfl) : PS X (.Expr e pos) (tDrop te) := by
  refine .mk ?_
  intro pins s σ H D I h
  exact wpAny_Expr_any (thn (he pins s σ H _ I h) fun v s1 ⟨x, H1, I1, r1, q1⟩ => ⟨σ, H1, I1, q1⟩) I.quiet hs
def tRet (te : TE) : TS := fun D σ H => te σ H D.rt
theorem ps_ret (he : PE X e te) : PS X (.Return (some e) pos) (tRet te) := by
  refine .mk ?_
  intro pins s σ H D I h
  exact wpAny_Return_some (thn (he pins s σ H _ I h) fun v s1 ⟨x, H1, I1, r1, q1⟩ => ⟨x, σ, H1, I1, r1, q1⟩)
def tRetN : TS := fun D _ H => D.rt .non H
def tIfS (c : TT) (t u : TS) : TS := fun D σ H => c σ H fun b H1 => if b = true then t D σ H1 else u D σ H1
theorem ps_if {c : Expr} {a b : List Stmt} {tc : TT} (hc : PT X c tc) (ha : PSs X a t) (hb : PSs X b u) : PS X (.If c a b pos) (tIfS tc t u) := by
  refine .mk ?_
  intro pins s σ H D I h
  refine wpAny_If (thn (hc pins s σ H _ I h) fun d s1 ⟨H1, I1, q1⟩ => ?_)
  cases d with
  | true => exact ha pins s1 σ H1 D I1 q1
  | false => exact hb pins s1 σ H1 D I1 q1
end

/-! ### targets -/
abbrev TG := V → St → Hp → (St → Hp → Prop) → Prop
abbrev TGs := List V → St → Hp → (St → Hp → Prop) → Prop
structure PG (X : Cx) (target : Expr) (t : TG) : Prop where
  mk ::
  go :
  ∀ (pins : List (Addr × Obj)) (s : Shared) (σ : St) (H : Hp) (v : V) (u : Value) (Q : St → Hp → Prop), Inv X pins σ H s → RelV v u → t v σ H Q →
    wpAny (model X.prog X.w) X.A (assign target X.env u) (fun _ s' => ∃ σ' H', Inv X pins σ' H' s' ∧ Q σ' H') X.xe s
instance {X : Cx} {target : Expr} {t : TG} : CoeFun (PG X target t) (fun _ =>
  ∀ (pins : List (Addr × Obj)) (s : Shared) (σ : St) (H : Hp) (v : V) (u : Value) (Q : St → Hp → Prop), Inv X pins σ H s → RelV v u → t v σ H Q →
    wpAny (model X.prog X.w) X.A (assign target X.env u) (fun _ s' => ∃ σ' H', Inv X pins σ' H' s' ∧ Q σ' H') X.xe s) := ⟨PG.go⟩
/-- several targets, one after another -/
structure PGs (X : Cx) (ts : List Expr) (t : TGs) : Prop where
  mk ::
  go :
  ∀ (pins : List (Addr × Obj)) (s : Shared) (σ : St) (H : Hp) (vs : List V) (us : List Value) (Q : St → Hp → Prop), Inv X pins σ H s → Vals vs us → t vs σ H Q →
    wpAny (model X.prog X.w) X.A (assignInOrder ((assignEach ts X.env).map (·.2)) us) (fun _ s' => ∃ σ' H', Inv X pins σ' H' s' ∧ Q σ' H') X.xe s
instance {X : Cx} {ts : List Expr} {t : TGs} : CoeFun (PGs X ts t) (fun _ =>
  ∀ (pins : List (Addr × Obj)) (s : Shared) (σ : St) (H : Hp) (vs : List V) (us : List Value) (Q : St → Hp → Prop), Inv X pins σ H s → Vals vs us → t vs σ H Q →
    wpAny (model X.prog X.w) X.A (assignInOrder ((assignEach ts X.env).map (·.2)) us) (fun _ s' => ∃ σ' H', Inv X pins σ' H' s' ∧ Q σ' H') X.xe s) := ⟨PGs.go⟩
/-- o[i] = v, by values -/
abbrev TSet := V → V → V → Hp → (Hp → Prop) → Prop
structure PSet (X : Cx) (t : TSet) : Prop where
  mk ::
  go :
  ∀ (pins : List (Addr × Obj)) (s : Shared) (σ : St) (H : Hp) (o i v : V) (ov iv u : Value) (Q : Hp → Prop), Inv X pins σ H s → RelV o ov → RelV i iv → RelV v u → t o i v H Q →
    wpAny (model X.prog X.w) X.A (setItem ov iv u) (fun _ s' => ∃ H', Inv X pins σ H' s' ∧ Q H') X.xe s
instance {X : Cx} {t : TSet} : CoeFun (PSet X t) (fun _ =>
  ∀ (pins : List (Addr × Obj)) (s : Shared) (σ : St) (H : Hp) (o i v : V) (ov iv u : Value) (Q : Hp → Prop), Inv X pins σ H s → RelV o ov → RelV i iv → RelV v u → t o i v H Q →
    wpAny (model X.prog X.w) X.A (setItem ov iv u) (fun _ s' => ∃ H', Inv X pins σ H' s' ∧ Q H') X.xe s) := ⟨PSet.go⟩
/-- a op= b, by values -/
abbrev TIp := V → V → Hp → VK → Prop
def PIp (X : Cx) (op : Operator) (t : TIp) : Prop :=
  ∀ (pins : List (Addr × Obj)) (s : Shared) (σ : St) (H : Hp) (x y : V) (v u : Value) (Q : VK), Inv X pins σ H s → RelV x v → RelV y u → t x y H Q →
    wpAny (model X.prog X.w) X.A (inplaceOp op v u) (EP X pins σ Q) X.xe s
section
variable {X : Cx} {pos : Pos}
def gName (i : Nat) : TG := fun v σ H Q => Q (σ.set i (some v)) H
theorem pg_name {i : Nat} {x : Str} (hN : X.N.Nodup) (hi : X.N[i]? = some x) (hx : Loc X.env.scope x) (hf : X.fn x = true ∨ X.env.scope.names.lookup x = some .local := by first | exact .inl rfl | exact .inr rfl | assumption) : PG X (.Name x pos) (gName i) := by
  refine .mk ?_
  intro pins s σ H v u Q I r h
  exact wpAny_assign_Name (store_ok I hN hi hx r (fun s' I' => ⟨_, H, I', h⟩) hf)
def gNil : TGs := fun vs σ H Q => vs = [] ∧ Q σ H
def gCons (t : TG) (u : TGs) : TGs := fun vs σ H Q => ∃ v r, vs = v :: r ∧ t v σ H fun σ' H' => u r σ' H' Q
theorem pgs_nil : PGs X [] gNil := by
  refine .mk ?_
  intro pins s σ H vs us Q I r h
  obtain ⟨e, h⟩ := h
  subst e
  cases r
  exact assignInOrder_nil ⟨σ, H, I, h⟩
theorem pgs_cons {e : Expr} {es : List Expr} {t : TG} {u : TGs} (h1 : PG X e t) (h2 : PGs X es u)
    (hs : (assignEach (e :: es) X.env).map (·.2) = assign e X.env :: (assignEach es X.env).map (·.2) := by rfl) : PGs X (e :: es) (gCons t u) := by
  refine .mk ?_
  intro pins s σ H vs us Q I r h
  obtain ⟨v, vr, e1, h⟩ := h
  subst e1
  cases r with
  | cons r rr =>
    rw [hs]
    refine assignInOrder_cons (thn (h1 pins s σ H _ _ _ I r h) fun _ s1 ⟨σ1, H1, I1, q1⟩ => ?_)
    exact h2 pins s1 σ1 H1 _ _ Q I1 rr q1
/-- (a, b, ..) = a tuple of that length -/
def gTup (K : PySem.W.Frag) (n : Nat) (t : TGs) : TG := fun v σ H Q => ∃ a xs, v = .ref a ∧ SqT K H a xs ∧ xs.length = n ∧ t xs σ H Q
theorem pg_tup {es : List Expr} {k : Nat} {t : TGs} {n : Nat} (hc : X.calm = true) (h : PGs X es t)
    (hn : (assignEach es X.env).length = n := by rfl) (hst : (assignEach es X.env).findIdx? (·.1) = none := by rfl) : PG X (.Tuple es k pos) (gTup X.K n t) := by
  refine .mk ?_
  intro pins s σ H v u Q I r hw
  obtain ⟨a, xs, e1, hq, hl, hw⟩ := hw
  subst e1
  cases r
  obtain ⟨its, rv, ht, hz⟩ := I.tuple hq
  refine assign_Tuple_tuple (I.ok.hd hc) ht (by simp [hn, ← hl, rv.length]) hst fun h' hx => ?_
  have I1 : Inv X pins σ H { s with heap := h' } := I.kept (t' := s.toks) fun b o e => hx b o (Nat.ne_of_lt (Heap.lt_size e)) e
  exact h pins _ σ H xs _ Q I1 (by simpa using rv) hw
/-- o[i] = .. -/
def gSub (to ti : TE) (t : TSet) : TG := fun v σ H Q => to σ H fun o H1 => ti σ H1 fun i H2 => t o i v H2 fun H3 => Q σ H3
theorem pg_sub {o i : Expr} {to ti : TE} {t : TSet} (ho : PE X o to) (hi : PE X i ti) (hs : PSet X t)
    (ha : ∀ v, assign (.Subscript o i pos) X.env v = (do
      let ov ← holding [v] (eval o X.env)
      let iv ← holding [v, ov] (eval i X.env)
      standAt pos
      holding [v, ov, iv] (setItem ov iv v)
      release [v, ov, iv] []) := by intro _; rfl) : PG X (.Subscript o i pos) (gSub to ti t) := by
  refine .mk ?_
  intro pins s σ H v u Q I r h
  rw [ha]
  refine wpAny_bind (wpAny_holding (thn (ho pins s σ H _ I h) fun ov s1 ⟨x, H1, I1, r1, q1⟩ => ?_))
  refine wpAny_bind (wpAny_holding (thn (hi pins s1 σ H1 _ I1 q1) fun iv s2 ⟨y, H2, I2, r2, q2⟩ => ?_))
  refine wpAny_bind (wpAny_standAt (wpAny_bind (wpAny_holding (thn (hs pins s2 σ H2 x y v ov iv u _ I2 r1 r2 r q2) fun _ s3 ⟨H3, I3, q3⟩ => ?_))))
  exact wpAny_release ⟨σ, H3, I3, q3⟩
/-- target = value -/
def tAsg (te : TE) (g : TG) : TS := fun D σ H => te σ H fun x H1 => g x σ H1 D.nx
theorem ps_asg {tg e : Expr} {te : TE} {g : TG} (he : PE X e te) (hg : PG X tg g) (hs : swapsWithSole [tg] e pos.line X.env = pure false := by rfl) (hw : swappedStores [tg] e X.env = pure none := by rfl)
    (h1 : (assignEach [tg] X.env).map (·.2) = [assign tg X.env] := by rfl) : PS X (.Assign [tg] e pos) (tAsg te g) := by
  refine .mk ?_
  intro pins s σ H D I h
  refine wpAny_Assign_stores (thn (he pins s σ H _ I h) fun v s1 ⟨x, H1, I1, r1, q1⟩ => ?_) hs hw
  rw [h1]
  exact thn (hg pins s1 σ H1 x v _ I1 r1 q1) fun _ s2 q => q
/-- name = value -/
theorem ps_set {i : Nat} {x : Str} {e : Expr} {te : TE} {pos' : Pos} (hN : X.N.Nodup) (hi : X.N[i]? = some x) (hx : Loc X.env.scope x) (he : PE X e te) (hs : swapsWith e (some (.Name x pos')) pos.line X.env = pure false := by rfl) (hf : X.fn x = true ∨ X.env.scope.names.lookup x = some .local := by first | exact .inl rfl | exact .inr rfl | assumption) :
    PS X (.Assign [.Name x pos'] e pos) (tAsg te (gName i)) := by
  refine .mk ?_
  intro pins s σ H D I h
  refine wpAny_Assign_Name (thn (he pins s σ H _ I h) fun v s1 ⟨y, H1, I1, r1, q1⟩ => ?_) hs
  exact store_ok I1 hN hi hx r1 (fun s2 I2 => ⟨_, H1, I2, q1⟩) hf
/-- a, b = x, y with plain local names: stored from the right; the pair itself is not tracked (the opening rows as in PyProof/Rows/TupAssign.lean:23) -/
def tPar (i j : Nat) (ta : TA) : TS := fun D σ H => ta σ H fun vs H1 => ∃ v w, vs = [v, w] ∧ D.nx ((σ.set i (some v)).set j (some w)) H1
theorem ps_par {i j : Nat} {x y : Str} {a b : Expr} {ta : TA} {px py pt : Pos} {kt k2 pt2} (hc : X.calm = true) (hN : X.N.Nodup) (hi : X.N[i]? = some x) (hj : X.N[j]? = some y) (hij : i ≠ j)
    (hx : X.env.scope.names.lookup x = some .local) (hy : X.env.scope.names.lookup y = some .local) (ha : PA X [a, b] ta)
    (hw : swappedStores [.Tuple [.Name x px, .Name y py] kt pt] (.Tuple [a, b] k2 pt2) X.env = pure (some [x, y]))
    (hs : swapsWithSole [.Tuple [.Name x px, .Name y py] kt pt] (.Tuple [a, b] k2 pt2) pos.line X.env = pure false := by rfl) :
    PS X (.Assign [.Tuple [.Name x px, .Name y py] kt pt] (.Tuple [a, b] k2 pt2) pos) (tPar i j ta) := by
  refine .mk ?_
  intro pins s σ H D I h
  rw [exec_Assign_arm]
  refine wpAny_bind (wpAny_standAt ?_)
  rw [hs]
  refine wpAny_bind (wpAny_pure ?_)
  rw [if_neg (by decide)]
  refine wpAny_bind (Tuple_ (thn (ha _ pins s σ H _ I h) fun us s1 ⟨vs, H1, I1, r1, q1⟩ => ?_))
  obtain ⟨v, w, e1, q1⟩ := q1
  subst e1
  obtain ⟨u1, u2, rfl, rv, rw'⟩ : ∃ u1 u2, us = [u1, u2] ∧ RelV v u1 ∧ RelV w u2 := by
    cases r1 with
    | cons p q =>
      cases q with
      | cons p' q' =>
        cases q'
        exact ⟨_, _, rfl, p, p'⟩
  refine wpAny_newObj_type ?_ (by show 2 ≤ sizeLine; decide)
  have I2 : Inv X pins σ H1 { s1 with heap := s1.heap.push { cls := .type "tuple", data := .seq [u1, u2].toArray } } := I1.kept (t' := s1.toks) fun b o e => Heap.get?_push_of_some _ e
  rw [hw]
  refine wpAny_bind (wpAny_pure ?_)
  show wpAny (model X.prog X.w) X.A (do rule "assign.swapped-stores"; let items ← unpackItems (.ref s1.heap.objs.size) 2 none; assignInOrder [fun v => bindName X.env y v, fun v => bindName X.env x v] items.reverse; pure Flow.next) _ _ _
  refine wpAny_bind (wpAny_rule (wpAny_bind (unpackItems_tuple (items := #[u1, u2]) (I.ok.hd hc) (IsTup.new s1.heap _) fun h' hx' => ?_)))
  have I3 := I2.kept (h' := h') (t' := s1.toks) fun b o e => hx' b o (Nat.ne_of_lt (Heap.lt_size e)) e
  show wpAny _ _ (assignInOrder [fun v => bindName X.env y v, fun v => bindName X.env x v] [u2, u1] >>= fun _ => pure Flow.next) _ _ _
  refine wpAny_bind (assignInOrder_cons (wpAny_bindName (store_ok I3 hN hj (.inl hy) rw' (fun s2 I4 => ?_) (.inr hy))))
  refine assignInOrder_cons (wpAny_bindName (store_ok I4 hN hi (.inl hx) rv (fun s3 I5 => assignInOrder_nil (wpAny_pure ?_)) (.inr hx)))
  rw [List.set_comm _ _ (Ne.symm hij)] at I5
  exact ⟨_, H1, I5, q1⟩
/-- name op= e -/
def tAug (i : Nat) (te : TE) (ti : TIp) : TS := fun D σ H => ∃ x, σ[i]? = some (some x) ∧ te σ H fun y H1 => ti x y H1 fun z H2 => D.nx (σ.set i (some z)) H2
theorem ps_aug {i : Nat} {x : Str} {e : Expr} {te : TE} {op : Operator} {ti : TIp} {pos' : Pos} (hN : X.N.Nodup) (hi : X.N[i]? = some x) (hx : Loc X.env.scope x) (he : PE X e te) (ho : PIp X op ti) (hf : X.fn x = true ∨ X.env.scope.names.lookup x = some .local := by first | exact .inl rfl | exact .inr rfl | assumption) :
    PS X (.AugAssign (.Name x pos') op e pos) (tAug i te ti) := by
  refine .mk ?_
  intro pins s σ H D I h
  obtain ⟨v, e1, h⟩ := h
  obtain ⟨m, hn, hl⟩ := I.loc
  have vis : Vis X.env.scope x := by rcases hx with k | k; exact .inl k; exact .inr (.inl k)
  obtain ⟨u, r, l⟩ := hl i x v hi e1 vis
  refine wpAny_AugAssign_Name ?_
  have go : wpAny (model X.prog X.w) X.A (eval e X.env) (fun w s₂ => wpAny (model X.prog X.w) X.A (inplaceOp op u w) (fun r s₃ => wpAny (model X.prog X.w) X.A (storeName X.env x r) (fun _ => SP X pins D .next) X.xe s₃) X.xe s₂) X.xe s := by
    refine thn (he pins s σ H _ I h) fun w s1 ⟨y, H1, I1, r1, q1⟩ => ?_
    refine thn (ho pins s1 σ H1 v y u w _ I1 r r1 q1) fun z s2 ⟨zv, H2, I2, r2, q2⟩ => ?_
    exact store_ok I2 hN hi hx r2 (fun s3 I3 => ⟨_, H2, I3, q2⟩) hf
  rcases l with ⟨hk, hm⟩ | ⟨hk, c, hc, hcell⟩
  · exact wpAny_loadName_local I.ok.kind hk hn hm go
  · rcases hk with hk | hk
    · exact wpAny_loadName_cell I.ok.kind hk hc hcell go
    · rcases hx with k | k
      · have : X.env.scope.names.lookup x = some .free := hk
        rw [k] at this; cases this
      · have : X.env.scope.names.lookup x = some .free := hk
        rw [k] at this; cases this
/-- o[i] op= e -/
def tAugS (to ti te : TE) (tget : V → V → Hp → VK → Prop) (tip : TIp) (tset : TSet) : TS := fun D σ H => to σ H fun o H1 => ti σ H1 fun i H2 => tget o i H2 fun x H3 => te σ H3 fun y H4 => tip x y H4 fun z H5 => tset o i z H5 fun H6 => D.nx σ H6
/-- o[i], by values -/
def PGet (X : Cx) (t : V → V → Hp → VK → Prop) : Prop :=
  ∀ (pins : List (Addr × Obj)) (s : Shared) (σ : St) (H : Hp) (o i : V) (ov iv : Value) (Q : VK), Inv X pins σ H s → RelV o ov → RelV i iv → t o i H Q →
    wpAny (model X.prog X.w) X.A (getItem ov iv) (EP X pins σ Q) X.xe s
theorem ps_augS {o i e : Expr} {to ti te : TE} {tget : V → V → Hp → VK → Prop} {tip : TIp} {tset : TSet} {op : Operator} {tpos : Pos} (ho : PE X o to) (hi : PE X i ti) (hg : PGet X tget) (he : PE X e te) (hp : PIp X op tip) (hs : PSet X tset)
    (ha : ∀ ov iv new, augStore i ov iv new = (do holding [new, ov, iv] (setItem ov iv new); release [new, ov, iv] []; pure .next) := by intros; rfl) : PS X (.AugAssign (.Subscript o i tpos) op e pos) (tAugS to ti te tget tip tset) := by
  refine .mk ?_
  intro pins s σ H D I h
  refine wpAny_AugAssign_SubscriptAny (thn (ho pins s σ H _ I h) fun ov s1 ⟨x1, H1, I1, r1, q1⟩ => ?_) ha
  refine thn (hi pins s1 σ H1 _ I1 q1) fun iv s2 ⟨x2, H2, I2, r2, q2⟩ => ?_
  refine thn (hg pins s2 σ H2 x1 x2 ov iv _ I2 r1 r2 q2) fun old s3 ⟨x3, H3, I3, r3, q3⟩ => ?_
  refine thn (he pins s3 σ H3 _ I3 q3) fun v s4 ⟨x4, H4, I4, r4, q4⟩ => ?_
  refine thn (hp pins s4 σ H4 x3 x4 old v _ I4 r3 r4 q4) fun new s5 ⟨x5, H5, I5, r5, q5⟩ => ?_
  exact thn (hs pins s5 σ H5 x1 x2 x5 ov iv new _ I5 r1 r2 r5 q5) fun _ s6 ⟨H6, I6, q6⟩ => ⟨σ, H6, I6, q6⟩
/-- ints -/
def ipI (f : Int → Int → Int) : TIp := fun x y H Q => ∃ i j, x = .int i ∧ y = .int j ∧ Q (.int (f i j)) H
theorem ip_add : PIp X .Add (ipI fun i j => i + j) := by
  intro pins s σ H x y v u Q I r1 r2 h
  obtain ⟨i, j, e1, e2, q⟩ := h
  subst e1; subst e2
  obtain ⟨t, rfl⟩ := r1
  obtain ⟨t', rfl⟩ := r2
  exact iadd_int ⟨.int _, H, I.tok _, ⟨_, rfl⟩, q⟩
theorem ip_sub : PIp X .Sub (ipI fun i j => i - j) := by
  intro pins s σ H x y v u Q I r1 r2 h
  obtain ⟨i, j, e1, e2, q⟩ := h
  subst e1; subst e2
  obtain ⟨t, rfl⟩ := r1
  obtain ⟨t', rfl⟩ := r2
  exact isub_int ⟨.int _, H, I.tok _, ⟨_, rfl⟩, q⟩
end

/-! ### while -/
section
variable {X : Cx} {pos : Pos}
end

/-! ### what a loop or a comprehension walks -/
/-- at turn i: it yields x (the heap may grow), or it stops -/
structure It where
  go : Nat → Hp → Prop
  yld : Nat → Hp → V → Hp → Prop
  stop : Nat → Hp → Prop
/-- the iterator's own objects may turn: they are not the frame's, not pinned, younger than the entry (or a comprehension's own) -/
def FpOk (X : Cx) (pins : List (Addr × Obj)) (H : Hp) (b : Addr) : Prop :=
  H b = none ∧ b ≠ X.env.locals ∧ b ∉ X.fs ∧ (b ∈ X.ex ∨ X.s₀.heap.objs.size ≤ b) ∧ (∀ x c, X.env.cells.lookup x = some c → c ≠ b) ∧ ∀ p ∈ X.pn ++ pins, p.1 ≠ b
theorem Inv.fpOk {X : Cx} {pins : List (Addr × Obj)} {σ : St} {H H' : Hp} {s : Shared} {b : Addr} (I : Inv X pins σ H s) (hb : s.heap.objs.size ≤ b) (hn : H' b = none) : FpOk X pins H' b := by
  refine ⟨hn, Nat.ne_of_gt (Nat.lt_of_lt_of_le I.lt hb), I.nofs hb, .inr (Nat.le_trans I.sz hb), fun x c e z => ?_, fun p hp z => ?_⟩
  · obtain ⟨v, q⟩ := I.cell x c e
    exact absurd (Nat.lt_of_lt_of_le q.lt (by rw [z]; exact hb)) (Nat.lt_irrefl _)
  · exact absurd (Nat.lt_of_lt_of_le (Heap.lt_size (I.pin p hp).1) (by rw [z]; exact hb)) (Nat.lt_irrefl _)
structure Turn (P : Program) (w : World) (K : PySem.W.Frag) (tg : Expr) (J : It) (fp : List Addr) (it : Addr) (tn : Nat → Heap → Prop) : Prop where
  mem : it ∈ fp
  obj : ∀ i h, tn i h → ∀ b ∈ fp, ∃ o, h.get? b = some o ∧ ∀ v, o.data ≠ .cell v
  keep : ∀ i h h', tn i h → (∀ b ∈ fp, ∀ o, h.get? b = some o → h'.get? b = some o) → tn i h'
  item : ∀ (X : Cx), X.prog = P → X.w = w → X.K = K → X.calm = true → ∀ (i : Nat) (pins : List (Addr × Obj)) (s : Shared) (σ : St) (H : Hp) (E : Value → Shared → Prop), Inv X pins σ H s → (∀ b ∈ fp, FpOk X pins H b) → tn i s.heap → J.go i H →
    wpAny (model P w) X.A (pyNext (.ref it)) (fun r s1 => ∃ u, r = some u ∧
      wpAny (model P w) X.A (letOwnedTupleGo tg (.ref it) u) (fun _ s2 => ∃ x H', Inv X pins σ H' s2 ∧ RelV x u ∧ J.yld i H x H' ∧ tn (i + 1) s2.heap ∧ ∀ b ∈ fp, H' b = none) E s1) E s
  done : ∀ (X : Cx), X.prog = P → X.w = w → X.K = K → X.calm = true → ∀ (i : Nat) (pins : List (Addr × Obj)) (s : Shared) (σ : St) (H : Hp) (E : Value → Shared → Prop), Inv X pins σ H s → (∀ b ∈ fp, FpOk X pins H b) → tn i s.heap → J.stop i H →
    wpAny (model P w) X.A (pyNext (.ref it)) (fun r s1 => r = none ∧ Inv X pins σ H s1) E s
  self : ∀ (A : Around) (i : Nat) (s : Shared) (Q : Value → Shared → Prop) (E : Value → Shared → Prop), tn i s.heap → Q (.ref it) s → wpAny (model P w) A (pyIter (.ref it)) Q E s
abbrev TI := St → Hp → (It → Hp → Prop) → Prop
/-- an iterator has come -/
def PIE (X : Cx) (pins : List (Addr × Obj)) (σ : St) (tg : Expr) (R : It → Hp → Prop) (itv : Value) (s2 : Shared) : Prop :=
  ∃ (it : Addr) (fp : List Addr) (tn : Nat → Heap → Prop) (J : It) (H' : Hp), itv = .ref it ∧ Inv X pins σ H' s2 ∧ Turn X.prog X.w X.K tg J fp it tn ∧ tn 0 s2.heap ∧ (∀ b ∈ fp, FpOk X pins H' b) ∧ R J H'
structure PI (X : Cx) (tg iter : Expr) (wi : TI) : Prop where
  mk ::
  go :
  ∀ (pins : List (Addr × Obj)) (s : Shared) (σ : St) (H : Hp) (R : It → Hp → Prop), Inv X pins σ H s → wi σ H R →
    wpAny (model X.prog X.w) X.A (eval iter X.env) (fun v s1 => wpAny (model X.prog X.w) X.A (pyIter v) (PIE X pins σ tg R) X.xe s1) X.xe s
instance {X : Cx} {tg iter : Expr} {wi : TI} : CoeFun (PI X tg iter wi) (fun _ =>
  ∀ (pins : List (Addr × Obj)) (s : Shared) (σ : St) (H : Hp) (R : It → Hp → Prop), Inv X pins σ H s → wi σ H R →
    wpAny (model X.prog X.w) X.A (eval iter X.env) (fun v s1 => wpAny (model X.prog X.w) X.A (pyIter v) (PIE X pins σ tg R) X.xe s1) X.xe s) := ⟨PI.go⟩

/-- the step ahead of the store is nothing for an iterator that keeps no tuple -/
theorem go_of {M : Model} {A : Around} {E : Value → Shared → Prop} {s : Shared} {tg : Expr} {it : Addr} {u : Value} {o : Obj} {n : String} {vs : Array Value} {Q : Unit → Shared → Prop} (ho : s.heap.get? it = some o) (hc : o.cls = .type n) (hd : o.data = .fields vs)
    (hn : ["enumerate", "zip", "dict_itemiterator", "dict_reverseitemiterator", "odict_iterator", "itertools.zip_longest", "itertools.pairwise"].contains n = false) (hQ : Q () s) : wpAny M A (letOwnedTupleGo tg (.ref it) u) Q E s := by
  unfold letOwnedTupleGo
  cases tg <;> first
    | exact wpAny_pure hQ
    | (cases u <;> first
        | exact wpAny_pure hQ
        | (refine wpAny_bind (wpAny_load ho ?_)
           rw [hc, hd]
           show wpAny M A (if (["enumerate", "zip", "dict_itemiterator", "dict_reverseitemiterator", "odict_iterator", "itertools.zip_longest", "itertools.pairwise"].contains n && vs[0]? == some (rawInt _)) = true then _ else _) Q E s
           rw [if_neg (by intro h; rw [hn, Bool.false_and] at h; cases h)]
           exact wpAny_pure hQ))

/-- the list at a, as it stands at each turn (a loop may append to it) -/
def Itl (K : PySem.W.Frag) (a : Addr) : It :=
  ⟨fun i H => ∃ xs x, SqL K H a xs ∧ xs[i]? = some x, fun i H x H' => H' = H ∧ ∀ xs, SqL K H a xs → xs[i]? = some x, fun i H => ∃ xs, SqL K H a xs ∧ xs.length ≤ i⟩
def Itt (K : PySem.W.Frag) (a : Addr) : It :=
  ⟨fun i H => ∃ xs x, SqT K H a xs ∧ xs[i]? = some x, fun i H x H' => H' = H ∧ ∀ xs, SqT K H a xs → xs[i]? = some x, fun i H => ∃ xs, SqT K H a xs ∧ xs.length ≤ i⟩
/-- lo, lo + 1, .. (n of them) -/
def Itr (lo : Int) (n : Nat) : It := ⟨fun i _ => i < n, fun i H x H' => H' = H ∧ x = .int (lo + i), fun i _ => n ≤ i⟩
theorem turn_list {P : Program} {w : World} {K : PySem.W.Frag} {tg : Expr} (a it : Addr) : Turn P w K tg (Itl K a) [it] it (fun i h => h.IsListIter it a i) where
  mem := by simp
  obj := fun i h st b hb => by
    have e : b = it := by simpa using hb
    subst e
    obtain ⟨o, e, c, d⟩ := st
    exact ⟨o, e, fun v z => by rw [d] at z; cases z⟩
  keep := fun i h h' st k => st.at fun o e => k it (by simp) o e
  item := by
    intro X hP hw hK hc i pins s σ H E I hf st hg
    subst hP hw hK
    obtain ⟨xs, x, hq, hx⟩ := hg
    obtain ⟨its, rv, p, hz⟩ := I.list hq
    obtain ⟨u, hu, ru⟩ := rv.get hx
    obtain ⟨f0, f1, f2, f3, f4, f5⟩ := hf it (by simp)
    refine wpAny_pyNext_list_item st p.isList (x := u) (by simpa using hu) fun h' st' sb => ?_
    have I1 : Inv X pins σ H { s with heap := h' } := I.turned (t' := s.toks) (fun b o hb e => (sb.2 b hb).trans e) f0 f1 f3 f4 f5
    obtain ⟨o, e, c, d⟩ := id st'
    exact ⟨u, rfl, go_of (s := { s with heap := h' }) e c d (by decide) ⟨x, H, I1, ru, ⟨rfl, fun ys hy => by rw [I.list_inj hy hq]; exact hx⟩, st', fun b hb => (hf b hb).1⟩⟩
  done := by
    intro X hP hw hK hc i pins s σ H E I hf st hg
    subst hP hw hK
    obtain ⟨xs, hq, hx⟩ := hg
    obtain ⟨its, rv, p, hz⟩ := I.list hq
    obtain ⟨f0, f1, f2, f3, f4, f5⟩ := hf it (by simp)
    have hl := rv.length
    exact wpAny_pyNext_list_end (I.ok.hd hc) st p.isList (by simp; omega) fun h' eb => ⟨rfl, I.turned (t' := s.toks) (fun b o hb e => eb b o hb e) f0 f1 f3 f4 f5⟩
  self := fun _ _ _ _ _ st h => wpAny_pyIter_listiter st h
theorem turn_tuple {P : Program} {w : World} {K : PySem.W.Frag} {tg : Expr} (a it : Addr) : Turn P w K tg (Itt K a) [it] it (fun i h => h.IsTupleIter it a i) where
  mem := by simp
  obj := fun i h st b hb => by
    have e : b = it := by simpa using hb
    subst e
    obtain ⟨o, e, c, d⟩ := st
    exact ⟨o, e, fun v z => by rw [d] at z; cases z⟩
  keep := fun i h h' st k => st.at fun o e => k it (by simp) o e
  item := by
    intro X hP hw hK hc i pins s σ H E I hf st hg
    subst hP hw hK
    obtain ⟨xs, x, hq, hx⟩ := hg
    obtain ⟨its, rv, p, hz⟩ := I.tuple hq
    obtain ⟨u, hu, ru⟩ := rv.get hx
    obtain ⟨f0, f1, f2, f3, f4, f5⟩ := hf it (by simp)
    refine wpAny_pyNext_tuple_item st (show s.heap.IsTuple a its.toArray from p) (x := u) (by simpa using hu) fun h' st' sb => ?_
    have I1 : Inv X pins σ H { s with heap := h' } := I.turned (t' := s.toks) (fun b o hb e => (sb.2 b hb).trans e) f0 f1 f3 f4 f5
    obtain ⟨o, e, c, d⟩ := id st'
    exact ⟨u, rfl, go_of (s := { s with heap := h' }) e c d (by decide) ⟨x, H, I1, ru, ⟨rfl, fun ys hy => by rw [I.tuple_inj hy hq]; exact hx⟩, st', fun b hb => (hf b hb).1⟩⟩
  done := by
    intro X hP hw hK hc i pins s σ H E I hf st hg
    subst hP hw hK
    obtain ⟨xs, hq, hx⟩ := hg
    obtain ⟨its, rv, p, hz⟩ := I.tuple hq
    obtain ⟨f0, f1, f2, f3, f4, f5⟩ := hf it (by simp)
    have hl := rv.length
    exact wpAny_pyNext_tuple_end (I.ok.hd hc) st (show s.heap.IsTuple a its.toArray from p) (by simp; omega) fun h' eb => ⟨rfl, I.turned (t' := s.toks) (fun b o hb e => eb b o hb e) f0 f1 f3 f4 f5⟩
  self := fun _ _ _ _ _ st h => wpAny_pyIter_tupleiter st h
theorem turn_range {P : Program} {w : World} {K : PySem.W.Frag} {tg : Expr} (it : Addr) (lo : Int) (n : Nat) : Turn P w K tg (Itr lo n) [it] it (fun i h => IsRangeIter h it (lo + (i : Nat) * 1) ((n : Int) - (i : Nat)) 1) where
  mem := by simp
  obj := fun i h st b hb => by
    have e : b = it := by simpa using hb
    subst e
    exact ⟨_, st, fun v z => by
      have z' : Data.fields _ = Data.cell v := z
      cases z'⟩
  keep := fun i h h' st k => k it (by simp) _ st
  item := by
    intro X hP hw hK hc i pins s σ H E I hf st hg
    subst hP hw hK
    obtain ⟨f0, f1, f2, f3, f4, f5⟩ := hf it (by simp)
    have W := Walks.range (prog := X.prog) (w := X.w) (I.ok.hd hc) it lo 1 n
    refine W.item i s _ _ hg st fun v h' tk hv st' kk => ?_
    obtain ⟨t, rfl⟩ := hv
    have I1 : Inv X pins σ H { s with heap := h', toks := tk } := I.turned (fun b o hb e => kk b o (by simpa using hb) e) f0 f1 f3 f4 f5
    refine ⟨_, rfl, go_of (s := { s with heap := h', toks := tk }) (n := "range_iterator") st' rfl rfl (by decide) ⟨.int (lo + i), H, I1, ⟨t, ?_⟩, ⟨rfl, rfl⟩, st', fun b hb => (hf b hb).1⟩⟩
    rw [Int.mul_one]
  done := by
    intro X hP hw hK hc i pins s σ H E I hf st hg
    subst hP hw hK
    obtain ⟨f0, f1, f2, f3, f4, f5⟩ := hf it (by simp)
    exact wpAny_pyNext_range_end (I.ok.hd hc) st (by have : n ≤ i := hg; omega) fun h' eb => ⟨rfl, I.turned (t' := s.toks) (fun b o hb e => eb b o hb e) f0 f1 f3 f4 f5⟩
  self := fun _ _ _ _ _ st h => wpAny_pyIter_rangeiter st h
end L2

namespace L2
open PySem PySem.Spec PyProof.Rows
section
variable {X : Cx} {tg : Expr}
def iList (K : PySem.W.Frag) (tl : TE) : TI := fun σ H R => tl σ H fun x H1 => ∃ a, x = .ref a ∧ (∃ xs, SqL K H1 a xs) ∧ R (Itl K a) H1
def iTup (K : PySem.W.Frag) (tl : TE) : TI := fun σ H R => tl σ H fun x H1 => ∃ a, x = .ref a ∧ (∃ xs, SqT K H1 a xs) ∧ R (Itt K a) H1
theorem pi_list {l : Expr} {tl : TE} (hl : PE X l tl) : PI X tg l (iList X.K tl) := by
  refine .mk ?_
  intro pins s σ H R I h
  refine thn (hl pins s σ H _ I h) fun v s1 ⟨x, H1, I1, r1, q1⟩ => ?_
  obtain ⟨a, e, ⟨xs, hq⟩, q⟩ := q1
  subst e
  cases r1
  obtain ⟨its, rv, p, hz⟩ := I1.list hq
  refine wpAny_pyIter_list p.isList ?_
  refine ⟨s1.heap.objs.size, [s1.heap.objs.size], _, _, H1, rfl, I1.kept (t' := s1.toks) fun b o e => Heap.get?_push_of_some _ e, turn_list a _, ⟨_, Heap.get?_push_size _ rfl, rfl, rfl⟩, fun b hb => ?_, q⟩
  have e : b = s1.heap.objs.size := by simpa using hb
  subst e
  exact I1.fpOk (Nat.le_refl _) (I1.hok.fresh (Nat.le_refl _))
theorem pi_tup {l : Expr} {tl : TE} (hl : PE X l tl) : PI X tg l (iTup X.K tl) := by
  refine .mk ?_
  intro pins s σ H R I h
  refine thn (hl pins s σ H _ I h) fun v s1 ⟨x, H1, I1, r1, q1⟩ => ?_
  obtain ⟨a, e, ⟨xs, hq⟩, q⟩ := q1
  subst e
  cases r1
  obtain ⟨its, rv, p, hz⟩ := I1.tuple hq
  refine wpAny_pyIter_tuple (show s1.heap.IsTuple a its.toArray from p) ?_
  refine ⟨s1.heap.objs.size, [s1.heap.objs.size], _, _, H1, rfl, I1.kept (t' := s1.toks) fun b o e => Heap.get?_push_of_some _ e, turn_tuple a _, ⟨_, Heap.get?_push_size _ rfl, rfl, rfl⟩, fun b hb => ?_, q⟩
  have e : b = s1.heap.objs.size := by simpa using hb
  subst e
  exact I1.fpOk (Nat.le_refl _) (I1.hok.fresh (Nat.le_refl _))
/-- a range object just made, walked -/
theorem range_it {pins : List (Addr × Obj)} {σ : St} {H : Hp} {s : Shared} {R : It → Hp → Prop} {E : Value → Shared → Prop} {lo hi : Int} {t u v : Tok} {tk : Nat} (I : Inv X pins σ H s) (h1 : -(2 ^ 62) ≤ lo) (h2 : lo < 2 ^ 62) (h3 : -(2 ^ 62) ≤ hi) (h4 : hi < 2 ^ 62)
    (q : R (Itr lo (hi - lo).toNat) H) : wpAny (model X.prog X.w) X.A (pyIter (.ref s.heap.objs.size)) (PIE X pins σ tg R) E { s with heap := s.heap.push { cls := .type "range", data := .fields #[.int lo t, .int hi u, .int 1 v] }, toks := tk } := by
  refine wpAny_pyIter_range (IsRange.new ..) (small_one h1 h2 h3 h4) ?_
  have I1 : Inv X pins σ H { s with heap := s.heap.push { cls := .type "range", data := .fields #[.int lo t, .int hi u, .int 1 v] }, toks := tk } := I.kept fun b o e => Heap.get?_push_of_some _ e
  refine ⟨(s.heap.push { cls := .type "range", data := .fields #[.int lo t, .int hi u, .int 1 v] }).objs.size, [(s.heap.push { cls := .type "range", data := .fields #[.int lo t, .int hi u, .int 1 v] }).objs.size], _, _, H, rfl,
    I1.kept (t' := tk) fun b o e => Heap.get?_push_of_some _ e, turn_range _ lo (hi - lo).toNat, ?_, fun b hb => ?_, q⟩
  · have e1 : lo + ((0 : Nat) : Int) * 1 = lo := by simp
    have e2 : (((hi - lo).toNat : Nat) : Int) - ((0 : Nat) : Int) = Builtin.Range.rangeSize lo hi 1 := by rw [rangeSize_one]; split <;> omega
    show IsRangeIter _ _ (lo + ((0 : Nat) : Int) * 1) ((((hi - lo).toNat : Nat) : Int) - ((0 : Nat) : Int)) 1
    rw [e1, e2]
    exact Heap.get?_push_size _ rfl
  · have e : b = (s.heap.push { cls := .type "range", data := .fields #[.int lo t, .int hi u, .int 1 v] }).objs.size := by simpa using hb
    subst e
    exact I1.fpOk (Nat.le_refl _) (I1.hok.fresh (Nat.le_refl _))
def iRng1 (ta : TA) : TI := fun σ H R => ta σ H fun vs H1 => ∃ j : Int, vs = [.int j] ∧ -(2 ^ 62) ≤ j ∧ j < 2 ^ 62 ∧ R (Itr 0 j.toNat) H1
theorem pi_range1 {a : Expr} {ta : TA} {p pos : Pos} (hg : Gl X "range") (hm : X.mg "range" = none) (ha : PA X [a] ta) (hs : starEach [a] X.env = [(false, eval a X.env)] := by rfl) : PI X tg (.Call (.Name "range" p) [a] [] pos) (iRng1 ta) := by
  refine .mk ?_
  intro pins s σ H R I h
  refine Call_ (ld_blt I hg hm boot_range (PyProof.Rows.callWith_type1 (thn (ha pos pins s σ H _ I h) fun us s1 ⟨vs, H1, I1, r1, q1⟩ => ?_) hs rfl))
  obtain ⟨j, e, q1, q2, q⟩ := q1
  subst e
  cases r1 with
  | cons r rr =>
    cases rr
    obtain ⟨t, rfl⟩ := r
    exact call_range_1 (range_it I1 (by omega) (by omega) q1 q2 (by simpa using q))
/-! ### for -/
/-- W: the invariant by the turn and a measure; N: what the body is to reach -/
def tFor (wi : TI) (g : TG) (tb : TS) : TS := fun D σ H => wi σ H fun J H1 => ∃ W : Nat → Nat → St → Hp → Prop, (∃ m, W 0 m σ H1) ∧ ∀ i m σ H, W i m σ H →
  (J.stop i H ∧ D.nx σ H) ∨ (J.go i H ∧ ∃ N : St → Hp → Prop, (∀ σ' H', N σ' H' → ∃ m', m' < m ∧ W (i + 1) m' σ' H') ∧ ∀ x H', J.yld i H x H' → g x σ H' fun σ2 H2 => tb { D with nx := N, ct := N, bk := D.nx } σ2 H2)
/-- the records at fp as they stand -/
def pinsAt (fp : List Addr) (h : Heap) : List (Addr × Obj) := fp.filterMap fun b => (h.get? b).map fun o => (b, o)
theorem mem_pinsAt {fp : List Addr} {h : Heap} {b : Addr} {o : Obj} (hb : b ∈ fp) (e : h.get? b = some o) : (b, o) ∈ pinsAt fp h := List.mem_filterMap.mpr ⟨b, hb, by rw [e]; rfl⟩
theorem of_pinsAt {fp : List Addr} {h : Heap} {p : Addr × Obj} (hp : p ∈ pinsAt fp h) : p.1 ∈ fp ∧ h.get? p.1 = some p.2 := by
  obtain ⟨b, hb, e⟩ := List.mem_filterMap.mp hp
  cases q : h.get? b with
  | none => rw [q] at e; cases e
  | some o =>
    rw [q] at e
    have e' : (b, o) = p := Option.some.inj e
    subst e'
    exact ⟨hb, q⟩
theorem Inv.pinned {pins : List (Addr × Obj)} {σ : St} {H : Hp} {s : Shared} {fp : List Addr} (I : Inv X pins σ H s) (hf : ∀ b ∈ fp, FpOk X pins H b) (ho : ∀ b ∈ fp, ∃ o, s.heap.get? b = some o ∧ ∀ v, o.data ≠ .cell v) : Inv X (pins ++ pinsAt fp s.heap) σ H s :=
  I.pins_of fun p hp => (List.mem_append.mp hp).elim (fun z => I.pin p (List.mem_append_right _ z)) fun z => by
    obtain ⟨hb, e⟩ := of_pinsAt z
    obtain ⟨f0, f1, f2, _⟩ := hf p.1 hb
    obtain ⟨o, e', d⟩ := ho p.1 hb
    rw [e] at e'; cases e'
    exact ⟨e, f0, f1, f2, d⟩
theorem Inv.unpinned {pins pl : List (Addr × Obj)} {σ : St} {H : Hp} {s : Shared} (I : Inv X (pins ++ pl) σ H s) : Inv X pins σ H s := I.pins_of fun p hp => I.pin p (List.mem_append_right _ (List.mem_append_left _ hp))
theorem ps_for {iter : Expr} {body : List Stmt} {wi : TI} {g : TG} {tb : TS} {pos : Pos} (hp : PassesOwn (model X.prog X.w) X.A X.env X.xe) (hc : X.calm = true) (hi : PI X tg iter wi) (hg : PG X tg g) (hb : PSs X body tb)
    (hs : ∀ x, foldedSetIterable iter X.env x = pure x := by intro _; rfl) : PS X (.For tg iter body [] pos) (tFor wi g tb) := by
  refine .mk ?_
  intro pins s σ H D I h
  refine wpAny_For (thn (hi pins s σ H _ I h) fun v s1 h1 => thn h1 fun itv s2 h2 => ?_) hs
  obtain ⟨it, fp, tn, J, H2, e, I2, T, st2, f2, W, ⟨m0, w0⟩, turn⟩ := h2
  subst e
  -- what stays true of the iterator's objects through the loop
  have stat : ∀ {H' : Hp}, (∀ b ∈ fp, H' b = none) → ∀ b ∈ fp, FpOk X pins H' b := fun hn b hb => ⟨hn b hb, (f2 b hb).2⟩
  refine codeAny_forLoop_any (fun n s' => ∃ i σ' H', Inv X pins σ' H' s' ∧ tn i s'.heap ∧ (∀ b ∈ fp, H' b = none) ∧ W i n σ' H') ?_ m0 ⟨0, σ, H2, I2, st2, fun b hb => (f2 b hb).1, w0⟩
  rintro n s3 ⟨i, σ3, H3, I3, st3, fr3, w3⟩
  rcases turn i n σ3 H3 w3 with ⟨stop, qn⟩ | ⟨go, N, hN, step⟩
  · refine wpAny_passesOwn hp (thn (T.done X rfl rfl rfl hc i pins s3 σ3 H3 X.xe I3 (stat fr3) st3 stop) fun r s4 ⟨hr, I4⟩ => ?_)
    subst hr
    exact wpAny_execs_nil ⟨σ3, H3, I4, qn⟩
  · refine wpAny_passesOwn hp (thn (T.item X rfl rfl rfl hc i pins s3 σ3 H3 X.xe I3 (stat fr3) st3 go) fun r s4 ⟨u, hr, h4⟩ => ?_)
    subst hr
    refine wpAny_passesOwn hp (thn h4 fun _ s5 ⟨x, H5, I5, r5, y5, st5, fr5⟩ => ?_)
    have I5' := I5.pinned (stat fr5) (T.obj _ _ st5)
    refine wpAny_passesOwn hp (thn (hg _ s5 σ3 H5 x u _ I5' r5 (step x H5 y5)) fun _ s6 ⟨σ6, H6, I6, q6⟩ => ?_)
    refine wpAny_passesOwn hp (thn (hb _ s6 σ6 H6 _ I6 q6) fun f s7 q7 => ?_)
    have again : ∀ {σ7 : St} {H7 : Hp}, Inv X (pins ++ pinsAt fp s5.heap) σ7 H7 s7 → N σ7 H7 → ∃ m, m < n ∧ ∃ i σ' H', Inv X pins σ' H' s7 ∧ tn i s7.heap ∧ (∀ b ∈ fp, H' b = none) ∧ W i m σ' H' := fun {σ7 H7} I7 n7 => by
      obtain ⟨m', hm, w7⟩ := hN σ7 H7 n7
      refine ⟨m', hm, i + 1, σ7, H7, I7.unpinned, T.keep _ _ _ st5 fun b hb o e => (I7.pin (b, o) (List.mem_append_right _ (List.mem_append_right _ (mem_pinsAt hb e)))).1, fun b hb => ?_, w7⟩
      obtain ⟨o, e, d⟩ := T.obj _ _ st5 b hb
      exact (I7.pin (b, o) (List.mem_append_right _ (List.mem_append_right _ (mem_pinsAt hb e)))).2.1
    cases f with
    | next => obtain ⟨σ7, H7, I7, n7⟩ := q7; exact again I7 n7
    | cont => obtain ⟨σ7, H7, I7, n7⟩ := q7; exact again I7 n7
    | brk => obtain ⟨σ7, H7, I7, q7⟩ := q7; exact ⟨σ7, H7, I7.unpinned, q7⟩
    | ret v => obtain ⟨x7, σ7, H7, I7, r7, q7⟩ := q7; exact ⟨x7, σ7, H7, I7.unpinned, r7, q7⟩
end

/-! ### the forms one uses -/
/-- over a list that the body leaves as it is -/
theorem for_list {K : PySem.W.Frag} {a : Addr} {xs : List V} {g : TG} {tb : TS} {D : Ends} {σ : St} {H : Hp} (Pv : Nat → St → Hp → Prop) (h0 : Pv 0 σ H) (hl : ∀ i σ H, i ≤ xs.length → Pv i σ H → SqL K H a xs)
    (hs : ∀ i x σ H, xs[i]? = some x → Pv i σ H → g x σ H fun σ2 H2 => tb { D with nx := Pv (i + 1), ct := Pv (i + 1), bk := D.nx } σ2 H2) (hd : ∀ σ H, Pv xs.length σ H → D.nx σ H) :
    ∃ W : Nat → Nat → St → Hp → Prop, (∃ m, W 0 m σ H) ∧ ∀ i m σ H, W i m σ H →
      ((Itl K a).stop i H ∧ D.nx σ H) ∨ ((Itl K a).go i H ∧ ∃ N : St → Hp → Prop, (∀ σ' H', N σ' H' → ∃ m', m' < m ∧ W (i + 1) m' σ' H') ∧ ∀ x H', (Itl K a).yld i H x H' → g x σ H' fun σ2 H2 => tb { D with nx := N, ct := N, bk := D.nx } σ2 H2) := by
  refine ⟨fun i m σ H => m = xs.length - i ∧ i ≤ xs.length ∧ Pv i σ H, ⟨xs.length, by simp, Nat.zero_le _, h0⟩, ?_⟩
  rintro i m σ H ⟨rfl, hi, p⟩
  have q := hl i σ H hi p
  by_cases hlt : i < xs.length
  · refine .inr ⟨⟨xs, xs[i], q, by simp [hlt]⟩, Pv (i + 1), fun σ' H' p' => ⟨xs.length - (i + 1), by omega, rfl, hlt, p'⟩, fun x H' y => ?_⟩
    obtain ⟨e, y⟩ := y
    subst e
    exact hs i x σ _ (y xs q) p
  · have e : i = xs.length := by omega
    subst e
    exact .inl ⟨⟨xs, q, Nat.le_refl _⟩, hd σ H p⟩
theorem for_tup {K : PySem.W.Frag} {a : Addr} {xs : List V} {g : TG} {tb : TS} {D : Ends} {σ : St} {H : Hp} (Pv : Nat → St → Hp → Prop) (h0 : Pv 0 σ H) (hl : ∀ i σ H, i ≤ xs.length → Pv i σ H → SqT K H a xs)
    (hs : ∀ i x σ H, xs[i]? = some x → Pv i σ H → g x σ H fun σ2 H2 => tb { D with nx := Pv (i + 1), ct := Pv (i + 1), bk := D.nx } σ2 H2) (hd : ∀ σ H, Pv xs.length σ H → D.nx σ H) :
    ∃ W : Nat → Nat → St → Hp → Prop, (∃ m, W 0 m σ H) ∧ ∀ i m σ H, W i m σ H →
      ((Itt K a).stop i H ∧ D.nx σ H) ∨ ((Itt K a).go i H ∧ ∃ N : St → Hp → Prop, (∀ σ' H', N σ' H' → ∃ m', m' < m ∧ W (i + 1) m' σ' H') ∧ ∀ x H', (Itt K a).yld i H x H' → g x σ H' fun σ2 H2 => tb { D with nx := N, ct := N, bk := D.nx } σ2 H2) := by
  refine ⟨fun i m σ H => m = xs.length - i ∧ i ≤ xs.length ∧ Pv i σ H, ⟨xs.length, by simp, Nat.zero_le _, h0⟩, ?_⟩
  rintro i m σ H ⟨rfl, hi, p⟩
  have q := hl i σ H hi p
  by_cases hlt : i < xs.length
  · refine .inr ⟨⟨xs, xs[i], q, by simp [hlt]⟩, Pv (i + 1), fun σ' H' p' => ⟨xs.length - (i + 1), by omega, rfl, hlt, p'⟩, fun x H' y => ?_⟩
    obtain ⟨e, y⟩ := y
    subst e
    exact hs i x σ _ (y xs q) p
  · have e : i = xs.length := by omega
    subst e
    exact .inl ⟨⟨xs, q, Nat.le_refl _⟩, hd σ H p⟩
theorem for_range {lo : Int} {n : Nat} {g : TG} {tb : TS} {D : Ends} {σ : St} {H : Hp} (Pv : Nat → St → Hp → Prop) (h0 : Pv 0 σ H)
    (hs : ∀ i σ H, i < n → Pv i σ H → g (.int (lo + i)) σ H fun σ2 H2 => tb { D with nx := Pv (i + 1), ct := Pv (i + 1), bk := D.nx } σ2 H2) (hd : ∀ σ H, Pv n σ H → D.nx σ H) :
    ∃ W : Nat → Nat → St → Hp → Prop, (∃ m, W 0 m σ H) ∧ ∀ i m σ H, W i m σ H →
      ((Itr lo n).stop i H ∧ D.nx σ H) ∨ ((Itr lo n).go i H ∧ ∃ N : St → Hp → Prop, (∀ σ' H', N σ' H' → ∃ m', m' < m ∧ W (i + 1) m' σ' H') ∧ ∀ x H', (Itr lo n).yld i H x H' → g x σ H' fun σ2 H2 => tb { D with nx := N, ct := N, bk := D.nx } σ2 H2) := by
  refine ⟨fun i m σ H => m = n - i ∧ i ≤ n ∧ Pv i σ H, ⟨n, by simp, Nat.zero_le _, h0⟩, ?_⟩
  rintro i m σ H ⟨rfl, hi, p⟩
  by_cases hlt : i < n
  · refine .inr ⟨hlt, Pv (i + 1), fun σ' H' p' => ⟨n - (i + 1), by omega, rfl, hlt, p'⟩, fun x H' y => ?_⟩
    obtain ⟨e, y⟩ := y
    subst e y
    exact hs i σ _ hlt p
  · have e : i = n := by omega
    subst e
    exact .inl ⟨Nat.le_refl _, hd σ H p⟩
end L2

namespace L2
open PySem PySem.Spec PyProof.Rows

abbrev R2 := V → V → Hp → VK → Prop
/-- a two-place operation on values: f is binaryOp op, inplaceOp op or compareOp op -/
structure OpR (X : Cx) (f : Value → Value → Sem Value) (r : R2) : Prop where
  mk ::
  go :
  ∀ (pins : List (Addr × Obj)) (s : Shared) (σ : St) (H : Hp) (x y : V) (v u : Value) (Q : VK), Inv X pins σ H s → RelV x v → RelV y u → r x y H Q →
    wpAny (model X.prog X.w) X.A (f v u) (EP X pins σ Q) X.xe s
instance {X : Cx} {f : Value → Value → Sem Value} {r : R2} : CoeFun (OpR X f r) (fun _ =>
  ∀ (pins : List (Addr × Obj)) (s : Shared) (σ : St) (H : Hp) (x y : V) (v u : Value) (Q : VK), Inv X pins σ H s → RelV x v → RelV y u → r x y H Q →
    wpAny (model X.prog X.w) X.A (f v u) (EP X pins σ Q) X.xe s) := ⟨OpR.go⟩
/-- a one-place operation -/
structure UnR (X : Cx) (f : Value → Sem Value) (r : V → Hp → VK → Prop) : Prop where
  mk ::
  go :
  ∀ (pins : List (Addr × Obj)) (s : Shared) (σ : St) (H : Hp) (x : V) (v : Value) (Q : VK), Inv X pins σ H s → RelV x v → r x H Q →
    wpAny (model X.prog X.w) X.A (f v) (EP X pins σ Q) X.xe s
instance {X : Cx} {f : Value → Sem Value} {r : V → Hp → VK → Prop} : CoeFun (UnR X f r) (fun _ =>
  ∀ (pins : List (Addr × Obj)) (s : Shared) (σ : St) (H : Hp) (x : V) (v : Value) (Q : VK), Inv X pins σ H s → RelV x v → r x H Q →
    wpAny (model X.prog X.w) X.A (f v) (EP X pins σ Q) X.xe s) := ⟨UnR.go⟩
/-- a call of a value that is known (a builtin, a type) with values -/
structure CallR (X : Cx) (f : Value) (r : List V → Hp → VK → Prop) : Prop where
  mk ::
  go :
  ∀ (pins : List (Addr × Obj)) (s : Shared) (σ : St) (H : Hp) (xs : List V) (us : List Value) (Q : VK), Inv X pins σ H s → Vals xs us → r xs H Q →
    wpAny (model X.prog X.w) X.A (call f us) (EP X pins σ Q) X.xe s
instance {X : Cx} {f : Value} {r : List V → Hp → VK → Prop} : CoeFun (CallR X f r) (fun _ =>
  ∀ (pins : List (Addr × Obj)) (s : Shared) (σ : St) (H : Hp) (xs : List V) (us : List Value) (Q : VK), Inv X pins σ H s → Vals xs us → r xs H Q →
    wpAny (model X.prog X.w) X.A (call f us) (EP X pins σ Q) X.xe s) := ⟨CallR.go⟩
def tOp (r : R2) (ta tb : TE) : TE := fun σ H Q => ta σ H fun x H1 => tb σ H1 fun y H2 => r x y H2 Q
def tUn (r : V → Hp → VK → Prop) (ta : TE) : TE := fun σ H Q => ta σ H fun x H1 => r x H1 Q
/-- ints in, under C, and a value out -/
def rI (C : Int → Int → Prop) (g : Int → Int → V) : R2 := fun x y H Q => ∃ i j, x = .int i ∧ y = .int j ∧ C i j ∧ Q (g i j) H
def rI0 (g : Int → Int → V) : R2 := fun x y H Q => ∃ i j, x = .int i ∧ y = .int j ∧ Q (g i j) H
def rU (g : Int → V) : V → Hp → VK → Prop := fun x H Q => ∃ i, x = .int i ∧ Q (g i) H

section
variable {X : Cx} {a b c : Expr} {ta tb tc : TE} {pos : Pos}

theorem binT (ha : PE X a ta) (hb : PE X b tb) {pins : List (Addr × Obj)} {s : Shared} {σ : St} {H : Hp} {R : V → V → Hp → Prop} (I : Inv X pins σ H s)
    (h : ta σ H fun x H1 => tb σ H1 fun y H2 => R x y H2) {Q : Value → Shared → Prop} {f : Value → Value → Sem Value}
    (hf : ∀ v u s2 x y H2, Inv X pins σ H2 s2 → RelV x v → RelV y u → R x y H2 → wpAny (model X.prog X.w) X.A (f v u) Q X.xe s2) :
    wpAny (model X.prog X.w) X.A (eval a X.env) (fun v s₁ => wpAny (model X.prog X.w) X.A (eval b X.env) (fun u s₂ => wpAny (model X.prog X.w) X.A (f v u) Q X.xe s₂) X.xe s₁) X.xe s := by
  refine thn (ha pins s σ H _ I h) fun v s1 ⟨x, H1, I1, r1, q1⟩ => ?_
  refine thn (hb pins s1 σ H1 _ I1 q1) fun u s2 ⟨y, H2, I2, r2, q2⟩ => ?_
  exact hf v u s2 x y H2 I2 r1 r2 q2

theorem pe_op {op : Operator} {r : R2} (ho : OpR X (binaryOp op) r) (ha : PE X a ta) (hb : PE X b tb) : PE X (.BinOp a op b pos) (tOp r ta tb) := by
  refine .mk ?_
  intro pins s σ H Q I h
  exact wpAny_BinOp (binT ha hb I h fun v u s2 x y H2 I2 rx ry q => ho pins s2 σ H2 x y v u Q I2 rx ry q)
theorem pe_un {op : UnaryOp} {r : V → Hp → VK → Prop} (ho : UnR X (unaryOp op) r) (ha : PE X a ta) : PE X (.UnaryOp op a pos) (tUn r ta) := by
  refine .mk ?_
  intro pins s σ H Q I h
  exact UnaryOp_ (thn (ha pins s σ H _ I h) fun v s1 ⟨x, H1, I1, r1, q1⟩ => ho pins s1 σ H1 x v Q I1 r1 q1)
/-! ### ints -/
theorem opI {f : Value → Value → Sem Value} {C : Int → Int → Prop} {g : Int → Int → Int}
    (rule : ∀ (i j : Int) (t u : Tok) (s : Shared) (Q : Value → Shared → Prop) (E : Value → Shared → Prop), C i j → Q (.int (g i j) s.toks) { s with toks := s.toks + 1 } → wpAny (model X.prog X.w) X.A (f (.int i t) (.int j u)) Q E s) :
    OpR X f (rI C fun i j => .int (g i j)) := by
  refine .mk ?_
  intro pins s σ H x y v u Q I rx ry h
  obtain ⟨i, j, rfl, rfl, hc, q⟩ := h
  obtain ⟨t, rfl⟩ := rx
  obtain ⟨t', rfl⟩ := ry
  exact rule i j t t' s _ _ hc ⟨.int (g i j), H, I.tok _, ⟨_, rfl⟩, q⟩
theorem opI0 {f : Value → Value → Sem Value} {g : Int → Int → Int}
    (rule : ∀ (i j : Int) (t u : Tok) (s : Shared) (Q : Value → Shared → Prop) (E : Value → Shared → Prop), Q (.int (g i j) s.toks) { s with toks := s.toks + 1 } → wpAny (model X.prog X.w) X.A (f (.int i t) (.int j u)) Q E s) :
    OpR X f (rI0 fun i j => .int (g i j)) := by
  refine .mk ?_
  intro pins s σ H x y v u Q I rx ry h
  obtain ⟨i, j, rfl, rfl, q⟩ := h
  obtain ⟨t, rfl⟩ := rx
  obtain ⟨t', rfl⟩ := ry
  exact rule i j t t' s _ _ ⟨.int (g i j), H, I.tok _, ⟨_, rfl⟩, q⟩
theorem opB0 {f : Value → Value → Sem Value} {g : Int → Int → Bool}
    (rule : ∀ (i j : Int) (t u : Tok) (s : Shared) (Q : Value → Shared → Prop) (E : Value → Shared → Prop), Q (.bool (g i j)) s → wpAny (model X.prog X.w) X.A (f (.int i t) (.int j u)) Q E s) :
    OpR X f (rI0 fun i j => .bl (g i j)) := by
  refine .mk ?_
  intro pins s σ H x y v u Q I rx ry h
  obtain ⟨i, j, rfl, rfl, q⟩ := h
  obtain ⟨t, rfl⟩ := rx
  obtain ⟨t', rfl⟩ := ry
  exact rule i j t t' s _ _ ⟨.bl (g i j), H, I, rfl, q⟩

def CDiv (i j : Int) : Prop := 0 < j ∧ j < 1073741824
def CPow (i j : Int) : Prop := 0 ≤ j ∧ j ≤ 1000000 ∧ i.natAbs < 2 ^ 64
def CMul (i j : Int) : Prop := (-(2 ^ 64) < i ∧ i < 2 ^ 64) ∨ (-(2 ^ 64) < j ∧ j < 2 ^ 64)
theorem CMul.ok {i j : Int} (h : CMul i j) : IntMulOk i j := by
  rcases h with ⟨h1, h2⟩ | ⟨h1, h2⟩
  · exact .of_left (intBits_le_64 h1 h2)
  · exact .of_right (intBits_le_64 h1 h2)
theorem op_add : OpR X (binaryOp .Add) (rI0 fun i j => .int (i + j)) := opI0 fun _ _ _ _ _ _ _ q => add_int q
theorem op_sub : OpR X (binaryOp .Sub) (rI0 fun i j => .int (i - j)) := opI0 fun _ _ _ _ _ _ _ q => sub_int q
theorem op_mul : OpR X (binaryOp .Mult) (rI CMul fun i j => .int (i * j)) := opI fun _ _ _ _ _ _ _ hc q => mul_int q hc.ok
/-- // by a positive divisor -/
theorem op_fdiv : OpR X (binaryOp .FloorDiv) (rI CDiv fun i j => .int (i / j)) := opI fun i j _ _ _ _ _ hc q => by
  have h1 : (0 : Int) < j := hc.1
  have h2 : j < 1073741824 := hc.2
  exact floordiv_int (by omega) (by rw [Int.fdiv_eq_ediv_of_nonneg i (by omega)]; exact q) (.inl (PyProof.noPylong_small (by omega)))
/-- % by a positive divisor of any size -/
theorem op_mod : OpR X (binaryOp .Mod) (rI (fun _ j => 0 < j) fun i j => .int (i % j)) := opI fun i j _ _ _ _ _ hc q => by
  have h1 : (0 : Int) < j := hc
  exact mod_int' (by omega) (by rw [Int.fmod_eq_emod_of_nonneg i (by omega)]; exact q)
theorem op_pow : OpR X (binaryOp .Pow) (rI CPow fun i j => .int (i ^ j.toNat)) := opI fun _ _ _ _ _ _ _ hc q => pow_int_small hc.1 hc.2.1 hc.2.2 q
theorem unI {f : Value → Sem Value} {g : Int → Int}
    (rule : ∀ (i : Int) (t : Tok) (s : Shared) (Q : Value → Shared → Prop) (E : Value → Shared → Prop), Q (.int (g i) s.toks) { s with toks := s.toks + 1 } → wpAny (model X.prog X.w) X.A (f (.int i t)) Q E s) :
    UnR X f (rU fun i => .int (g i)) := by
  refine .mk ?_
  intro pins s σ H x v Q I rx h
  obtain ⟨i, rfl, q⟩ := h
  obtain ⟨t, rfl⟩ := rx
  exact rule i t s _ _ ⟨.int (g i), H, I.tok _, ⟨_, rfl⟩, q⟩
theorem un_neg : UnR X (unaryOp .USub) (rU fun i => .int (-i)) := unI fun _ _ _ _ _ q => neg_int q
/-! ### bools among ints: n += (a < b) -/
end

/-! ### comparisons -/
/-- the scalars that == tells apart as data does -/
def scal : V → V → Bool
  | .non, .non => true | .non, .int _ => true | .int _, .non => true | .non, .bl _ => true | .bl _, .non => true | .non, .str _ => true | .str _, .non => true
  | .int _, .int _ => true | .bl _, .bl _ => true | .str _, .str _ => true | .byt _, .byt _ => true
  | .int _, .str _ => true | .str _, .int _ => true | .bl _, .str _ => true | .str _, .bl _ => true
  | _, _ => false
def rEq : R2 := fun x y H Q => scal x y = true ∧ Q (.bl (decide (x = y))) H
def rNe : R2 := fun x y H Q => scal x y = true ∧ Q (.bl (!decide (x = y))) H

theorem dec_int {i j : Int} : decide (V.int i = V.int j) = (i == j) := by
  rw [Bool.eq_iff_iff]
  simp
theorem dec_bl {i j : Bool} : decide (V.bl i = V.bl j) = (i == j) := by
  rw [Bool.eq_iff_iff]
  simp
theorem dec_str {i j : Str} : decide (V.str i = V.str j) = (i == j) := by
  rw [Bool.eq_iff_iff]
  simp
theorem dec_byt {i j : Array UInt8} : decide (V.byt i = V.byt j) = (i.toList == j.toList) := by
  rw [Bool.eq_iff_iff]
  cases i
  cases j
  simp

section
variable {X : Cx} {a b c : Expr} {ta tb tc : TE} {pos : Pos}
theorem fin_bl {pins : List (Addr × Obj)} {σ : St} {H : Hp} {s : Shared} {Q : VK} {k k' : Bool} (I : Inv X pins σ H s) (q : Q (.bl k) H) (e : k = k') : EP X pins σ Q (.bool k') s := by
  subst e
  exact ⟨.bl k, H, I, rfl, q⟩
theorem op_eq : OpR X (compareOp .Eq) rEq := by
  refine .mk ?_
  intro pins s σ H x y v u Q I rx ry h
  obtain ⟨hs, q⟩ := h
  cases x with
  | non =>
    cases rx
    cases y with
    | non => cases ry; exact PySem.EqNone.eq_none_none (fin_bl I q (by simp))
    | bl j => cases ry; exact PySem.EqNone.eq_none_bool (fin_bl I q (by simp))
    | int j => obtain ⟨t', rfl⟩ := ry; exact PySem.EqNone.eq_none_int (fin_bl I q (by simp))
    | str j => obtain ⟨t', rfl⟩ := ry; exact PySem.EqNone.eq_none_str (fin_bl I q (by simp))
    | _ => exact absurd (show false = true from hs) Bool.false_ne_true
  | bl i =>
    cases rx
    cases y with
    | non => cases ry; exact PySem.EqNone.eq_bool_none (fin_bl I q (by simp))
    | bl j => cases ry; exact eq_bool (fin_bl I q dec_bl)
    | str j => obtain ⟨t', rfl⟩ := ry; exact PySem.EqMixed.eq_bool_str (fin_bl I q (by simp))
    | _ => exact absurd (show false = true from hs) Bool.false_ne_true
  | int i =>
    obtain ⟨t, rfl⟩ := rx
    cases y with
    | non => cases ry; exact PySem.EqNone.eq_int_none (fin_bl I q (by simp))
    | int j => obtain ⟨t', rfl⟩ := ry; exact eq_int (fin_bl I q dec_int)
    | str j => obtain ⟨t', rfl⟩ := ry; exact PySem.EqMixed.eq_int_str (fin_bl I q (by simp))
    | _ => exact absurd (show false = true from hs) Bool.false_ne_true
  | str i =>
    obtain ⟨t, rfl⟩ := rx
    cases y with
    | non => cases ry; exact PySem.EqNone.eq_str_none (fin_bl I q (by simp))
    | bl j => cases ry; exact PySem.EqMixed.eq_str_bool (fin_bl I q (by simp))
    | int j => obtain ⟨t', rfl⟩ := ry; exact PySem.EqMixed.eq_str_int (fin_bl I q (by simp))
    | str j => obtain ⟨t', rfl⟩ := ry; exact eq_str (fin_bl I q dec_str)
    | _ => exact absurd (show false = true from hs) Bool.false_ne_true
  | byt i =>
    obtain ⟨t, rfl⟩ := rx
    cases y with
    | byt j => obtain ⟨t', rfl⟩ := ry; exact PySem.W.eq_bytes (fin_bl I q dec_byt)
    | _ => exact absurd (show false = true from hs) Bool.false_ne_true
  | _ => cases y <;> exact absurd (show false = true from hs) Bool.false_ne_true
theorem op_ne : OpR X (compareOp .NotEq) rNe := by
  refine .mk ?_
  intro pins s σ H x y v u Q I rx ry h
  obtain ⟨hs, q⟩ := h
  cases x with
  | non =>
    cases rx
    cases y with
    | non => cases ry; exact PySem.EqNone.ne_none_none (fin_bl I q (by simp))
    | bl j => cases ry; exact PySem.EqNone.ne_none_bool (fin_bl I q (by simp))
    | int j => obtain ⟨t', rfl⟩ := ry; exact PySem.EqNone.ne_none_int (fin_bl I q (by simp))
    | str j => obtain ⟨t', rfl⟩ := ry; exact PySem.EqNone.ne_none_str (fin_bl I q (by simp))
    | _ => exact absurd (show false = true from hs) Bool.false_ne_true
  | bl i =>
    cases rx
    cases y with
    | non => cases ry; exact PySem.EqNone.ne_bool_none (fin_bl I q (by simp))
    | bl j => cases ry; exact ne_bool (fin_bl I q (congrArg not dec_bl))
    | str j => obtain ⟨t', rfl⟩ := ry; exact PySem.EqMixed.ne_bool_str (fin_bl I q (by simp))
    | _ => exact absurd (show false = true from hs) Bool.false_ne_true
  | int i =>
    obtain ⟨t, rfl⟩ := rx
    cases y with
    | non => cases ry; exact PySem.EqNone.ne_int_none (fin_bl I q (by simp))
    | int j => obtain ⟨t', rfl⟩ := ry; exact ne_int (fin_bl I q (congrArg not dec_int))
    | str j => obtain ⟨t', rfl⟩ := ry; exact PySem.EqMixed.ne_int_str (fin_bl I q (by simp))
    | _ => exact absurd (show false = true from hs) Bool.false_ne_true
  | str i =>
    obtain ⟨t, rfl⟩ := rx
    cases y with
    | non => cases ry; exact PySem.EqNone.ne_str_none (fin_bl I q (by simp))
    | bl j => cases ry; exact PySem.EqMixed.ne_str_bool (fin_bl I q (by simp))
    | int j => obtain ⟨t', rfl⟩ := ry; exact PySem.EqMixed.ne_str_int (fin_bl I q (by simp))
    | str j => obtain ⟨t', rfl⟩ := ry; exact ne_str (fin_bl I q (congrArg not dec_str))
    | _ => exact absurd (show false = true from hs) Bool.false_ne_true
  | byt i =>
    obtain ⟨t, rfl⟩ := rx
    cases y with
    | byt j => obtain ⟨t', rfl⟩ := ry; exact PySem.W.ne_bytes (fin_bl I q (congrArg not dec_byt))
    | _ => exact absurd (show false = true from hs) Bool.false_ne_true
  | _ => cases y <;> exact absurd (show false = true from hs) Bool.false_ne_true

theorem op_lt : OpR X (compareOp .Lt) (rI0 fun i j => .bl (decide (i < j))) := opB0 fun _ _ _ _ _ _ _ q => lt_int q
theorem op_le : OpR X (compareOp .LtE) (rI0 fun i j => .bl (decide (i ≤ j))) := opB0 fun _ _ _ _ _ _ _ q => le_int q
theorem op_gt : OpR X (compareOp .Gt) (rI0 fun i j => .bl (decide (j < i))) := opB0 fun _ _ _ _ _ _ _ q => gt_int q
theorem op_ge : OpR X (compareOp .GtE) (rI0 fun i j => .bl (decide (j ≤ i))) := opB0 fun _ _ _ _ _ _ _ q => ge_int q
theorem op_notN : OpR X (compareOp .IsNot) (fun x y H Q => y = .non ∧ Q (.bl (!decide (x = .non))) H) := by
  refine .mk ?_
  intro pins s σ H x y v u Q I rx ry h
  obtain ⟨rfl, q⟩ := h
  cases ry
  refine isnot_none_gen (fin_bl I q ?_)
  cases x <;> first
    | (cases rx; rfl)
    | (obtain ⟨t, rfl⟩ := rx; rfl)

/-- two rules for one operation: by cases -/
theorem OpR.or {f : Value → Value → Sem Value} {r r' : R2} (h : OpR X f r) (h' : OpR X f r') : OpR X f (fun x y H Q => r x y H Q ∨ r' x y H Q) := by
  refine .mk ?_
  intro pins s σ H x y v u Q I rx ry q
  rcases q with q | q
  · exact h pins s σ H x y v u Q I rx ry q
  · exact h' pins s σ H x y v u Q I rx ry q

theorem nomark (b : Expr) {op : CmpOp} (h : op ≠ .In := by decide) (h2 : op ≠ .NotIn := by decide) : behindInMarks op b = false := by
  have e1 : (op == CmpOp.In) = false := by cases op <;> first | rfl | exact absurd rfl h
  have e2 : (op == CmpOp.NotIn) = false := by cases op <;> first | rfl | exact absurd rfl h2
  cases b <;> simp [behindInMarks, e1, e2]
/-- a comparison as a value; hm: nomark b, or (for in, not in) by with_unfolding_all rfl -/
theorem pe_cmpR {op : CmpOp} {r : R2} (ho : OpR X (compareOp op) r) (ha : PE X a ta) (hb : PE X b tb) (hm : behindInMarks op b = false) : PE X (.Compare a [op] [b] pos) (tOp r ta tb) := by
  refine .mk ?_
  intro pins s σ H Q I h
  exact wpAny_Compare1 (binT ha hb I h fun v u s2 x y H2 I2 rx ry q => ho pins s2 σ H2 x y v u Q I2 rx ry q) hm
/-- a reading of a value as a test -/
def tTest (t : TE) : TT := fun σ H Q => t σ H fun x H' => ∃ k, x = .bl k ∧ Q k H'
theorem pt_cmpR {op : CmpOp} {r : R2} (ho : OpR X (compareOp op) r) (ha : PE X a ta) (hb : PE X b tb) (hm : behindInMarks op b = false) : PT X (.Compare a [op] [b] pos) (tTest (tOp r ta tb)) := by
  refine .mk ?_
  intro pins s σ H Q I h
  refine wpAny_isTrue_Compare1 (thn (ha pins s σ H _ I h) fun v s1 ⟨x, H1, I1, r1, q1⟩ => thn (hb pins s1 σ H1 _ I1 q1) fun u s2 ⟨y, H2, I2, r2, q2⟩ =>
    thn (ho pins s2 σ H2 x y v u _ I2 r1 r2 q2) fun c s3 ⟨z, H3, I3, r3, k, e, q3⟩ => ?_) hm
  subst e
  cases r3
  exact wpAny_truthy_bool ⟨H3, I3, q3⟩
/-- a op1 b op2 c -/
def tChain (r r' : R2) (ta tb tc : TE) : TE := fun σ H Q => ta σ H fun x H1 => tb σ H1 fun y H2 => r x y H2 fun z H3 => ∃ k, z = .bl k ∧
  (if k = true then tc σ H3 fun w' H4 => r' y w' H4 Q else Q (.bl false) H3)
theorem pt_chain {op op' : CmpOp} {r r' : R2} (ho : OpR X (compareOp op) r) (ho' : OpR X (compareOp op') r') (ha : PE X a ta) (hb : PE X b tb) (hc : PE X c tc)
    (hm : lastMarks [op, op'] [b, c] = false := by with_unfolding_all rfl) : PT X (.Compare a [op, op'] [b, c] pos) (tTest (tChain r r' ta tb tc)) := by
  refine .mk ?_
  intro pins s σ H Q I h
  refine isTrue_chain (thn (ha pins s σ H _ I h) fun v s1 ⟨x, H1, I1, r1, q1⟩ => test_link (thn (hb pins s1 σ H1 _ I1 q1) fun u s2 ⟨y, H2, I2, r2, q2⟩ =>
    thn (ho pins s2 σ H2 x y v u _ I2 r1 r2 q2) fun d s3 ⟨z, H3, I3, r3, k, e, q3⟩ => ?_)) hm
  subst e
  cases r3
  refine wpAny_truthy_bool ?_
  cases k with
  | false =>
    obtain ⟨k', e', q'⟩ := q3
    cases e'
    exact ite_ff ⟨H3, I3, q'⟩
  | true =>
    refine ite_tt (test_last (thn (hc pins s3 σ H3 _ I3 q3) fun w' s4 ⟨z', H4, I4, r4, q4⟩ => thn (ho' pins s4 σ H4 y z' u w' _ I4 r2 r4 q4) fun d' s5 ⟨z2, H5, I5, r5, k2, e2, q5⟩ => ?_))
    subst e2
    cases r5
    exact wpAny_truthy_bool ⟨H5, I5, q5⟩

/-! ### truth -/
/-- a value's truth by the abstract heap -/
def TruV (K : PySem.W.Frag) (x : V) (H : Hp) (k : Bool) : Prop :=
  match x with
  | .non => k = false
  | .bl b => k = b
  | .int i => k = (i != 0)
  | .str y => y.length ≤ sizeLine ∧ k = ((y.length : Int) != 0)
  | .byt y => y.size ≤ sizeLine ∧ k = ((y.size : Int) != 0)
  | .ref p => (∃ xs, SqL K H p xs ∧ k = !xs.isEmpty) ∨ (∃ xs, SqT K H p xs ∧ k = !xs.isEmpty) ∨ ∃ kvs, H p = some (.dK kvs) ∧ k = !kvs.isEmpty
  | _ => False
theorem line63 : (sizeLine : Nat) < 2 ^ 63 := by rw [sizeLine_eq]; decide
/-! ### strs and bytes -/
/-! ### scalar builtins, by CallR -/
theorem vals1 {x : V} {us : List Value} (r : Vals [x] us) : ∃ u, us = [u] ∧ RelV x u := by
  cases r with
  | cons r1 r2 => cases r2; exact ⟨_, rfl, r1⟩
theorem vals2 {x y : V} {us : List Value} (r : Vals [x, y] us) : ∃ u w', us = [u, w'] ∧ RelV x u ∧ RelV y w' := by
  cases r with
  | cons r1 r2 =>
    cases r2 with
    | cons r3 r4 => cases r4; exact ⟨_, _, rfl, r1, r3⟩
theorem call_abs : CallR X (.builtin "abs") (fun xs H Q => ∃ i, xs = [.int i] ∧ Q (.int (if i < 0 then -i else i)) H) := by
  refine .mk ?_
  intro pins s σ H xs us Q I r h
  obtain ⟨i, rfl, q⟩ := h
  obtain ⟨u, rfl, t, rfl⟩ := vals1 r
  exact call_abs_int fun u tk => ⟨.int (if i < 0 then -i else i), H, I.tok _, ⟨_, rfl⟩, q⟩
theorem call_max2 (hc : X.calm = true) : CallR X (.builtin "max") (fun xs H Q => ∃ i j, xs = [.int i, .int j] ∧ Q (.int (if j > i then j else i)) H) := by
  refine .mk ?_
  intro pins s σ H xs us Q I r h
  obtain ⟨i, j, rfl, q⟩ := h
  obtain ⟨u, w', rfl, ⟨t, rfl⟩, ⟨t', rfl⟩⟩ := vals2 r
  refine max_two_ints (I.ok.hd hc) fun h' tk k => ⟨_, H, I.kept k, ?_, q⟩
  by_cases hj : j > i
  · rw [if_pos hj, if_pos hj]; exact ⟨_, rfl⟩
  · rw [if_neg hj, if_neg hj]; exact ⟨_, rfl⟩
theorem call_min2 (hc : X.calm = true) : CallR X (.builtin "min") (fun xs H Q => ∃ i j, xs = [.int i, .int j] ∧ Q (.int (if j < i then j else i)) H) := by
  refine .mk ?_
  intro pins s σ H xs us Q I r h
  obtain ⟨i, j, rfl, q⟩ := h
  obtain ⟨u, w', rfl, ⟨t, rfl⟩, ⟨t', rfl⟩⟩ := vals2 r
  refine min_two_ints (I.ok.hd hc) fun h' tk k => ⟨_, H, I.kept k, ?_, q⟩
  by_cases hj : j < i
  · rw [if_pos hj, if_pos hj]; exact ⟨_, rfl⟩
  · rw [if_neg hj, if_neg hj]; exact ⟨_, rfl⟩
end
end L2

namespace L2
open PySem PySem.Spec PyProof.Rows

/-! ### an instance, its attributes a map -/
structure ObjM (h : Heap) (x dx C : Addr) (mA : Str → Option Value) : Prop where
  obj : h.get? x = some (PySem.W.instObj C dx)
  ns : h.Ns1 dx mA
  ne : dx ≠ x

theorem lookIn_ns {h : Heap} {dx : Addr} {mA : Str → Option Value} (n : h.Ns1 dx mA) : ∃ od, h.get? dx = some od ∧ ∀ name, PySem.W.lookIn name od = some (mA name) := by
  obtain ⟨o, es, ep, ho, hd, hk, _, hm⟩ := n
  refine ⟨o, ho, fun name => ?_⟩
  have e := hm name
  unfold nsFind findBy at e
  rw [← Array.find?_toList] at e
  unfold PySem.W.lookIn
  rw [hd]
  dsimp only
  split
  · rename_i y q
    rw [q] at e
    exact congrArg some e
  · rename_i q
    rw [q] at e
    have a : es.toList.any (·.refKey) = false := by
      rw [List.any_eq_false]
      intro y hy
      obtain ⟨z, t, hkey⟩ := hk y (Array.mem_toList_iff.mp hy)
      simp [DictEntry.refKey, hkey]
    have a' : ¬ es.toList.any (·.refKey) = true := by rw [a]; exact Bool.false_ne_true
    rw [if_neg a']
    exact congrArg some e

theorem ObjM.look {h : Heap} {x dx C : Addr} {mA : Str → Option Value} (I : ObjM h x dx C mA) : ∃ od, PySem.W.InstAt h x (PySem.W.instObj C dx) C (some od) ∧ ∀ name, PySem.W.lookIn name od = some (mA name) :=
  let ⟨od, ho, hl⟩ := lookIn_ns I.ns
  ⟨od, ⟨I.obj, rfl, rfl, ho⟩, hl⟩

section
variable {prog : Program} {w : World} {A : Around} {E : Value → Shared → Prop} {s : Shared} {K : PySem.W.Frag} {x dx C f : Addr} {mA : Str → Option Value} {name : Str} {v : Value}

end

/-! ### the attributes as a list of pairs -/
theorem RelO.none_of {o : Option Value} (r : RelO none o) : o = none := by
  cases o with
  | none => rfl
  | some u => exact (show False from r).elim
section
variable {P : Program} {w : World} {H H' : Hp} {h h' : Heap} {a C dx : Addr} {fs fs' : List (Str × V)}
theorem ins_get (hok : HOk P w H h) (e : H a = some (.ins C dx fs)) : ∃ mA, ObjM h a dx C mA ∧ (∀ f, RelO (fs.lookup f) (mA f)) ∧ PySem.Within mA (fs.map (·.1)) ∧ fs.length ≤ 1000 ∧ H dx = some (.own a) := by
  obtain ⟨d, z, ne, ob, mA, n, r, q⟩ := (show ObjOk P w H h a (.ins C dx fs) from hok a _ e)
  exact ⟨mA, ⟨ob, n, ne⟩, r, q, z, d⟩
end

/-! ### what of the text a class must have -/
structure Cls (K : PySem.W.Frag) (C : Addr) : Prop where
  pg : PySem.W.plainGet K C Str.empty = true
  hd : PySem.W.hasDictIn K C = true
  po : PySem.W.plainOver K C = true
  sa : PySem.W.findIn K (.ref C) "__setattr__" = some (some (.builtin "object.__setattr__"))
theorem Cls.get {K : PySem.W.Frag} {C : Addr} (c : Cls K C) (f : Str) : PySem.W.plainGet K C f = true := c.pg
/-- a constant of the class -/
structure Con (K : PySem.W.Frag) (C : Addr) (f : Str) (v : V) (u : Value) : Prop where
  at_ : PySem.W.findIn K (.ref C) f = some (some u)
  rel : RelV v u
  get : PySem.W.specialIn K u "__get__" = some none
  cp : PySem.W.copiedNames.contains f = false
/-- a method: a plain def of the class or of one above it -/
structure Meth (K : PySem.W.Frag) (C : Addr) (m : Str) (f : Addr) : Prop where
  at_ : PySem.W.findIn K (.ref C) m = some (some (.ref f))
  fn : PySem.W.isFn K (.ref f) = true
  kp : PySem.W.keepIn K (.ref f) = true

section
variable {X : Cx} {pins : List (Addr × Obj)} {σ : St} {H : Hp} {s : Shared} {a C dx : Addr} {fs : List (Str × V)} {f : Str} {v : V} {A : Around} {E : Value → Shared → Prop}

/-- a new instance, tracked, without attributes -/
theorem Inv.made (I : Inv X pins σ H s) : Inv X pins σ (upd (upd H s.heap.objs.size (.own (s.heap.objs.size + 1))) (s.heap.objs.size + 1) (.ins C s.heap.objs.size []))
    { s with heap := (s.heap.push PySem.W.emptyDict).push (PySem.W.instObj C s.heap.objs.size) } := by
  have e1 : (s.heap.push PySem.W.emptyDict).get? s.heap.objs.size = some PySem.W.emptyDict := Heap.get?_push_size s.heap rfl
  have e2 : ((s.heap.push PySem.W.emptyDict).push (PySem.W.instObj C s.heap.objs.size)).get? (s.heap.objs.size + 1) = some (PySem.W.instObj C s.heap.objs.size) := by
    have := Heap.get?_push_size (s.heap.push PySem.W.emptyDict) (o := PySem.W.instObj C s.heap.objs.size) rfl
    rwa [Heap.size_push] at this
  have e3 : (s.heap.push PySem.W.emptyDict).Ns s.heap.objs.size (fun _ => none) := ⟨PySem.W.emptyDict, #[], _, e1, rfl, (fun e he => absurd he (by simp)), fun _ => rfl⟩
  have I1 := I.laid (a := s.heap.objs.size) (o := .own (s.heap.objs.size + 1)) (h' := s.heap.push PySem.W.emptyDict) (t' := s.toks) (fun b u q => Heap.get?_push_of_some _ q) (Nat.le_refl _) ⟨_, e1⟩
  refine I1.laid (a := s.heap.objs.size + 1) (o := .ins C s.heap.objs.size []) (t' := s.toks) (fun b u q => Heap.get?_push_of_some _ q) (Nat.le_of_eq (Heap.size_push _ _)) ?_
  have ne : s.heap.objs.size ≠ s.heap.objs.size + 1 := Nat.ne_of_lt (Nat.lt_succ_self _)
  refine ⟨by rw [upd_ne ne, upd_same], Nat.zero_le _, ne, e2, fun _ => none, (Heap.Ns1.of_empty e3).at fun o q => Heap.get?_push_of_some _ q, fun _ => True.intro, fun y hy => absurd rfl hy⟩

end

/-! ### readings and rules -/
section
variable {X : Cx} {o e value : Expr} {f : Str} {pos pos' tpos : Pos} {ta tv : TE}
end

/-! ### isinstance -/
section
variable {X : Cx} {pins : List (Addr × Obj)} {σ : St} {H : Hp} {s : Shared} {A : Around} {E : Value → Shared → Prop} {Q : Value → Shared → Prop} {c : Value} {b : Bool}
/-- the type of a value, as the fragment's deciders take it; for an instance its class -/
inductive TyOf (K : PySem.W.Frag) (H : Hp) : V → Value → Prop where
  | non : TyOf K H .non (.type "NoneType")
  | bl (x : Bool) : TyOf K H (.bl x) (.type "bool")
  | int (i : Int) : TyOf K H (.int i) (.type "int")
  | str (x : Str) : TyOf K H (.str x) (.type "str")
  | flt (x : UInt64) : TyOf K H (.flt x) (.type "float")
  | lst {a : Addr} {xs : List V} (e : H a = some (.lst xs)) : TyOf K H (.ref a) (.type "list")
  | frz {a : Addr} {o : Obj} {xs : List V} (e : H a = some (.frz o (.lst xs))) : TyOf K H (.ref a) (.type "list")
  | tup {a : Addr} {xs : List V} (e : H a = some (.tup xs)) : TyOf K H (.ref a) (.type "tuple")
  | dK {a : Addr} {kvs : List (Key × V)} (e : H a = some (.dK kvs)) : TyOf K H (.ref a) (.type "dict")
  | dT {a : Addr} {kvs : List (List Key × V)} (e : H a = some (.dT kvs)) : TyOf K H (.ref a) (.type "dict")
  | ins {a C dx : Addr} {fs : List (Str × V)} (e : H a = some (.ins C dx fs)) (cl : Cls K C) (ha : PySem.W.findIn K (.ref C) "__class__" = some (some (.builtin "object.__class__")))
      (hn : PySem.W.specialIn K (.builtin "object.__class__") "__get__" = some (some (.builtin "getset_descriptor.__get__"))) (htk : PySem.W.takesIn K (.builtin "object.__class__") = some true)
      (hm : PySem.W.mroIn K C (.type "object") = some true) : TyOf K H (.ref a) (.ref C)
/-- isinstance(x, c) for one class c, a built-in or an own one: kitOne's answer -/
theorem isinst_ok {x : V} {u t : Value} (I : Inv X pins σ H s) (rx : RelV x u) (ty : TyOf X.K H x t) (e : PySem.W.kitOne X.K t c = some b) (h : ∀ tk, Q (.bool b) { s with toks := tk }) :
    wpAny (model X.prog X.w) A (call (.builtin "isinstance") [u, c]) Q E s := by
  cases ty with
  | non => cases (show u = Value.none from rx); exact PySem.W.kia_one PySem.W.kitx_none I.kIn True.intro e (fun z => nomatch z) h
  | bl y => cases (show u = Value.bool y from rx); exact PySem.W.kia_one PySem.W.kitx_bool I.kIn True.intro e (fun z => nomatch z) h
  | int i => obtain ⟨t, q⟩ := (show ∃ t, u = Value.int i t from rx); cases q; exact PySem.W.kia_one PySem.W.kitx_int I.kIn True.intro e (fun z => nomatch z) h
  | str y => obtain ⟨t, q⟩ := (show ∃ t, u = Value.str y t from rx); cases q; exact PySem.W.kia_one PySem.W.kitx_str I.kIn True.intro e (fun z => nomatch z) h
  | flt y => obtain ⟨t, q⟩ := (show ∃ t, u = Value.float y t from rx); cases q; exact PySem.W.kia_one PySem.W.kitx_float I.kIn True.intro e (fun z => nomatch z) h
  | @lst a xs ea =>
    cases (show u = Value.ref a from rx)
    obtain ⟨_, _, n, _, h1⟩ := (show ObjOk X.prog X.w H s.heap a (.lst xs) from I.hok a _ ea)
    exact PySem.W.kia_one PySem.W.kitx_list I.kIn ⟨_, h1, rfl⟩ e (fun z => nomatch z) h
  | @frz a ob xs ea =>
    cases (show u = Value.ref a from rx)
    obtain ⟨_, _, _, n, _, h1⟩ := (show ObjOk X.prog X.w H s.heap a (.frz ob (.lst xs)) from I.hok a _ ea)
    exact PySem.W.kia_one PySem.W.kitx_list I.kIn ⟨_, h1, rfl⟩ e (fun z => nomatch z) h
  | @tup a xs ea =>
    cases (show u = Value.ref a from rx)
    obtain ⟨_, _, _, p⟩ := (show ObjOk X.prog X.w H s.heap a (.tup xs) from I.hok a _ ea)
    obtain ⟨o, h1, h2, _⟩ := p
    exact PySem.W.kia_one PySem.W.kitx_tuple I.kIn ⟨o, h1, h2⟩ e (fun z => nomatch z) h
  | @dK a kvs ea =>
    cases (show u = Value.ref a from rx)
    obtain ⟨_, _, vs, _, p⟩ := (show ObjOk X.prog X.w H s.heap a (.dK kvs) from I.hok a _ ea)
    obtain ⟨o, es, ep, h1, h2, _⟩ := p
    exact PySem.W.kia_one PySem.W.kitx_dict I.kIn ⟨o, h1, h2.1⟩ e (fun z => nomatch z) h
  | @dT a kvs ea =>
    cases (show u = Value.ref a from rx)
    obtain ⟨_, _, xs, _, o, es, ep, h1, h2, _⟩ := (show ObjOk X.prog X.w H s.heap a (.dT kvs) from I.hok a _ ea)
    exact PySem.W.kia_one PySem.W.kitx_dict I.kIn ⟨o, h1, h2.1⟩ e (fun z => nomatch z) h
  | @ins a C dx fs ea cl ha hn htk hm =>
    cases (show u = Value.ref a from rx)
    obtain ⟨mA, O, _⟩ := ins_get I.hok ea
    obtain ⟨od, J, _⟩ := O.look
    exact PySem.W.kia_one (PySem.W.kitx_own (cl.get _) cl.hd ha hn htk hm) I.kIn J e (fun z => nomatch z) h
end
end L2

namespace L2
open PySem PySem.Spec PyProof.Rows

/-! ### room -/
structure Room (k : Nat) (A : Around) : Prop where
  hd : A.handled = none
  dp : A.depth + 3 * k + 5 < recursionLimit
  un : A.units + 16 * k + 200 < cLine
  gd : A.guards = some []
theorem Room.mono {j k : Nat} {A : Around} (r : Room k A) (h : j ≤ k) : Room j A := ⟨r.hd, by have := r.dp; omega, by have := r.un; omega, r.gd⟩
theorem Room.deeper {k : Nat} {A : Around} (r : Room (k + 1) A) (env : Env) : Room k (A.deeper env) :=
  ⟨r.hd, by have := r.dp; show A.depth + 1 + 3 * k + 5 < _; omega, by have := r.un; show A.units + 3 + 16 * k + 200 < _; omega, by first | exact r.gd | (simpa [Around.deeper, Around.under, Code.guards, Code.isGuard, guardIds, pushGuards] using r.gd)⟩
theorem Room.in1 {k : Nat} {A : Around} (r : Room (k + 1) A) : Room k A.in1 :=
  ⟨r.hd, by have := r.dp; show A.depth + 3 * k + 5 < _; omega, by have := r.un; show A.units + 1 + 16 * k + 200 < _; omega, r.gd⟩
theorem make_depth {A : Around} {C : Addr} {us : List Value} {kw : List (Str × Value)} : (A.under (.builtin "type.__call__" ⟨.ref C :: us, kw⟩)).depth = A.depth + 1 := by
  first | rfl | simp [Around.under, Code.weight, Code.isCreation, Code.isGuard, Code.isCaller, Code.frames, Code.isFrame, guardIds]
theorem make_units {A : Around} {C : Addr} {us : List Value} {kw : List (Str × Value)} : (A.under (.builtin "type.__call__" ⟨.ref C :: us, kw⟩)).units = A.units + 1 := by
  first | rfl | simp [Around.under, Code.cUnits, Code.frames, Code.isFrame]
theorem Room.make {k : Nat} {A : Around} (r : Room (k + 1) A) (C : Addr) (us : List Value) (kw : List (Str × Value)) : Room k (A.under (.builtin "type.__call__" ⟨.ref C :: us, kw⟩)) :=
  ⟨r.hd, by have := r.dp; rw [make_depth]; omega, by have := r.un; rw [make_units]; omega, by first | exact r.gd | (simpa [Around.deeper, Around.under, Code.guards, Code.isGuard, guardIds, pushGuards] using r.gd)⟩
theorem Room.depth {k : Nat} {A : Around} (r : Room k A) : A.depth < recursionLimit := by have := r.dp; omega
theorem Room.units {k : Nat} {A : Around} (r : Room k A) : A.units + 64 < cLine := by have := r.un; omega
/-! ### argument lists and displays -/
def tNil : TA := fun _ H Q => Q [] H
def tCons (ta : TE) (tr : TA) : TA := fun σ H Q => ta σ H fun x H1 => tr σ H1 fun xs H2 => Q (x :: xs) H2
section
variable {X : Cx} {e : Expr} {es : List Expr} {te : TE} {t : TA} {pos : Pos}
theorem pa_nil : PA X [] tNil := .mk <| fun _ _ _ _ H Q I h => Calls.spliced_nil ⟨[], H, I, .nil, h⟩
theorem pa_cons (ha : PE X e te) (hr : PA X es t) (hs : starEach (e :: es) X.env = (false, eval e X.env) :: starEach es X.env := by rfl) : PA X (e :: es) (tCons te t) := by
  refine .mk ?_
  intro pos pins s σ H Q I h
  rw [hs]
  show wpAny _ _ (spliced ((false, eval e X.env) :: backTo pos (starEach es X.env))) _ _ s
  refine Calls.spliced_cons (thn (ha pins s σ H _ I h) fun u s1 ⟨x, H1, I1, r1, q1⟩ => ?_)
  exact thn (hr pos pins s1 σ H1 _ I1 q1) fun us s2 ⟨xs, H2, I2, r2, q2⟩ => ⟨x :: xs, H2, I2, .cons r1 r2, q2⟩

/-- a tuple, a list of written items -/
def tTup (t : TA) : TE := fun σ H Q => t σ H fun xs H1 => xs.length ≤ sizeLine ∧ ∀ p, H1 p = none → Q (.ref p) (upd H1 p (.tup xs))
def tLst (t : TA) : TE := fun σ H Q => t σ H fun xs H1 => xs.length ≤ sizeLine ∧ ∀ p, H1 p = none → Q (.ref p) (upd H1 p (.lst xs))
theorem pe_tup {x1} (h : PA X es t) : PE X (.Tuple es x1 pos) (tTup t) := by
  refine .mk ?_
  intro pins s σ H Q I hq
  refine wpAny_Tuple_spliced (thn (h pos pins s σ H _ I hq) fun us s1 ⟨xs, H1, I1, r, z, q⟩ => ⟨by rw [← r.length]; exact z, ?_⟩)
  have hf : H1 s1.heap.objs.size = none := I1.hok.fresh (Nat.le_refl _)
  refine ⟨.ref s1.heap.objs.size, upd H1 s1.heap.objs.size (.tup xs), I1.laid (t' := s1.toks) (fun b u e => Heap.get?_push_of_some _ e) (Nat.le_refl _) ?_, rfl, q _ hf⟩
  exact ⟨z, us, r, ⟨_, Heap.get?_push_size _ rfl, rfl, _, rfl⟩⟩
theorem pe_lst (h : PA X es t) : PE X (.List es pos) (tLst t) := by
  refine .mk ?_
  intro pins s σ H Q I hq
  refine wpAny_List_spliced (thn (h pos pins s σ H _ I hq) fun us s1 ⟨xs, H1, I1, r, z, q⟩ => ⟨by rw [← r.length]; exact z, ?_⟩)
  have hf : H1 s1.heap.objs.size = none := I1.hok.fresh (Nat.le_refl _)
  refine ⟨.ref s1.heap.objs.size, upd H1 s1.heap.objs.size (.lst xs), I1.laid (t' := s1.toks) (fun b u e => Heap.get?_push_of_some _ e) (Nat.le_refl _) ?_, rfl, q _ hf⟩
  exact ⟨z, us, 0, r, Heap.get?_push_size _ rfl⟩
end

/-! ### what a def promises -/
/-- a def's promise: the bound arguments in the parameters' order, the heap, the wanted end, the wanted exception -/
abbrev Sp := List V → Hp → VK → XK → Prop
/-- how an exception lies behind a call (file 08 gives it): the callers' frames, abstract heap and state ahead of the call, the wish, the exception, the state -/
abbrev CXT := List Env → Hp → Shared → XK → Value → Shared → Prop

/-- the state at a call -/
structure Env0 (P : Program) (w : World) (K : PySem.W.Frag) (mg : Str → Option Value) (base : Heap) (A : Around) (outer : List Env) (s : Shared) (H : Hp) : Prop where
  frames : A.frames = some outer
  mod : Mod K mg base
  bs : ∀ b o, base.get? b = some o → s.heap.get? b = some o ∧ H b = none
  bsz : base.objs.size ≤ s.heap.objs.size
  funs : s.heap.FunFrames base outer
  frf : ∀ b ∈ frs outer, H b = none
  hok : HOk P w H s.heap
  bare : AllBare s.gens
/-- a call's end -/
def CE (outer : List Env) (P : Program) (w : World) (H : Hp) (s : Shared) (Q : VK) (u : Value) (s' : Shared) : Prop :=
  ∃ v H', s'.os = s.os ∧ AllBare s'.gens ∧ Un (frs outer) [] H H' s.heap s'.heap ∧ HOk P w H' s'.heap ∧ RelV v u ∧ Q v H'
def CR (CX : CXT) (outer : List Env) (P : Program) (w : World) (H : Hp) (s : Shared) (Q : VK) (E : XK) (r : Result) (s' : Shared) : Prop :=
  match r with
  | .ok (.ret u) => CE outer P w H s Q u s'
  | .ok _ => False
  | .error e => CX outer H s E e s'
structure FnOk (P : Program) (w : World) (K : PySem.W.Frag) (mg : Str → Option Value) (base : Heap) (CX : CXT) (k : Nat) (f : Addr) (fd : FuncData) (ps : List Str) (sp : Sp) : Prop where
  len : ∀ vs H Q E, sp vs H Q E → vs.length = ps.length
  run : ∀ (A : Around) (outer : List Env) (s : Shared) (H : Hp) (args : Args) (us : List Value) (vs : List V) (Q : VK) (E : XK), Room k A → Env0 P w K mg base A outer s H → BindsTo s fd args (ps.zip us) → Vals vs us → sp vs H Q E →
    codeAny (model P w) A (.call (.ref f) args) (CR CX outer P w H s Q E) s
theorem FnOk.mono {P : Program} {w : World} {K : PySem.W.Frag} {mg : Str → Option Value} {base : Heap} {CX : CXT} {j k : Nat} {f : Addr} {fd : FuncData} {ps : List Str} {sp : Sp} (F : FnOk P w K mg base CX j f fd ps sp) (h : j ≤ k) :
    FnOk P w K mg base CX k f fd ps sp := ⟨F.len, fun A outer s H args us vs Q E hr => F.run A outer s H args us vs Q E (hr.mono h)⟩
theorem Env0.make {P : Program} {w : World} {K : PySem.W.Frag} {mg : Str → Option Value} {base : Heap} {A : Around} {outer : List Env} {s : Shared} {H : Hp} (e : Env0 P w K mg base A outer s H) (C : Addr) (us : List Value) (kw : List (Str × Value)) :
    Env0 P w K mg base (A.under (.builtin "type.__call__" ⟨.ref C :: us, kw⟩)) outer s H := ⟨by first | exact e.frames | (simpa [Around.under, Code.envs, Code.isFrame, pushEnvs] using e.frames), e.mod, e.bs, e.bsz, e.funs, e.frf, e.hok, e.bare⟩
theorem Env0.in1 {P : Program} {w : World} {K : PySem.W.Frag} {mg : Str → Option Value} {base : Heap} {A : Around} {outer : List Env} {s : Shared} {H : Hp} (e : Env0 P w K mg base A outer s H) :
    Env0 P w K mg base A.in1 outer s H := ⟨e.frames, e.mod, e.bs, e.bsz, e.funs, e.frf, e.hok, e.bare⟩

section
variable {X : Cx} {pins : List (Addr × Obj)} {σ : St} {H : Hp} {s s' : Shared}
/-- from a body: what a callee wants -/
theorem Inv.env0 (I : Inv X pins σ H s) : Env0 X.prog X.w X.K X.mg X.base X.A X.stack s H :=
  ⟨I.ok.frames, I.ok.mod, I.bs, Nat.le_trans I.ok.bsz I.sz, I.stack, I.stkFree, I.hok, I.bare⟩
/-- behind a call -/
theorem Inv.after {Q : VK} {u : Value} (I : Inv X pins σ H s) (h : CE X.stack X.prog X.w H s Q u s') : EP X pins σ Q u s' := by
  obtain ⟨v, H', os, bare, un, hok, r, q⟩ := h
  obtain ⟨hh, g, d, t, os'⟩ := s'
  obtain rfl : os' = s.os := os
  exact ⟨v, H', I.call (h' := hh) (g' := g) (d' := d) (t' := t) (ch := []) un hok bare (fun b z => absurd z (by simp)), r, q⟩
end

/-! ### calls -/
/-- f(..): the written arguments, then the defaults dvs; E: what is wanted of an exception -/
def tCall (sp : Sp) (dvs : List V) (E : XK) (t : TA) : TE := fun σ H Q => t σ H fun vs H1 => sp (vs ++ dvs) H1 Q E
/-- how the parameters are bound: us the positional arguments, kw the keywords' values by name, ds the defaults that fill up -/
def Binds (K : PySem.W.Frag) (fd : FuncData) (ps : List Str) (ds : List Value) : Prop :=
  ∀ (s : Shared) (us : List Value), K.In s.heap → (us ++ ds).length = ps.length → BindsTo s fd ⟨us, []⟩ (ps.zip (us ++ ds))
/-- every parameter is given -/
theorem Binds.all {K : PySem.W.Frag} {fd : FuncData} {ps : List Str} (h : ∀ us : List Value, us.length = ps.length → bindArgs fd ⟨us, []⟩ = pure (ps.zip us)) : Binds K fd ps [] := fun s us _ hl => by
  rw [List.append_nil] at hl ⊢
  exact .of_eq (h us hl)

/-- an exception of a callee reaches what this body wants of exceptions -/
def Passes (CX : CXT) (X : Cx) (E : XK) : Prop := ∀ (pins : List (Addr × Obj)) (σ : St) (H : Hp) (s : Shared) (e : Value) (s' : Shared), Inv X pins σ H s → CX X.stack H s E e s' → X.xe e s'

section
variable {X : Cx} {CX : CXT} {k : Nat} {f C : Addr} {fd : FuncData} {ps : List Str} {sp : Sp} {dvs : List V} {ds : List Value} {E : XK} {x m : Str} {p pos apos : Pos} {e o : Expr} {es : List Expr} {ta : TE} {t : TA}

/-- the callee runs -/
theorem run_fn {pins : List (Addr × Obj)} {σ : St} {H : Hp} {s : Shared} {Q : VK} {us : List Value} {vs : List V} (F : FnOk X.prog X.w X.K X.mg X.base CX k f fd ps sp) (hr : Room k X.A) (hb : Binds X.K fd ps ds) (hd : Vals dvs ds) (hx : Passes CX X E)
    (I : Inv X pins σ H s) (r : Vals vs us) (h : sp (vs ++ dvs) H Q E) : wpAny (model X.prog X.w) X.A (call (.ref f) us) (EP X pins σ Q) X.xe s := by
  have r2 : Vals (vs ++ dvs) (us ++ ds) := r.append hd
  have hl : (us ++ ds).length = ps.length := by rw [← r2.length]; exact F.len _ _ _ _ h
  refine wpAny_call (codeAny_mono (F.run X.A X.stack s H ⟨us, []⟩ (us ++ ds) (vs ++ dvs) Q E hr I.env0 (hb s us I.kIn hl) r2 h) fun r s' hq => ?_)
  cases r with
  | error e => exact hx pins σ H s e s' I hq
  | ok fl =>
    cases fl with
    | ret u => exact I.after hq
    | next => exact False.elim hq
    | brk => exact False.elim hq
    | cont => exact False.elim hq

theorem pe_call (F : FnOk X.prog X.w X.K X.mg X.base CX k f fd ps sp) (hr : Room k X.A) (hg : Gl X x) (hm : X.mg x = some (.ref f)) (hk : PySem.W.keepIn X.K (.ref f) = true) (hb : Binds X.K fd ps ds) (hd : Vals dvs ds) (hx : Passes CX X E)
    (ha : PA X (e :: es) t) (hdb : (x == ("__debug__" : Str)) = false := by decide) (he : starEach (e :: es) X.env = (false, eval e X.env) :: starEach es X.env := by rfl) (hpl : (backTo pos (starEach es X.env)).any (·.1) = false := by rfl) :
    PE X (.Call (.Name x p) (e :: es) [] pos) (tCall sp dvs E t) := by
  refine .mk ?_
  intro pins s σ H Q I h
  refine wpAny_Call_Name_kw (ld_glob I hg hm ?_ hdb)
  refine PySem.W.callWith_K (h₀ := X.base) I.ok.mod.kin hk (thn (ha pos pins s σ H _ I h) fun us s1 ⟨vs, H1, I1, r, q⟩ => ⟨I1.kIn, ?_⟩) he hpl
  exact run_fn F hr hb hd hx I1 r q
/-- what a class must have to be made -/
structure Mk (K : PySem.W.Frag) (C f : Addr) : Prop where
  makes : PySem.W.makesIn K C = true
  init : PySem.W.findIn K (.ref C) "__init__" = some (some (.ref f))
  fn : PySem.W.isFn K (.ref f) = true
  kp : PySem.W.keepIn K (.ref C) = true

end

/-! ### keywords -/
/-- the values of the keywords, from the left -/
def PK (X : Cx) (kws : List Keyword) (t : TA) : Prop :=
  ∀ (pos : Pos) (pins : List (Addr × Obj)) (s : Shared) (σ : St) (H : Hp) (Q : List V → Hp → Prop), Inv X pins σ H s → t σ H Q → wpAny (model X.prog X.w) X.A (evalAll ((backToKw pos (keywordEach kws X.env)).map (·.2))) (AP X pins σ Q) X.xe s
section
variable {X : Cx} {CX : CXT} {k : Nat} {f C : Addr} {fd : FuncData} {ps ks : List Str} {sp : Sp} {E : XK} {x m : Str} {p pos apos kpos : Pos} {e o : Expr} {es : List Expr} {kws : List Keyword} {te ta : TE} {t tk : TA} {nm : Option Str}
theorem pk_nil : PK X [] tNil := fun _ _ _ _ H Q I h => wpAny_evalAll_nil ⟨[], H, I, .nil, h⟩
theorem pk_cons (ha : PE X e te) (hr : PK X kws t) : PK X (⟨nm, e, kpos⟩ :: kws) (tCons te t) := by
  intro pos pins s σ H Q I h
  show wpAny _ _ (evalAll ((do let v ← eval e X.env; standAt pos; pure v) :: (backToKw pos (keywordEach kws X.env)).map (·.2))) _ _ s
  refine wpAny_evalAll_cons (wpAny_bind (thn (ha pins s σ H _ I h) fun u s1 ⟨x, H1, I1, r1, q1⟩ => wpAny_bind (wpAny_standAt (wpAny_pure ?_))))
  exact thn (hr pos pins s1 σ H1 _ I1 q1) fun us s2 ⟨xs, H2, I2, r2, q2⟩ => ⟨x :: xs, H2, I2, .cons r1 r2, q2⟩

/-- how a call with keywords binds: g puts the positional values us and the keywords' values ws (names ks) in the parameters' order, defaults among them -/
structure KBinds (K : PySem.W.Frag) (fd : FuncData) (ps ks : List Str) (g : List Value → List Value → List Value) (gV : List V → List V → List V) : Prop where
  to : ∀ (s : Shared) (us ws : List Value), K.In s.heap → (g us ws).length = ps.length → BindsTo s fd ⟨us, ks.zip ws⟩ (ps.zip (g us ws))
  rel : ∀ {vs : List V} {us : List Value} {zs : List V} {ws : List Value}, Vals vs us → Vals zs ws → Vals (gV vs zs) (g us ws)
variable {g : List Value → List Value → List Value} {gV : List V → List V → List V}
end

/-! ### a def's body keeps its promise -/
/-- names: the parameters first -/
structure FnScope (N P : List Str) (sc : Scope) : Prop where
  kind : sc.kind = .function
  co : sc.isCoroutine = false
  gen : sc.isGenerator = false
  nd : N.Nodup
  pre : N.take P.length = P
  par : ∀ x ∈ P, sc.names.lookup x = some .local ∨ sc.names.lookup x = some .cell
  nofree : ∀ y ∈ sc.names, y.2 ≠ .free

theorem bindL_out {kindOf : Str → Option NameKind} {x : Str} : ∀ {binds : List (Str × Value)} {m : Str → Option Value}, (∀ v, (x, v) ∉ binds) → bindL kindOf binds m x = m x
  | [], _, _ => rfl
  | (n, v) :: r, m, h => by
    unfold bindL
    rw [bindL_out fun w hw => h w (List.mem_cons_of_mem _ hw)]
    split
    · have : x ≠ n := by rintro rfl; exact h v List.mem_cons_self
      simp [this]
    · rfl
theorem bindC_out {kindOf : Str → Option NameKind} {x : Str} : ∀ {binds : List (Str × Value)} {m : Str → Option Value}, (∀ v, (x, v) ∉ binds) → bindC kindOf binds m x = m x
  | [], _, _ => rfl
  | (n, v) :: r, m, h => by
    unfold bindC
    rw [bindC_out fun w hw => h w (List.mem_cons_of_mem _ hw)]
    split
    · rfl
    · have : x ≠ n := by rintro rfl; exact h v List.mem_cons_self
      simp [this]
theorem bindL_get {kindOf : Str → Option NameKind} {x : Str} {v : Value} : ∀ {P : List Str} {vs : List Value} {i : Nat} {m : Str → Option Value}, P.Nodup → P[i]? = some x → vs[i]? = some v → kindOf x = some .local →
    bindL kindOf (P.zip vs) m x = some v
  | [], _, _, _, _, h, _, _ => by simp at h
  | _ :: _, [], _, _, _, _, h, _ => by simp at h
  | p :: P, w :: vs, 0, m, nd, h1, h2, hk => by
    simp at h1 h2; subst h1; subst h2
    show bindL kindOf ((p, w) :: P.zip vs) m p = _
    unfold bindL
    rw [bindL_out fun v hv => (List.nodup_cons.mp nd).1 (List.of_mem_zip hv).1, if_pos hk]
    simp
  | p :: P, w :: vs, i + 1, m, nd, h1, h2, hk => by
    show bindL kindOf ((p, w) :: P.zip vs) m x = _
    unfold bindL
    exact bindL_get (i := i) (List.nodup_cons.mp nd).2 (by simpa using h1) (by simpa using h2) hk
theorem bindC_get {kindOf : Str → Option NameKind} {x : Str} {v : Value} : ∀ {P : List Str} {vs : List Value} {i : Nat} {m : Str → Option Value}, P.Nodup → P[i]? = some x → vs[i]? = some v → kindOf x ≠ some .local →
    bindC kindOf (P.zip vs) m x = some v
  | [], _, _, _, _, h, _, _ => by simp at h
  | _ :: _, [], _, _, _, _, h, _ => by simp at h
  | p :: P, w :: vs, 0, m, nd, h1, h2, hk => by
    simp at h1 h2; subst h1; subst h2
    show bindC kindOf ((p, w) :: P.zip vs) m p = _
    unfold bindC
    rw [bindC_out fun v hv => (List.nodup_cons.mp nd).1 (List.of_mem_zip hv).1, if_neg hk]
    simp
  | p :: P, w :: vs, i + 1, m, nd, h1, h2, hk => by
    show bindC kindOf ((p, w) :: P.zip vs) m x = _
    unfold bindC
    exact bindC_get (i := i) (List.nodup_cons.mp nd).2 (by simpa using h1) (by simpa using h2) hk

/-- the names' values at the entry -/
def start (N : List Str) (vs : List V) : St := vs.map some ++ List.replicate (N.length - vs.length) none

/-- the context of a def's body, at its entry; an exception leaves the frame, then lies as CX says -/
def cxOf (CX : CXT) (P : Program) (w : World) (K : PySem.W.Frag) (mg : Str → Option Value) (base : Heap) (N : List Str) (qual : Str) (scope : Scope) (f : Addr) (cd : Value) (A : Around) (outer : List Env) (s : Shared) (H : Hp) (E : XK) : Cx where
  prog := P
  w := w
  K := K
  mg := mg
  base := base
  A := A.deeper (envOfC qual scope s.heap.objs.size f cd)
  N := N
  s₀ := s
  H₀ := H
  env := envOfC qual scope s.heap.objs.size f cd
  outer := outer
  stack := envOfC qual scope s.heap.objs.size f cd :: outer
  ex := []
  calm := true
  fn := fun _ => true
  pn := []
  xe := fun e s' => wpAny (model P w) (A.deeper (envOfC qual scope s.heap.objs.size f cd)) (leaving (envOfC qual scope s.heap.objs.size f cd) e) (fun _ s'' => CX outer H s E e s'') (fun e' s'' => CX outer H s E e' s'') s'

theorem cell_has {sc : Scope} {n : Nat} {x : Str} (h : sc.names.lookup x = some .cell) : ∃ c, (cellsFrom n sc.names []).lookup x = some c := by
  have q := PySem.W.cellsFrom_some sc.names n [] (.inl h)
  exact Option.isSome_iff_exists.mp q

theorem inv_start {CX : CXT} {P : Program} {w : World} {K : PySem.W.Frag} {mg : Str → Option Value} {base : Heap} {N ps : List Str} {qual : Str} {scope : Scope} {f : Addr} {cd : Value} {A : Around} {outer : List Env} {s s1 : Shared} {H : Hp} {E : XK} {us : List Value} {vs : List V}
    (S : FnScope N ps scope) (hd : A.handled = none) (e0 : Env0 P w K mg base A outer s H) (hl : vs.length = ps.length) (r : Vals vs us)
    (x : InCallC s s.heap.objs.size (bindL (envOfC qual scope s.heap.objs.size f cd).kindOf (ps.zip us) fun _ => none) (cellsFrom (s.heap.objs.size + 1) scope.names []) (bindC (envOfC qual scope s.heap.objs.size f cd).kindOf (ps.zip us) fun _ => none) s1) :
    Inv (cxOf CX P w K mg base N qual scope f cd A outer s H E) [] (start N vs) H s1 := by
  have hpl : ps.length ≤ N.length := by have := congrArg List.length S.pre; rw [List.length_take] at this; omega
  obtain ⟨h1, tk, rfl, hk⟩ := x.done
  have noA : ∀ b : Addr, b ∉ (cxOf CX P w K mg base N qual scope f cd A outer s H E).ex := fun b z => absurd (show b ∈ ([] : List Addr) from z) (by simp)
  refine ⟨⟨e0.mod, S.kind, rfl, rfl, Nat.le_refl _, fun y z c h1 h2 => ?_, fun y hy => ?_, fun y c _ h => ?_, fun _ => hd, Around.frames_deeper e0.frames, .inr ⟨rfl, rfl⟩, fun b z => absurd z (noA b), e0.bs, e0.bsz, fun b _ _ => noA b, fun b z => absurd z (noA b), e0.funs, e0.frf⟩,
    rfl, e0.bare, Un.kept hk, ⟨_, x.toInCall.ns, fun i y v h1 h2 h3 => ?_⟩, fun y c h => ⟨_, x.cell y c h⟩, e0.hok.fresh (Nat.le_refl _), fun y c h => ?_, fun p hp => absurd (show p ∈ ([] : List (Addr × Obj)) from hp) (by simp), e0.hok.kept hk, ?_⟩
  · exact name_of_addr x.apart (PySem.mem_of_lookup h1) (PySem.mem_of_lookup h2)
  · have hy : scope.names.lookup y = some .cell ∨ scope.names.lookup y = some .free := hy
    rcases hy with hy | hy
    · exact cell_has hy
    · exact absurd rfl (S.nofree _ (PySem.mem_of_lookup hy))
  · exact Nat.le_of_lt (x.above y c (PySem.mem_of_lookup h))
  · have hi : i < vs.length := by
      unfold start at h2
      by_cases hi : i < vs.length
      · exact hi
      · rw [List.getElem?_append_right (by simpa using hi)] at h2
        rw [List.getElem?_replicate] at h2
        split at h2 <;> cases h2
    have ha : vs[i]? = some v := by
      unfold start at h2
      rw [List.getElem?_append_left (by simpa using hi), List.getElem?_map] at h2
      cases e : vs[i]? with
      | none => rw [e] at h2; cases h2
      | some a => rw [e] at h2; cases h2; rfl
    obtain ⟨u, hu, rv⟩ := r.get ha
    have hp : ps[i]? = some y := by
      rw [← S.pre, List.getElem?_take_of_lt (by omega)]; exact h1
    have ndP : ps.Nodup := by rw [← S.pre]; exact S.nd.sublist (List.take_sublist _ _)
    refine ⟨u, rv, ?_⟩
    rcases S.par y (List.mem_of_getElem? hp) with k | k
    · exact .inl ⟨k, bindL_get ndP hp hu k⟩
    · obtain ⟨c, e⟩ := cell_has (n := s.heap.objs.size + 1) k
      refine .inr ⟨.inl k, c, e, ?_⟩
      have q := x.cell y c e
      rw [bindC_get ndP hp hu (by show scope.names.lookup y ≠ _; rw [k]; decide)] at q
      exact q
  · exact e0.hok.fresh (Nat.le_of_lt (x.above y c (PySem.mem_of_lookup h)))
  · unfold start
    show _ = N.length
    rw [List.length_append, List.length_map, List.length_replicate]
    omega

/-- THE RULE: a def (or a method) of the text, by its body. The body's reading t is chosen for each entry; it is run at the parameters' values -/
theorem fn_of {CX : CXT} {P : Program} {w : World} {K : PySem.W.Frag} {mg : Str → Option Value} {base : Heap} {k : Nat} {f : Addr} {name qual : Str} {params : Arguments} {body : List Stmt} {scope : Scope} {dV kV doc pm cdv ct oc : Value} {an od : Option Addr}
    {osl : Array (Option Value)} {N ps : List Str} {sp : Sp} (lk : K.lookup f = some ⟨oc, od, .func (PySem.W.fnOf name qual params body scope dV kV doc pm an cdv ct), osl⟩) (hcd : PySem.W.codeIn K cdv qual = true) (S : FnScope N ps scope)
    (len : ∀ vs H Q E, sp vs H Q E → vs.length = ps.length)
    (hbody : ∀ (A : Around) (outer : List Env) (s : Shared) (H : Hp) (vs : List V) (Q : VK) (E : XK), Room k (A.deeper (envOfC qual scope s.heap.objs.size f cdv)) → sp vs H Q E →
      ∃ t, PSs (cxOf CX P w K mg base N qual scope f cdv A outer s H E) body t ∧ t { nx := fun _ H' => Q .non H', rt := Q } (start N vs) H) :
    FnOk P w K mg base CX (k + 1) f (PySem.W.fnOf name qual params body scope dV kV doc pm an cdv ct) ps sp := by
  refine ⟨len, fun A outer s H args us vs Q E hr e0 hb r hsp => ?_⟩
  have hl := len _ _ _ _ hsp
  have KX : K.In s.heap := e0.mod.kin.keeps fun b o e => (e0.bs b o e).1
  have lim : s.heap.NoLimit := e0.mod.nolimit.keeps fun b o e => (e0.bs b o e).1
  have hkind : ∀ y ∈ ps.zip us, scope.names.lookup y.1 = some .local ∨ (scope.names.lookup y.1 = some .cell ∧ ((cellsFrom (s.heap.objs.size + 1) scope.names []).lookup y.1).isSome = true) := fun ⟨n, v⟩ hy => by
    rcases S.par n (List.of_mem_zip hy).1 with q | q
    · exact .inl q
    · exact .inr ⟨q, PySem.W.cellsFrom_some _ _ _ (.inl q)⟩
  refine codeAny_call_function hr.depth (KX _ _ lk) rfl S.co S.gen rfl (PySem.W.codeRec_of KX hcd) (hb _ _ _ _ ?_)
  refine wpAny_newFunctionEnv_cells S.kind hkind fun env he s1 x => ?_
  subst he
  refine ⟨lim.keeps x.toInCall.keep, codeAny_func ?_⟩
  obtain ⟨t, ht, hq⟩ := hbody A outer s H vs Q E (hr.deeper _) hsp
  have I : Inv (cxOf CX P w K mg base N qual scope f cdv A outer s H E) [] (start N vs) H s1 := inv_start S hr.hd e0 hl r x
  refine wpAny_mono (ht [] s1 (start N vs) H _ I hq) (fun fl s' hs => ?_) fun e s' hs => hs
  have fin : ∀ {σ' : St} {H' : Hp} {v : V} {u : Value}, Inv (cxOf CX P w K mg base N qual scope f cdv A outer s H E) [] σ' H' s' → RelV v u → Q v H' → CE outer P w H s Q u s' :=
    fun {σ' H' v u} J rv q => ⟨v, H', J.os, J.bare, J.base, J.hok, rv, q⟩
  cases fl with
  | ret u =>
    obtain ⟨v, σ', H', J, rv, q⟩ := hs
    exact fin J rv q
  | next =>
    obtain ⟨σ', H', J, q⟩ := hs
    exact fin (v := V.non) (u := Value.none) J rfl q
  | brk =>
    obtain ⟨_, _, _, q⟩ := hs
    exact False.elim q
  | cont =>
    obtain ⟨_, _, _, q⟩ := hs
    exact False.elim q
end L2

namespace L2
open PySem PySem.Spec PyProof.Rows
section
variable {X : Cx} {x : Str} {p pos : Pos} {e : Expr} {es : List Expr} {t : TA} {id T : String} {r : List V → Hp → VK → Prop}

def tCB (r : List V → Hp → VK → Prop) (t : TA) : TE := fun σ H Q => t σ H fun vs H1 => r vs H1 Q
/-- f(e, ..), f a built-in function -/
theorem pe_callB (hc : CallR X (.builtin id) r) (hg : Gl X x) (hm : X.mg x = none) (hv : bootBuiltins x = some (.builtin id)) (ha : PA X (e :: es) t) (hn : x ≠ "__name__" := by decide) (hdb : (x == ("__debug__" : Str)) = false := by decide)
    (he : starEach (e :: es) X.env = (false, eval e X.env) :: starEach es X.env := by rfl) (hpl : (backTo pos (starEach es X.env)).any (·.1) = false := by rfl) : PE X (.Call (.Name x p) (e :: es) [] pos) (tCB r t) := by
  refine .mk ?_
  intro pins s σ H Q I h
  refine wpAny_Call_Name_kw (ld_blt I hg hm hv ?_ hn hdb)
  exact PyProof.Rows.callWith_builtin1 (thn (ha pos pins s σ H _ I h) fun us s1 ⟨vs, H1, I1, r1, q1⟩ => hc pins s1 σ H1 vs us Q I1 r1 q1) he hpl
/-- T(e, ..), T a built-in type -/
theorem pe_callTy (hc : CallR X (.type T) r) (hg : Gl X x) (hm : X.mg x = none) (hv : bootBuiltins x = some (.type T)) (ha : PA X (e :: es) t) (hn : x ≠ "__name__" := by decide) (hdb : (x == ("__debug__" : Str)) = false := by decide)
    (he : starEach (e :: es) X.env = (false, eval e X.env) :: starEach es X.env := by rfl) (hpl : (backTo pos (starEach es X.env)).any (·.1) = false := by rfl) : PE X (.Call (.Name x p) (e :: es) [] pos) (tCB r t) := by
  refine .mk ?_
  intro pins s σ H Q I h
  refine wpAny_Call_Name_kw (ld_blt I hg hm hv ?_ hn hdb)
  exact PyProof.Rows.callWith_type1 (thn (ha pos pins s σ H _ I h) fun us s1 ⟨vs, H1, I1, r1, q1⟩ => hc pins s1 σ H1 vs us Q I1 r1 q1) he hpl
end
end L2

namespace HT
open PySem PyProof.Rows

section
open PySem.SeqAt
open PySem.AutoSeq1 (wpAny_loadPart')
open PySem.MeetsSeq PySem.MeetsSeq2 PySem.MeetsSeq3

end

section
variable {prog : Program} {w : World} {A : Around} {E : Value → Shared → Prop} {s : Shared}

/-- t + u, t not empty -/
theorem cat_tup {t b : Addr} {vs ws : List Value} {Q : Value → Shared → Prop} (ht : IsTup s.heap t vs.toArray) (hb : IsTup s.heap b ws.toArray) (hv : vs ≠ [])
    (h1 : ws = [] → Q (.ref t) s) (h2 : ws ≠ [] → Q (.ref s.heap.objs.size) { s with heap := s.heap.push { cls := .type "tuple", data := .seq (vs ++ ws).toArray } })
    (hsz : vs.length + ws.length ≤ sizeLine) : wpAny (model prog w) A (binaryOp .Add (.ref t) (.ref b)) Q E s := by
  obtain ⟨⟨cls, dd, data, sl⟩, ho, hc, n, hd⟩ := id ht
  obtain ⟨⟨cls2, dd2, data2, sl2⟩, ho2, hc2, n2, hd2⟩ := id hb
  simp only at hc hd hc2 hd2
  subst hc hd hc2 hd2
  have e : vs.toArray ++ ws.toArray = (vs ++ ws).toArray := by simp
  by_cases hw : ws = []
  · exact concat_meets ⟨_, ho, rfl⟩ ⟨_, ho2, rfl⟩ noFill_tuple_add seq_tuple_add PySem.F.slot_tuple_add PySem.F.entry_tuple_add (PySem.F.args_tuple_add_2 _ _)
      (tuple_addW1 t b vs.toArray ws.toArray n n2 dd dd2 sl sl2 (by simpa using hv) (by simp [hw])) ⟨ho, ho2, h1 hw⟩
  · refine concat_meets ⟨_, ho, rfl⟩ ⟨_, ho2, rfl⟩ noFill_tuple_add seq_tuple_add PySem.F.slot_tuple_add PySem.F.entry_tuple_add (PySem.F.args_tuple_add_2 _ _)
      (tuple_addW2 t b vs.toArray ws.toArray n n2 dd dd2 sl sl2 (by simpa using hv) (by simpa using hw) (by rw [List.size_toArray, List.size_toArray]; exact hsz)) ⟨ho, ho2, ?_⟩
    rw [e]
    exact h2 hw

/-! ### t[a:b], not the whole -/
/-- a slice's bound as a place among n (d where it is left out) -/
def sIx (n d : Nat) : Option Int → Nat
  | none => d
  | some v => if v < 0 then (v + (n : Int)).toNat else min v.toNat n
theorem sIx_none (n d : Nat) : sIx n d none = d := rfl
theorem sIx_nat (n d k : Nat) : sIx n d (some (k : Int)) = min k n := by
  show (if (k : Int) < 0 then ((k : Int) + (n : Int)).toNat else min (k : Int).toNat n) = min k n
  rw [if_neg (by omega), Int.toNat_natCast]
theorem sIx_le (n d : Nat) (hd : d ≤ n) (o : Option Int) : sIx n d o ≤ n := by
  cases o with
  | none => exact hd
  | some v =>
    show (if v < 0 then (v + (n : Int)).toNat else min v.toNat n) ≤ n
    by_cases hv : v < 0
    · rw [if_pos hv]; omega
    · rw [if_neg hv]; exact Nat.min_le_right _ _
theorem clip_eq (v : Int) (n d : Nat) : (if v < 0 then max (v + (n : Int)) 0 else min v (n : Int)) = ((sIx n d (some v) : Nat) : Int) := by
  show (if v < 0 then max (v + (n : Int)) 0 else min v (n : Int)) = (((if v < 0 then (v + (n : Int)).toNat else min v.toNat n) : Nat) : Int)
  by_cases hv : v < 0
  · simp only [if_pos hv]; omega
  · simp only [if_neg hv]; omega
theorem adjust_gen (lo hi : Option Int) (n : Nat) : Builtin.Slice.sliceAdjust lo hi 1 (n : Int) = (((sIx n 0 lo : Nat) : Int), ((sIx n n hi : Nat) : Int)) := by
  have h1 : ¬ ((1 : Int) < 0) := by omega
  unfold Builtin.Slice.sliceAdjust
  simp only [h1, if_false]
  refine Prod.ext ?_ ?_
  · cases lo with
    | none => rfl
    | some v => exact clip_eq v n 0
  · cases hi with
    | none => rfl
    | some v => exact clip_eq v n n
theorem places_gen (i j : Nat) : Builtin.Slice.slicePlaces (i : Int) (j : Int) 1 = j - i := by
  unfold Builtin.Slice.slicePlaces
  have h1 : (1 : Int) > 0 := by omega
  simp only [h1, if_true, Int.ediv_one]
  split <;> omega
theorem slicePart_ {v : Value} {o : Option Int} {Q : Option Int → Shared → Prop} (p : IsPart v o) (h : Q o s) : wpAny (model prog w) A (Builtin.Slice.slicePartIndex v) Q E s := by
  cases p with
  | none => exact slicePart_none h
  | int i t => exact slicePart_int h
theorem sliceApplied_gen {sl : Addr} {vl vu : Value} {lo hi : Option Int} {n : Nat} {Q : Int × Int × Nat → Shared → Prop} (hs : s.heap.IsSliceOf sl vl vu .none) (pl : IsPart vl lo) (pu : IsPart vu hi)
    (h : Q (((sIx n 0 lo : Nat) : Int), 1, sIx n n hi - sIx n 0 lo) s) : wpAny (model prog w) A (Builtin.Slice.sliceApplied (.ref sl) (pure (n : Int))) Q E s := by
  obtain ⟨os, hos, hcs, hds⟩ := id hs
  unfold Builtin.Slice.sliceApplied Builtin.Slice.sliceFields
  refine wpAny_bind (wpAny_bind (wpAny_field hos hds (x := vl) rfl (wpAny_bind (wpAny_field hos hds (x := vu) rfl (wpAny_bind (wpAny_field hos hds (x := .none) rfl (wpAny_pure ?_)))))))
  refine wpAny_bind (slicePart_none ?_)
  show wpAny _ _ (if ((1 : Int) == 0) = true then _ else _) _ _ s
  rw [if_neg (by decide)]
  refine wpAny_bind (slicePart_ pl (wpAny_bind (slicePart_ pu (wpAny_bind (wpAny_pure ?_)))))
  show wpAny _ _ (match Builtin.Slice.sliceAdjust lo hi 1 (n : Int) with | (lo, hi) => pure (lo, (1 : Int), Builtin.Slice.slicePlaces lo hi 1)) _ _ s
  rw [adjust_gen lo hi n]
  show wpAny _ _ (pure (((sIx n 0 lo : Nat) : Int), (1 : Int), Builtin.Slice.slicePlaces ((sIx n 0 lo : Nat) : Int) ((sIx n n hi : Nat) : Int) 1)) _ _ s
  rw [places_gen]
  exact wpAny_pure h
theorem pick_gen (xs : Array Value) (i k : Nat) : ((List.range k).filterMap fun (m : Nat) => xs[((i : Int) + (m : Int) * 1).toNat]?).toArray = ((xs.toList.drop i).take k).toArray := by
  have e : (fun (m : Nat) => xs[((i : Int) + (m : Int) * 1).toNat]?) = fun m => xs[i + m]? := by
    funext m
    have : ((i : Int) + (m : Int) * 1).toNat = i + m := by omega
    rw [this]
  rw [e]
  have := pick_run xs i k
  rw [List.filterMap_map] at this
  have e2 : ((fun x => xs[x]?) ∘ fun x => i + x) = fun m => xs[i + m]? := rfl
  rw [e2] at this
  rw [this]

theorem getItem_tuple_cut {t sl : Addr} {items : Array Value} {vl vu : Value} {lo hi : Option Int} {Q : Value → Shared → Prop} (ht : IsTup s.heap t items) (hs : s.heap.IsSliceOf sl vl vu .none) (pl : IsPart vl lo) (pu : IsPart vu hi)
    (hw : ¬ (sIx items.size 0 lo = 0 ∧ sIx items.size items.size hi = items.size))
    (h : Q (.ref s.heap.objs.size) { s with heap := s.heap.push { cls := .type "tuple", data := .seq ((items.toList.drop (sIx items.size 0 lo)).take (sIx items.size items.size hi - sIx items.size 0 lo)).toArray } })
    (hsz : items.size ≤ sizeLine) : wpAny (model prog w) A (getItem (.ref t) (.ref sl)) Q E s := by
  have htake : sizeOk (.seq ((items.toList.drop (sIx items.size 0 lo)).take (sIx items.size items.size hi - sIx items.size 0 lo)).toArray) := by
    show ((items.toList.drop (sIx items.size 0 lo)).take (sIx items.size items.size hi - sIx items.size 0 lo)).toArray.size ≤ sizeLine
    rw [List.size_toArray, List.length_take, List.length_drop, Array.length_toList]
    omega
  have hj : sIx items.size items.size hi ≤ items.size := sIx_le _ _ (Nat.le_refl _) hi
  obtain ⟨os, hos, hcs, hds⟩ := id hs
  have hTs : s.TypeIs (.ref sl) "slice" := ⟨os, hos, hcs⟩
  unfold getItem
  try with_reducible refine wpAny_holding ?_
  first | refine wpAny_bind (wpAny_pure ?_) | skip
  refine wpAny_bind (wpAny_sequenceKey ht.typeIs (by decide) ?_)
  refine wpAny_bind (wpAny_callSpecial?_slot (name := Str.ofString "__getitem__") ht.typeIs PyProof.Rows.slot_tuple_getitem
    (wpAny_call_entry PyProof.Rows.slot_tuple_getitem ht.typeIs entry_tuple_getitem ?_ (args_tuple_getitem _ _)))
  show wpAny _ _ (Builtin.Tuple.tupleItemsOf (.ref t) >>= _) _ _ s
  refine wpAny_bind (tupleItemsOf_ ht ?_)
  refine wpAny_bind (wpAny_typeOf hTs ?_)
  rw [if_pos (by decide)]
  refine wpAny_bind (sliceApplied_gen hs pl pu ?_)
  have hno : ¬ ((((sIx items.size 0 lo : Nat) : Int) == 0 && (1 : Int) == 1 && (sIx items.size items.size hi - sIx items.size 0 lo) == items.size) = true) := by
    intro q
    rw [Bool.and_eq_true, Bool.and_eq_true] at q
    have q1 : ((sIx items.size 0 lo : Nat) : Int) = 0 := eq_of_beq q.1.1
    have q2 : sIx items.size items.size hi - sIx items.size 0 lo = items.size := eq_of_beq q.2
    exact hw ⟨by omega, by omega⟩
  show wpAny _ _ (if (((sIx items.size 0 lo : Nat) : Int) == 0 && (1 : Int) == 1 && (sIx items.size items.size hi - sIx items.size 0 lo) == items.size) = true then _ else _) _ _ s
  rw [if_neg hno, pick_gen]
  first
    | exact wpAny_bind (m := Builtin.Tuple.tupleExact _) (wpAny_newObj_type (wpAny_pure ⟨_, rfl, wpAny_pure h⟩) htake)
    | exact wpAny_bind (m := Builtin.Tuple.tupleExact _) (wpAny_newObj_type (wpAny_bind (wpAny_pure (wpAny_pure ⟨_, rfl, wpAny_pure h⟩))) htake)
    | exact wpAny_bind (wpAny_bind (m := Builtin.Tuple.tupleExact _) (wpAny_newObj_type (wpAny_pure (wpAny_pure ⟨_, rfl, wpAny_pure h⟩)) htake))
    | exact wpAny_bind (wpAny_bind (m := Builtin.Tuple.tupleExact _) (wpAny_newObj_type (wpAny_pure ⟨_, rfl, wpAny_pure h⟩) htake))
end
end HT

namespace L2
open PySem PySem.Spec PyProof.Rows

/-! ### the parts of a slice -/
abbrev TO := St → Hp → (Option Int → Hp → Prop) → Prop
/-- a slice's part (left out, or an int) -/
structure PO (X : Cx) (e : Option Expr) (t : TO) : Prop where
  mk ::
  go :
  ∀ (pins : List (Addr × Obj)) (s : Shared) (σ : St) (H : Hp) (Q : Option Int → Hp → Prop), Inv X pins σ H s → t σ H Q →
    wpAny (model X.prog X.w) X.A (evalPart e X.env) (fun u s' => ∃ o H', Inv X pins σ H' s' ∧ IsPart u o ∧ Q o H') X.xe s
instance {X : Cx} {e : Option Expr} {t : TO} : CoeFun (PO X e t) (fun _ =>
  ∀ (pins : List (Addr × Obj)) (s : Shared) (σ : St) (H : Hp) (Q : Option Int → Hp → Prop), Inv X pins σ H s → t σ H Q →
    wpAny (model X.prog X.w) X.A (evalPart e X.env) (fun u s' => ∃ o H', Inv X pins σ H' s' ∧ IsPart u o ∧ Q o H') X.xe s) := ⟨PO.go⟩
def tNoPart : TO := fun _ H Q => Q none H
def tPart (t : TE) : TO := fun σ H Q => t σ H fun x H1 => ∃ i, x = .int i ∧ Q (some i) H1

section
variable {X : Cx} {e : Expr} {te : TE} {lo hi : Option Expr} {tl th : TO} {pos p2 : Pos}

theorem po_none : PO X none tNoPart := by
  refine .mk ?_
  intro pins s σ H Q I h
  rw [evalPart_none]
  exact wpAny_pure ⟨none, H, I, .none, h⟩
theorem po_some (h : PE X e te) : PO X (some e) (tPart te) := by
  refine .mk ?_
  intro pins s σ H Q I hw
  rw [evalPart_some]
  refine thn (h pins s σ H _ I hw) fun u s1 ⟨x, H1, I1, r1, q1⟩ => ?_
  obtain ⟨i, rfl, q⟩ := q1
  obtain ⟨t, rfl⟩ := r1
  exact ⟨some i, H1, I1, .int i t, q⟩

/-- what a slice of a value is, by values: the slice object stands at sl -/
structure SlR (X : Cx) (r : V → Option Int → Option Int → Hp → VK → Prop) : Prop where
  mk ::
  go :
  ∀ (pins : List (Addr × Obj)) (s : Shared) (σ : St) (H : Hp) (x : V) (v vl vu : Value) (lo hi : Option Int) (sl : Addr) (Q : VK), Inv X pins σ H s → RelV x v → s.heap.IsSliceOf sl vl vu .none → IsPart vl lo → IsPart vu hi → r x lo hi H Q →
    ∃ T id, typeLookup (.type T) "__getitem__" = pure (some (.builtin id)) ∧ s.TypeIs v T ∧ wpAny (model X.prog X.w) X.A (getItem v (.ref sl)) (EP X pins σ Q) X.xe s
instance {X : Cx} {r : V → Option Int → Option Int → Hp → VK → Prop} : CoeFun (SlR X r) (fun _ =>
  ∀ (pins : List (Addr × Obj)) (s : Shared) (σ : St) (H : Hp) (x : V) (v vl vu : Value) (lo hi : Option Int) (sl : Addr) (Q : VK), Inv X pins σ H s → RelV x v → s.heap.IsSliceOf sl vl vu .none → IsPart vl lo → IsPart vu hi → r x lo hi H Q →
    ∃ T id, typeLookup (.type T) "__getitem__" = pure (some (.builtin id)) ∧ s.TypeIs v T ∧ wpAny (model X.prog X.w) X.A (getItem v (.ref sl)) (EP X pins σ Q) X.xe s) := ⟨SlR.go⟩
theorem SlR.or {r r' : V → Option Int → Option Int → Hp → VK → Prop} (h : SlR X r) (h' : SlR X r') : SlR X (fun x lo hi H Q => r x lo hi H Q ∨ r' x lo hi H Q) := by
  refine .mk ?_
  intro pins s σ H x v vl vu lo hi sl Q I rx hs pl pu q
  rcases q with q | q
  · exact h pins s σ H x v vl vu lo hi sl Q I rx hs pl pu q
  · exact h' pins s σ H x v vl vu lo hi sl Q I rx hs pl pu q
def tSl (r : V → Option Int → Option Int → Hp → VK → Prop) (te : TE) (tl th : TO) : TE := fun σ H Q => te σ H fun x H1 => tl σ H1 fun l H2 => th σ H2 fun u H3 => r x l u H3 Q
/-- a[lo:hi], any a -/
theorem pe_slice {r : V → Option Int → Option Int → Hp → VK → Prop} (hr : SlR X r) (he : PE X e te) (hl : PO X lo tl) (hu : PO X hi th) : PE X (.Subscript e (.Slice lo hi none p2) pos) (tSl r te tl th) := by
  refine .mk ?_
  intro pins s σ H Q I h
  refine Subscript_ (thn (he pins s σ H _ I h) fun v s1 ⟨x, H1, I1, r1, q1⟩ => ?_)
  refine wpAny_Slice (thn (hl pins s1 σ H1 _ I1 q1) fun vl s2 ⟨l, H2, I2, pl, q2⟩ => thn (hu pins s2 σ H2 _ I2 q2) fun vu s3 ⟨u, H3, I3, pu, q3⟩ => ?_)
  rw [evalPart_none]
  refine wpAny_pure ?_
  have I4 : Inv X pins σ H3 { s3 with heap := s3.heap.push { cls := .type "slice", data := .fields #[vl, vu, .none] } } := I3.kept (t' := s3.toks) fun b ob q => Heap.get?_push_of_some _ q
  obtain ⟨T, id, hT, ht, hg⟩ := hr pins { s3 with heap := s3.heap.push { cls := .type "slice", data := .fields #[vl, vu, .none] } } σ H3 x v vl vu l u s3.heap.objs.size Q I4 r1 (Heap.IsSliceOf.new ..) pl pu q3
  show wpAny (model X.prog X.w) X.A (subscriptTail e (.Slice lo hi none p2) v (.ref s3.heap.objs.size)) (EP X pins σ Q) X.xe { s3 with heap := s3.heap.push { cls := .type "slice", data := .fields #[vl, vu, .none] } }
  exact tail_any (ops := [.ref s3.heap.objs.size, v]) ht hT hg (by with_unfolding_all rfl)

/-- the items of xs[lo:hi] -/
def cutV (xs : List V) (lo hi : Option Int) : List V := (xs.drop (HT.sIx xs.length 0 lo)).take (HT.sIx xs.length xs.length hi - HT.sIx xs.length 0 lo)
theorem cutV_length (xs : List V) (lo hi : Option Int) : (cutV xs lo hi).length ≤ xs.length := by
  unfold cutV
  rw [List.length_take, List.length_drop]
  omega
/-- t[lo:hi], not the whole of it (the whole would be t itself) -/
def rSlT (K : PySem.W.Frag) : V → Option Int → Option Int → Hp → VK → Prop := fun x lo hi H Q => ∃ a xs, x = .ref a ∧ SqT K H a xs ∧
  ¬ (HT.sIx xs.length 0 lo = 0 ∧ HT.sIx xs.length xs.length hi = xs.length) ∧ ∀ p, H p = none → Q (.ref p) (upd H p (.tup (cutV xs lo hi)))
theorem sl_tup : SlR X (rSlT X.K) := by
  refine .mk ?_
  intro pins s σ H x v vl vu lo hi sl Q I rx hs pl pu h
  obtain ⟨a, xs, rfl, hx, hw, q⟩ := h
  cases rx
  obtain ⟨its, r, ht, hz⟩ := I.tuple hx
  have hlen : its.toArray.size = xs.length := by rw [List.size_toArray]; exact r.length.symm
  refine ⟨"tuple", _, PyProof.Rows.slot_tuple_getitem.lookup, ht.typeIs, ?_⟩
  refine HT.getItem_tuple_cut ht hs pl pu (by rw [hlen]; exact hw) ?_ (by rw [hlen]; exact hz)
  rw [hlen]
  refine ⟨.ref s.heap.objs.size, _, I.laid (t' := s.toks) (o := .tup (cutV xs lo hi)) (fun b ob q => Heap.get?_push_of_some _ q) (Nat.le_refl _) ?_, rfl, q _ (I.hok.fresh (Nat.le_refl _))⟩
  exact ⟨Nat.le_trans (cutV_length xs lo hi) hz, _, (r.drop (HT.sIx xs.length 0 lo)).take (HT.sIx xs.length xs.length hi - HT.sIx xs.length 0 lo), IsTup.new _ _⟩

/-! ### t < u, t + u -/
/-- t + u, t not empty: u empty gives t itself -/
def rCatT (K : PySem.W.Frag) : R2 := fun x y H Q => ∃ a b xs ys, x = .ref a ∧ y = .ref b ∧ SqT K H a xs ∧ SqT K H b ys ∧ xs ≠ [] ∧ xs.length + ys.length ≤ sizeLine ∧
  (ys = [] → Q (.ref a) H) ∧ (ys ≠ [] → ∀ p, H p = none → Q (.ref p) (upd H p (.tup (xs ++ ys))))
theorem Vals.nil_iff {xs : List V} {us : List Value} (r : Vals xs us) : us = [] ↔ xs = [] := by
  cases r with
  | nil => simp
  | cons _ _ => simp
theorem op_catT : OpR X (binaryOp .Add) (rCatT X.K) := by
  refine .mk ?_
  intro pins s σ H x y v u Q I rx ry h
  obtain ⟨a, b, xs, ys, rfl, rfl, ha, hb, hx, hz, q1, q2⟩ := h
  cases rx
  cases ry
  obtain ⟨its, r1, p1, _⟩ := I.tuple ha
  obtain ⟨its2, r2, p2, _⟩ := I.tuple hb
  refine HT.cat_tup p1 p2 (fun z => hx (r1.nil_iff.mp z)) (fun z => ⟨.ref a, H, I, rfl, q1 (r2.nil_iff.mp z)⟩) (fun z => ?_) (by rw [← r1.length, ← r2.length]; exact hz)
  refine ⟨.ref s.heap.objs.size, _, I.laid (t' := s.toks) (o := .tup (xs ++ ys)) (fun b ob q => Heap.get?_push_of_some _ q) (Nat.le_refl _) ?_, rfl, q2 (fun w => z (r2.nil_iff.mpr w)) _ (I.hok.fresh (Nat.le_refl _))⟩
  exact ⟨by rw [List.length_append]; exact hz, _, r1.append r2, IsTup.new _ _⟩
end
end L2

namespace L2
open PySem PySem.Spec PyProof.Rows

/-! ### places -/
/-- the place that an index of any sign means -/
def ixN (n : Nat) (i : Int) : Option Nat := if 0 ≤ i then (if i < n then some i.toNat else none) else if -(n : Int) ≤ i then some (i + n).toNat else none
def atI {α : Type} (xs : List α) (i : Int) : Option α := (ixN xs.length i).bind fun j => xs[j]?
theorem ixN_seq {n : Nat} {i : Int} {j : Nat} (h : ixN n i = some j) : seqIndex? i n = some j ∧ j < n ∧ -(n : Int) ≤ i ∧ i < n := by
  unfold ixN at h
  by_cases h0 : 0 ≤ i
  · rw [if_pos h0] at h
    by_cases h1 : i < n
    · rw [if_pos h1] at h
      have e : i.toNat = j := Option.some.inj h
      exact ⟨by rw [seqIndex_of h0 h1, e], by omega, by omega, h1⟩
    · rw [if_neg h1] at h; cases h
  · rw [if_neg h0] at h
    by_cases h1 : -(n : Int) ≤ i
    · rw [if_pos h1] at h
      have e : (i + n).toNat = j := Option.some.inj h
      exact ⟨by rw [seqIndex_neg (by omega) h1, e], by omega, h1, by omega⟩
    · rw [if_neg h1] at h; cases h
theorem atI_get {α : Type} {xs : List α} {i : Int} {v : α} (h : atI xs i = some v) : ∃ j, seqIndex? i xs.length = some j ∧ xs[j]? = some v ∧ j < xs.length ∧ -(xs.length : Int) ≤ i ∧ i < xs.length := by
  unfold atI at h
  cases e : ixN xs.length i with
  | none => rw [e] at h; cases h
  | some j =>
    rw [e] at h
    obtain ⟨h1, h2, h3, h4⟩ := ixN_seq e
    exact ⟨j, h1, h, h2, h3, h4⟩
theorem atI_nat {α : Type} {xs : List α} {j : Nat} {v : α} (h : xs[j]? = some v) : atI xs (j : Int) = some v := by
  have hj : j < xs.length := (List.getElem?_eq_some_iff.mp h).1
  have e : ixN xs.length (j : Int) = some j := by
    unfold ixN
    rw [if_pos (by omega), if_pos (by omega)]; simp
  unfold atI; rw [e]; exact h
theorem atI_last {α : Type} (xs : List α) (v : α) : atI (xs ++ [v]) (-1) = some v := by
  have hl : (xs ++ [v]).length = xs.length + 1 := by simp
  have e : ixN (xs ++ [v]).length (-1) = some xs.length := by
    unfold ixN
    rw [hl, if_neg (by decide), if_pos (by omega)]
    congr 1
    omega
  unfold atI
  rw [e]
  show (xs ++ [v])[xs.length]? = some v
  simp

/-! ### what may be subscripted -/
/-- what stands as an index of a plain subscript -/
def PlainIx (b : Expr) : Prop := ∀ o i, subscripted b false o i = operate [o, i] (getItem o i)
/-- a subscript by values -/
structure IxR (X : Cx) (r : R2) : Prop where
  mk ::
  go :
  ∀ (value slice : Expr) (pins : List (Addr × Obj)) (s : Shared) (σ : St) (H : Hp) (x y : V) (v u : Value) (Q : VK), Inv X pins σ H s → RelV x v → RelV y u → r x y H Q →
    subscripted slice false v u = operate [v, u] (getItem v u) → wpAny (model X.prog X.w) X.A (subscriptTail value slice v u) (EP X pins σ Q) X.xe s
instance {X : Cx} {r : R2} : CoeFun (IxR X r) (fun _ =>
  ∀ (value slice : Expr) (pins : List (Addr × Obj)) (s : Shared) (σ : St) (H : Hp) (x y : V) (v u : Value) (Q : VK), Inv X pins σ H s → RelV x v → RelV y u → r x y H Q →
    subscripted slice false v u = operate [v, u] (getItem v u) → wpAny (model X.prog X.w) X.A (subscriptTail value slice v u) (EP X pins σ Q) X.xe s) := ⟨IxR.go⟩
/-- a call of a builtin's method by values: the receiver, the arguments -/
def MtR (X : Cx) (id : String) (r : V → List V → Hp → VK → Prop) : Prop :=
  ∀ (pins : List (Addr × Obj)) (s : Shared) (σ : St) (H : Hp) (x : V) (xs : List V) (v : Value) (us : List Value) (Q : VK), Inv X pins σ H s → RelV x v → Vals xs us → r x xs H Q →
    wpAny (model X.prog X.w) X.A (call (.builtin id) (v :: us)) (EP X pins σ Q) X.xe s
section
variable {X : Cx} {a b : Expr} {ta tb : TE} {pos : Pos}
theorem IxR.or {r r' : R2} (h : IxR X r) (h' : IxR X r') : IxR X (fun x y H Q => r x y H Q ∨ r' x y H Q) := by
  refine .mk ?_
  intro value slice pins s σ H x y v u Q I rx ry q hs
  rcases q with q | q
  · exact h value slice pins s σ H x y v u Q I rx ry q hs
  · exact h' value slice pins s σ H x y v u Q I rx ry q hs
theorem MtR.or {id : String} {r r' : V → List V → Hp → VK → Prop} (h : MtR X id r) (h' : MtR X id r') : MtR X id (fun x xs H Q => r x xs H Q ∨ r' x xs H Q) := by
  intro pins s σ H x xs v us Q I rx rs q
  rcases q with q | q
  · exact h pins s σ H x xs v us Q I rx rs q
  · exact h' pins s σ H x xs v us Q I rx rs q
/-- a[b] -/
theorem pe_ix {r : R2} (hr : IxR X r) (ha : PE X a ta) (hb : PE X b tb) (hs : PlainIx b) : PE X (.Subscript a b pos) (tOp r ta tb) := by
  refine .mk ?_
  intro pins s σ H Q I h
  exact Subscript_ (binT ha hb I h fun v u s2 x y H2 I2 rx ry q => hr a b pins s2 σ H2 x y v u Q I2 rx ry q (hs _ _))

def rIxL (K : PySem.W.Frag) : R2 := fun x y H Q => ∃ p xs i v, x = .ref p ∧ y = .int i ∧ SqL K H p xs ∧ atI xs i = some v ∧ Q v H
def rIxT (K : PySem.W.Frag) : R2 := fun x y H Q => ∃ p xs i v, x = .ref p ∧ y = .int i ∧ SqT K H p xs ∧ atI xs i = some v ∧ Q v H
theorem ix_list : IxR X (rIxL X.K) := by
  refine .mk ?_
  intro value slice pins s σ H x y v u Q I rx ry h hs
  obtain ⟨p, xs, i, z, rfl, rfl, hq, he, q⟩ := h
  cases rx
  obtain ⟨t, rfl⟩ := ry
  obtain ⟨its, r, pl, hz⟩ := I.list hq
  obtain ⟨j, h1, h2, h3, h4, h5⟩ := atI_get he
  obtain ⟨w, ew, rw'⟩ := r.get h2
  have hl := r.length
  have hn := line63
  have fin : EP X pins σ Q w s := ⟨z, H, I, rw', q⟩
  by_cases h0 : 0 ≤ i
  · have hj : i.toNat = j := by
      rw [seqIndex_of h0 h5] at h1
      exact Option.some.inj h1
    exact item_listR pl.isList h0 (by omega) (by rw [hj]; simpa using ew) fin hs
  · have hj : (i + (its.toArray.size : Int)).toNat = j := by
      rw [seqIndex_neg (by omega) h4] at h1
      rw [List.size_toArray, ← hl]
      exact Option.some.inj h1
    exact subscriptTail_builtinR (x := w) pl.isList.typeIs slot_list_getitem.lookup
      (wpAny_getItem_list_neg (Q := fun r s' => r = w ∧ EP X pins σ Q r s') pl.isList (by omega) (by rw [List.size_toArray] <;> omega) (by omega) (by rw [hj]; simpa using ew) ⟨rfl, fin⟩) hs
theorem ix_tup : IxR X (rIxT X.K) := by
  refine .mk ?_
  intro value slice pins s σ H x y v u Q I rx ry h hs
  obtain ⟨p, xs, i, z, rfl, rfl, hq, he, q⟩ := h
  cases rx
  obtain ⟨t, rfl⟩ := ry
  obtain ⟨its, r, pl, hz⟩ := I.tuple hq
  obtain ⟨j, h1, h2, h3, h4, h5⟩ := atI_get he
  obtain ⟨w, ew, rw'⟩ := r.get h2
  have hl := r.length
  have hn := line63
  have fin : EP X pins σ Q w s := ⟨z, H, I, rw', q⟩
  exact subscriptTail_builtinR (x := w) pl.typeIs slot_tuple_getitem.lookup
    (getItem_tuple (j := j) (Q := fun r s' => r = w ∧ EP X pins σ Q r s') pl (by omega) (by omega) (by rw [List.size_toArray, ← hl]; exact h1) (by simpa using ew) ⟨rfl, fin⟩) hs
/-! ### xs[i] = v, any sign -/
/-- the list's object behind a store -/
theorem mapSeq_set (its : List Value) (n j : Nat) (u : Value) : Obj.mapSeq (·.setIfInBounds j u) { cls := .type "list", data := .seq its.toArray n } = { cls := .type "list", data := .seq (its.set j u).toArray n } := by
  simp [Obj.mapSeq]
theorem Inv.lst {pins : List (Addr × Obj)} {σ : St} {H : Hp} {s : Shared} {p : Addr} {xs : List V} (I : Inv X pins σ H s) (h : H p = some (.lst xs)) :
    ∃ (its : List Value) (n : Nat), Vals xs its ∧ s.heap.get? p = some { cls := .type "list", data := .seq its.toArray n } ∧ xs.length ≤ sizeLine := by
  obtain ⟨z, its, n, r, e⟩ := I.hok p _ h
  exact ⟨its, n, r, e, z⟩
/-- the list at p is written by an update of its object -/
theorem Inv.lstUpd {pins : List (Addr × Obj)} {σ : St} {H : Hp} {s : Shared} {p : Addr} {xs ys : List V} {its its' : List Value} {n n' : Nat} {f : Obj → Obj} (I : Inv X pins σ H s) (h : H p = some (.lst xs))
    (ho : s.heap.get? p = some { cls := .type "list", data := .seq its.toArray n }) (hf : f { cls := .type "list", data := .seq its.toArray n } = { cls := .type "list", data := .seq its'.toArray n' }) (r : Vals ys its') (hz : ys.length ≤ sizeLine) (t : Nat) :
    Inv X pins σ (upd H p (.lst ys)) { s with heap := s.heap.update p f, toks := t } := by
  have e : (s.heap.update p f).get? p = some { cls := .type "list", data := .seq its'.toArray n' } := by
    rw [Heap.get?_update_self f ho (by rw [hf] <;> rfl), hf]
  refine I.write (x := p) (e := p) (by rw [h]; trivial) (.inl rfl) (fun b u hb q => (Heap.get?_update_other _ _ (Ne.symm hb)).trans q) ⟨_, e⟩ ?_
  exact ⟨hz, its', n', r, e⟩
def rSetL : V → V → V → Hp → (Hp → Prop) → Prop := fun o i v H Q => ∃ p xs k j, o = .ref p ∧ i = .int k ∧ H p = some (.lst xs) ∧ ixN xs.length k = some j ∧ Q (upd H p (.lst (xs.set j v)))
theorem set_list : PSet X rSetL := by
  refine .mk ?_
  intro pins s σ H o i v ov iv u Q I ro ri rv h
  obtain ⟨p, xs, k, j, rfl, rfl, hp, hj, q⟩ := h
  cases ro
  obtain ⟨t, rfl⟩ := ri
  obtain ⟨its, n, r, ho, hz⟩ := I.lst hp
  obtain ⟨h1, h2, h3, h4⟩ := ixN_seq hj
  have hl := r.length
  have hn := line63
  have I' : Inv X pins σ (upd H p (.lst (xs.set j v))) { s with heap := s.heap.update p (Obj.mapSeq (·.setIfInBounds j u)) } :=
    I.lstUpd hp ho (mapSeq_set its n j u) (r.set rv j) (by rw [List.length_set]; exact hz) s.toks
  by_cases h0 : 0 ≤ k
  · have hk : k.toNat = j := by
      rw [seqIndex_of h0 h4] at h1
      exact Option.some.inj h1
    exact PySem.W.ki_setAt ho h0 (by omega) (by rw [List.size_toArray, ← hl]; exact h4) (by rw [hk]; exact ⟨_, I', q⟩)
  · have hk : (k + (its.toArray.size : Int)).toNat = j := by
      rw [seqIndex_neg (by omega) h3] at h1
      rw [List.size_toArray, ← hl]
      exact Option.some.inj h1
    exact PySem.W.ki_setBack ho (by omega) (by rw [List.size_toArray, ← hl]; exact h3) (by omega) (by rw [hk]; exact ⟨_, I', q⟩)

/-! ### slices -/
theorem slice_bounds (lo hi : Option Int) (n : Nat) : (sliceBounds lo hi none n).1 = ((HT.sIx n 0 lo : Nat) : Int) ∧ (sliceBounds lo hi none n).2.1 = ((HT.sIx n n hi : Nat) : Int) ∧ (sliceBounds lo hi none n).2.2 = 1 := by
  refine ⟨?_, ?_, rfl⟩
  · cases lo with
    | none => simp [sliceBounds, HT.sIx]
    | some i =>
      simp only [sliceBounds, HT.sIx, Option.getD_none, show (1 : Int) > 0 by decide, if_true]
      by_cases h : i < 0
      · simp only [h, if_true] <;> omega
      · simp only [h, if_false] <;> omega
  · cases hi with
    | none => simp [sliceBounds, HT.sIx]
    | some i =>
      simp only [sliceBounds, HT.sIx, Option.getD_none, show (1 : Int) > 0 by decide, if_true]
      by_cases h : i < 0
      · simp only [h, if_true] <;> omega
      · simp only [h, if_false] <;> omega
theorem slicePick_cut (its : List Value) (lo hi : Option Int) : slicePick its.toArray lo hi none = ((its.drop (HT.sIx its.length 0 lo)).take (HT.sIx its.length its.length hi - HT.sIx its.length 0 lo)).toArray := by
  obtain ⟨h1, h2, h3⟩ := slice_bounds lo hi its.toArray.size
  unfold slicePick
  rw [h1, h2, h3]
  simp only [sliceRange_one, pick_run, List.size_toArray] <;> rfl
/-- xs[lo:hi] of a list: a new list -/
def rSlL (K : PySem.W.Frag) : V → Option Int → Option Int → Hp → VK → Prop := fun x lo hi H Q => ∃ a xs, x = .ref a ∧ SqL K H a xs ∧ ∀ p, H p = none → Q (.ref p) (upd H p (.lst (cutV xs lo hi)))
theorem sl_list : SlR X (rSlL X.K) := by
  refine .mk ?_
  intro pins s σ H x v vl vu lo hi sl Q I rx hs pl pu h
  obtain ⟨a, xs, rfl, hx, q⟩ := h
  cases rx
  obtain ⟨its, r, ht, hz⟩ := I.list hx
  have hlen := r.length
  refine ⟨"list", _, slot_list_getitem.lookup, ht.isList.typeIs, ?_⟩
  refine wpAny_getItem_list_slice ht.isList hs pl pu .none (by simp) ?_ (by rw [List.size_toArray] <;> omega)
  rw [slicePick_cut, ← hlen]
  refine ⟨.ref s.heap.objs.size, _, I.laid (t' := s.toks) (o := .lst (cutV xs lo hi)) (fun b ob q => Heap.get?_push_of_some _ q) (Nat.le_refl _) ?_, rfl, q _ (I.hok.fresh (Nat.le_refl _))⟩
  exact ⟨Nat.le_trans (cutV_length xs lo hi) hz, _, 0, (r.drop (HT.sIx xs.length 0 lo)).take (HT.sIx xs.length xs.length hi - HT.sIx xs.length 0 lo), Heap.get?_push_size _ rfl⟩

/-! ### in, not in: flat items -/
/-! ### len, list(x), tuple(x) of any list or tuple that is read -/
theorem call_len_seq : CallR X (.builtin "len") (fun xs H Q => ∃ p ys, xs = [.ref p] ∧ (SqL X.K H p ys ∨ SqT X.K H p ys) ∧ Q (.int ys.length) H) := by
  refine .mk ?_
  intro pins s σ H xs us Q I r h
  obtain ⟨p, ys, rfl, hq, q⟩ := h
  obtain ⟨u, rfl, rx⟩ := vals1 r
  cases rx
  have hn := line63
  rcases hq with hq | hq
  · obtain ⟨its, r', pl, hz⟩ := I.list hq
    have hlen := r'.length
    exact Calls.call_len_list pl.isList (by simp only [List.size_toArray] <;> omega) ⟨.int ys.length, H, I.tok _, ⟨s.toks + 1, by rw [List.size_toArray, hlen]⟩, q⟩
  · obtain ⟨its, r', pl, hz⟩ := I.tuple hq
    have hlen := r'.length
    exact len_tuple pl (by simp only [List.size_toArray] <;> omega) ⟨.int ys.length, H, I.tok _, ⟨s.toks + 1, by rw [List.size_toArray, hlen]⟩, q⟩
theorem CallR.or {f : Value} {r r' : List V → Hp → VK → Prop} (h : CallR X f r) (h' : CallR X f r') : CallR X f (fun xs H Q => r xs H Q ∨ r' xs H Q) := by
  refine .mk ?_
  intro pins s σ H xs us Q I rs q
  rcases q with q | q
  · exact h pins s σ H xs us Q I rs q
  · exact h' pins s σ H xs us Q I rs q
theorem call_list_of : CallR X (.type "list") (fun xs H Q => ∃ p ys, xs = [.ref p] ∧ (SqL X.K H p ys ∨ SqT X.K H p ys) ∧ ∀ l, H l = none → Q (.ref l) (upd H l (.lst ys))) := by
  refine .mk ?_
  intro pins s σ H xs us Q I r h
  obtain ⟨p, ys, rfl, hq, q⟩ := h
  obtain ⟨u, rfl, rx⟩ := vals1 r
  cases rx
  have fin : ∀ (its : List Value), Vals ys its → ys.length ≤ sizeLine → ∀ (h' : Heap) (c' : Nat), (∀ b o', s.heap.get? b = some o' → h'.get? b = some o') →
      h'.get? s.heap.objs.size = some { cls := .type "list", dict := none, data := .seq its.toArray c', slots := #[] } → EP X pins σ Q (.ref s.heap.objs.size) { s with heap := h' } := fun its r' hz h' c' kp e =>
    ⟨.ref s.heap.objs.size, _, I.laid (t' := s.toks) kp (Nat.le_refl _) (show ObjOk X.prog X.w _ h' _ (.lst ys) from ⟨hz, its, c', r', e⟩), rfl, q _ (I.hok.fresh (Nat.le_refl _))⟩
  rcases hq with hq | hq
  · obtain ⟨its, r', pl, hz⟩ := I.list hq
    have hlen := r'.length
    obtain ⟨o, ho, hc, n, hd⟩ := pl.isList
    exact call_list_seq p (.inl rfl) ho hc hd (fun h' c' kp e => fin its r' hz h' c' kp e) (by simp only [List.size_toArray] <;> omega)
  · obtain ⟨its, r', pl, hz⟩ := I.tuple hq
    have hlen := r'.length
    obtain ⟨o, ho, hc, n, hd⟩ := pl
    exact call_list_seq p (.inr rfl) ho hc hd (fun h' c' kp e => fin its r' hz h' c' kp e) (by simp only [List.size_toArray] <;> omega)
theorem call_tuple_of : CallR X (.type "tuple") (fun xs H Q => ∃ p ys, xs = [.ref p] ∧ ((SqL X.K H p ys ∧ ∀ l, H l = none → Q (.ref l) (upd H l (.tup ys))) ∨ (SqT X.K H p ys ∧ Q (.ref p) H))) := by
  refine .mk ?_
  intro pins s σ H xs us Q I r h
  obtain ⟨p, ys, rfl, h⟩ := h
  obtain ⟨u, rfl, rx⟩ := vals1 r
  cases rx
  rcases h with ⟨hq, q⟩ | ⟨hq, q⟩
  · obtain ⟨its, r', pl, hz⟩ := I.list hq
    have hlen := r'.length
    refine call_tuple_list pl.isList (fun h' kp => ?_) (by simp only [List.size_toArray] <;> omega)
    have I1 : Inv X pins σ H { s with heap := h' } := I.kept (t' := s.toks) kp
    have I2 : Inv X pins σ (upd H h'.objs.size (.tup ys)) { s with heap := h'.push { cls := .type "tuple", data := .seq its.toArray } } :=
      I1.laid (t' := s.toks) (fun b o e => Heap.get?_push_of_some _ e) (Nat.le_refl _) (show ObjOk X.prog X.w _ _ _ (.tup ys) from ⟨hz, its, r', IsTup.new _ _⟩)
    exact ⟨.ref h'.objs.size, _, I2, rfl, q _ (I1.hok.fresh (Nat.le_refl _))⟩
  · obtain ⟨its, r', pl, hz⟩ := I.tuple hq
    exact call_tuple_same pl ⟨.ref p, H, I, rfl, q⟩

/-! ### the call of a builtin's method: o.m(..) -/
/-- the value is of that builtin type -/
def tyV (K : PySem.W.Frag) (T : String) (x : V) (H : Hp) : Prop := match x with
  | .str _ => T = "str"
  | .int _ => T = "int"
  | .ref p => (T = "list" ∧ ∃ xs, SqL K H p xs) ∨ (T = "tuple" ∧ ∃ o, K.lookup p = some o ∧ o.cls = .type "tuple" ∧ o.dict = none) ∨
      (T = "dict" ∧ ((∃ kvs, H p = some (.dK kvs)) ∨ ∃ kvs, H p = some (.dT kvs))) ∨ (T = "set" ∧ ∃ S n, H p = some (.set S n))
  | _ => False
theorem tyV_is {pins : List (Addr × Obj)} {σ : St} {H : Hp} {s : Shared} {T : String} {x : V} {v : Value} (I : Inv X pins σ H s) (r : RelV x v) (ty : tyV X.K T x H) :
    s.TypeIs v T ∧ ∀ a, v = .ref a → ∃ ob, s.heap.get? a = some ob ∧ ob.dict = none := by
  cases x with
  | str z =>
    obtain ⟨t, rfl⟩ := r
    cases (show T = "str" from ty)
    exact ⟨typeIs_str s z t, fun _ e => nomatch e⟩
  | int i =>
    obtain ⟨t, rfl⟩ := r
    cases (show T = "int" from ty)
    exact ⟨typeIs_int s i t, fun _ e => nomatch e⟩
  | ref p =>
    cases r
    rcases ty with ⟨rfl, xs, hq⟩ | ⟨rfl, o, hk, hc, hd⟩ | ⟨rfl, hk⟩ | ⟨rfl, S, n, hk⟩
    · obtain ⟨its, _, pl, _⟩ := I.list hq
      refine ⟨pl.isList.typeIs, fun a e => ?_⟩
      cases e
      obtain ⟨o, n, e, c, hd, _⟩ := pl
      exact ⟨o, e, hd⟩
    · refine ⟨⟨o, I.kIn p o hk, hc⟩, fun a e => ?_⟩
      cases e
      exact ⟨o, I.kIn _ o hk, hd⟩
    · have z : ∃ o, s.heap.get? p = some o ∧ o.ExactDict := by
        rcases hk with ⟨kvs, hk⟩ | ⟨kvs, hk⟩
        · obtain ⟨_, _, _, _, o, _, _, e, ex, _⟩ := I.hok p _ hk
          exact ⟨o, e, ex⟩
        · obtain ⟨_, _, _, _, o, _, _, e, ex, _⟩ := I.hok p _ hk
          exact ⟨o, e, ex⟩
      obtain ⟨o, e, ex⟩ := z
      refine ⟨⟨o, e, ex.1⟩, fun a e2 => ?_⟩
      cases e2
      exact ⟨o, e, ex.2.1⟩
    · obtain ⟨o, _, _, _, e, ex, _⟩ := I.hok p _ hk
      refine ⟨⟨o, e, ex.1⟩, fun a e2 => ?_⟩
      cases e2
      exact ⟨o, e, ex.2.1⟩
  | _ => exact False.elim ty
def tBM (K : PySem.W.Frag) (T : String) (r : V → List V → Hp → VK → Prop) (to : TE) (t : TA) : TE := fun σ H Q => to σ H fun x H1 => tyV K T x H1 ∧ t σ H1 fun xs H2 => r x xs H2 Q
variable {o e : Expr} {es : List Expr} {to : TE} {t : TA} {name : Str} {apos cpos : Pos} {T id : String} {r : V → List V → Hp → VK → Prop}
theorem pe_bm (pa : PlainAttrs T) (slot : Slot T name id) (hty : typeOf (.builtin id) = pure (.type "method_descriptor")) (hm : MtR X id r) (ho : PE X o to) (ha : PA X (e :: es) t)
    (hbase : attributeBase o name X.env (eval o X.env) = eval o X.env := by rfl)
    (hfew : ((backTo cpos (starEach (e :: es) X.env)).all (fun x => !x.1) && (backToKw cpos (keywordEach [] X.env)).all (fun x => x.1.isSome)
      && decide ((e :: es).length + ([] : List Keyword).length + (if ([] : List Keyword).isEmpty then 0 else 1) < 30)) = true := by rfl)
    (hline : (apos.endLine == cpos.line) = true := by rfl) (hs : starEach (e :: es) X.env = (false, eval e X.env) :: starEach es X.env := by rfl) (hplain : (backTo cpos (starEach es X.env)).any (·.1) = false := by rfl) :
    PE X (.Call (.Attribute o name apos) (e :: es) [] cpos) (tBM X.K T r to t) := by
  refine .mk ?_
  intro pins s σ H Q I h
  refine wpAny_Call_method_late hbase hfew hline rfl (thn (ho pins s σ H _ I h) fun v s1 ⟨x, H1, I1, r1, ty, q1⟩ => ?_)
  obtain ⟨h1, h2⟩ := tyV_is I1 r1 ty
  refine ⟨T, id, pa, slot, hty, h1, h2, ?_⟩
  have hA := ha cpos pins s1 σ H1 _ I1 q1
  rw [hs] at hA ⊢
  refine Calls.callWith_builtin (by show (false || (backTo cpos (starEach es X.env)).any (·.1)) = false; rw [hplain] <;> rfl) (Calls.evalArgs_plain ?_)
  exact thn hA fun us s2 ⟨vs, H2, I2, r2, q2⟩ => hm pins s2 σ H2 x vs v us Q I2 r1 r2 q2
/- xs.append(e), list.index on a module's tuple .. are MtR facts of 06m -/
end
end L2

namespace L2
open PySem PySem.Spec PyProof.Rows

def MtM (X : Cx) (id : String) (r : V → List V → Hp → VK → Prop) : Prop :=
  ∀ (pins : List (Addr × Obj)) (s : Shared) (σ : St) (H : Hp) (x : V) (xs : List V) (v : Value) (us : List Value) (Q : VK), Inv X pins σ H s → RelV x v → Vals xs us → r x xs H Q →
    wpAny (model X.prog X.w) X.A (call (.builtin id) (v :: us)) (EP X pins σ Q) X.xe s

/-! ### lists of values -/
theorem Vals.one : ∀ {x : V} {us : List Value}, Vals [x] us → ∃ u, us = [u] ∧ RelV x u
  | _, _, .cons r .nil => ⟨_, rfl, r⟩
theorem Vals.two : ∀ {x y : V} {us : List Value}, Vals [x, y] us → ∃ u v, us = [u, v] ∧ RelV x u ∧ RelV y v
  | _, _, _, .cons r (.cons q .nil) => ⟨_, _, rfl, r, q⟩
theorem Vals.zero : ∀ {us : List Value}, Vals [] us → us = []
  | _, .nil => rfl
theorem Vals.dropLast {xs : List V} {us : List Value} (h : Vals xs us) : Vals xs.dropLast us.dropLast := by
  induction h with
  | nil => exact .nil
  | cons r t ih =>
    cases t with
    | nil => exact .nil
    | cons q t' => exact .cons r ih
theorem Vals.reverse {xs : List V} {us : List Value} (h : Vals xs us) : Vals xs.reverse us.reverse := by
  induction h with
  | nil => exact .nil
  | cons r t ih => rw [List.reverse_cons, List.reverse_cons]; exact Vals.append ih (.cons r .nil)
theorem Vals.rep {xs : List V} {us : List Value} (h : Vals xs us) : ∀ k : Nat, Vals (List.replicate k xs).flatten (List.replicate k us).flatten
  | 0 => .nil
  | k + 1 => by
    rw [List.replicate_succ, List.replicate_succ, List.flatten_cons, List.flatten_cons]
    exact Vals.append h (Vals.rep h k)
theorem foldl_rep (its : List Value) : ∀ (k : Nat) (acc : List Value),
    List.foldl (fun x1 x2 => x1 ++ x2) acc.toArray (List.replicate k its.toArray) = (acc ++ (List.replicate k its).flatten).toArray
  | 0, acc => by simp
  | k + 1, acc => by
    have e : acc.toArray ++ its.toArray = (acc ++ its).toArray := by simp
    have e2 : (acc ++ its) ++ (List.replicate k its).flatten = acc ++ (List.replicate (k + 1) its).flatten := by
      rw [List.replicate_succ, List.flatten_cons, List.append_assoc]
    rw [← e2, ← foldl_rep its k (acc ++ its), ← e, List.replicate_succ, List.foldl_cons]

section
variable {X : Cx} {pins : List (Addr × Obj)} {σ : St} {H : Hp} {s : Shared} {l b : Addr} {xs ys zs : List V}

/-! ### the two steps: a tracked list is rewritten, a new list is laid -/
theorem Inv.lset {its its' : List Value} {n : Nat} {f : Array Value → Array Value} {t' : Nat} (I : Inv X pins σ H s) (hH : H l = some (.lst xs))
    (e : s.heap.get? l = some { cls := .type "list", data := .seq its.toArray n }) (hf : f its.toArray = its'.toArray) (hv : Vals ys its') (hz : ys.length ≤ sizeLine) :
    Inv X pins σ (upd H l (.lst ys)) { s with heap := s.heap.update l (Obj.mapSeq f), toks := t' } := by
  have q := PySem.IsL.update e f
  rw [hf] at q
  refine I.write (x := l) (e := l) (by rw [hH]; exact trivial) (.inl rfl) (fun b' u hb hu => (Heap.get?_update_other s.heap (Obj.mapSeq f) (Ne.symm hb)).trans hu) ⟨_, q⟩ ?_
  exact ⟨hz, its', _, hv, q⟩
theorem Inv.lnew {its : List Value} {t' : Nat} (I : Inv X pins σ H s) (hv : Vals ys its) (hz : ys.length ≤ sizeLine) :
    Inv X pins σ (upd H s.heap.objs.size (.lst ys)) { s with heap := s.heap.push { cls := .type "list", data := .seq its.toArray }, toks := t' } :=
  I.laid (fun _ _ q => Heap.get?_push_of_some _ q) (Nat.le_refl _) ⟨hz, its, 0, hv, Heap.get?_push_size _ rfl⟩
theorem Inv.fresh (I : Inv X pins σ H s) : H s.heap.objs.size = none := I.hok.fresh (Nat.le_refl _)
theorem Inv.lstM (I : Inv X pins σ H s) (hH : H l = some (.lst xs)) : xs.length ≤ sizeLine ∧ ∃ (its : List Value) (n : Nat), Vals xs its ∧ xs.length = its.length ∧ s.heap.get? l = some { cls := .type "list", data := .seq its.toArray n } := by
  obtain ⟨z, its, n, r, e⟩ := I.hok l _ hH
  exact ⟨z, its, n, r, r.length, e⟩

theorem notLongL {n : Nat} (h : n ≤ sizeLine) : Builtin.List.listTooLong n = false := by
  unfold Builtin.List.listTooLong
  exact decide_eq_false (by omega)
end

section
variable {X : Cx}

/-! ### methods -/
def rAppend : V → List V → Hp → VK → Prop := fun x vs H Q => ∃ l xs y, x = .ref l ∧ vs = [y] ∧ H l = some (.lst xs) ∧ xs.length < sizeLine ∧ Q .non (upd H l (.lst (xs ++ [y])))
theorem mt_append : MtM X "list.append" rAppend := by
  intro pins s σ H x vs v us Q I rx rv h
  obtain ⟨l, xs, y, rfl, rfl, hH, hz, q⟩ := h
  cases rx
  obtain ⟨u, rfl, ru⟩ := rv.one
  obtain ⟨z, its, n, r, hl, e⟩ := I.lstM hH
  refine call_meets F.slot_list_append ⟨_, e, rfl⟩ F.entry_list_append (F.args_list_append_2 _ _) (PySem.list_append l its.toArray n u (by rw [List.size_toArray]; omega)) ⟨e, ?_⟩
  refine ⟨.non, _, I.lset (its' := its ++ [u]) hH e (by simp) (r.append (.cons ru .nil)) ?_, rfl, q⟩
  rw [List.length_append, List.length_singleton]
  omega

/-! ### list + list, list += list, list * int -/
def rCat : R2 := fun x y H Q => ∃ l b xs zs, x = .ref l ∧ y = .ref b ∧ H l = some (.lst xs) ∧ H b = some (.lst zs) ∧ xs.length + zs.length ≤ sizeLine ∧ ∀ p, H p = none → Q (.ref p) (upd H p (.lst (xs ++ zs)))
theorem op_cat : OpR X (binaryOp .Add) rCat := by
  refine .mk ?_
  intro pins s σ H x y v u Q I rx ry h
  obtain ⟨l, b, xs, zs, rfl, rfl, hH, hB, hz, q⟩ := h
  cases rx
  cases ry
  obtain ⟨z, its, n, r, hl, e⟩ := I.lstM hH
  obtain ⟨z2, its2, n2, r2, hl2, e2⟩ := I.lstM hB
  refine PySem.P.add_list e e2 ?_ (by rw [List.size_toArray, List.size_toArray]; omega)
  have ea : its.toArray ++ its2.toArray = (its ++ its2).toArray := by simp
  rw [ea]
  exact ⟨.ref _, _, I.lnew (t' := s.toks) (r.append r2) (by rw [List.length_append]; omega), rfl, q _ I.fresh⟩
/-- a list times an int (a negative one is nothing) -/
def rRep : R2 := fun x y H Q => ∃ l k xs, x = .ref l ∧ y = .int k ∧ H l = some (.lst xs) ∧ -(2 ^ 63) ≤ k ∧ k < 2 ^ 63 ∧ xs.length * k.toNat ≤ sizeLine ∧
  ∀ p, H p = none → Q (.ref p) (upd H p (.lst (List.replicate k.toNat xs).flatten))
theorem len_rep {α : Type} (xs : List α) (k : Nat) : (List.replicate k xs).flatten.length = k * xs.length := by
  induction k with
  | zero => simp
  | succ k ih => rw [List.replicate_succ, List.flatten_cons, List.length_append, ih, Nat.succ_mul, Nat.add_comm]
theorem op_rep : OpR X (binaryOp .Mult) rRep := by
  refine .mk ?_
  intro pins s σ H x y v u Q I rx ry h
  obtain ⟨l, k, xs, rfl, rfl, hH, h1, h2, hz, q⟩ := h
  cases rx
  obtain ⟨t, rfl⟩ := ry
  obtain ⟨z, its, n, r, hl, e⟩ := I.lstM hH
  have hlen : its.toArray.size * k.toNat ≤ sizeLine := by rw [List.size_toArray, ← hl]; exact hz
  have hcap : ¬ its.toArray.size * k.toNat > (2 ^ 63 - 1) / 8 := by
    have : (sizeLine : Nat) ≤ (2 ^ 63 - 1) / 8 := by decide
    omega
  have hfit : ¬ (!Builtin.List.listFitsIndex k) = true := by
    rw [fitsIndex_both h1 h2]
    exact Bool.false_ne_true
  have hlong : ¬ Builtin.List.listTooLong (its.toArray.size * k.toNat) = true := by
    rw [notLongL hlen]
    exact Bool.false_ne_true
  have hnew : List.foldl (fun x1 x2 => x1 ++ x2) #[] (List.replicate (if its.toArray.isEmpty = true then 0 else k.toNat) its.toArray) = (List.replicate k.toNat its).flatten.toArray := by
    have f0 : ∀ m : Nat, List.foldl (fun x1 x2 => x1 ++ x2) #[] (List.replicate m its.toArray) = (List.replicate m its).flatten.toArray := fun m => by
      have := foldl_rep its m []
      rw [List.nil_append] at this
      exact this
    rw [f0]
    cases its with
    | nil => simp
    | cons a r' => rw [if_neg (by simp)]
  refine wpAny_binaryOp_repeat_ref (T := "list") (U := "int") (by decide) ⟨_, e, rfl⟩ (fun s' => typeIs_int s' k t) noFill_list_mul F.fills_int_mul F.slot_int_rmul repeat_list F.slot_int_index.lookup
    (call_meets F.slot_int_rmul (typeIs_int s k t) F.entry_int_rmul (F.args_int_rmul_2 _ _) (int___rmul___int_list k t l its.toArray n)
      ⟨e, rfl, ⟨_, e, rfl⟩, call_meets F.slot_list_mul ⟨_, e, rfl⟩ F.entry_list_mul (F.args_list_mul_2 _ _) (AutoListH.list___mul___list_int_3 l its.toArray n k t hfit hcap hlong) ⟨e, ?_⟩⟩)
  rw [hnew]
  exact ⟨.ref _, _, I.lnew (t' := s.toks) (r.rep k.toNat) (by rw [len_rep, Nat.mul_comm]; exact hz), rfl, q _ I.fresh⟩

/-! ### del xs[i] -/
end

/-! ### xs[a:b] = ys -/
section
variable {prog : Program} {w : World} {A : Around} {E : Value → Shared → Prop} {s : Shared}
end

section
variable {X : Cx}
end
end L2

namespace Att
open PySem PySem.W PySem.Calls PyProof.Rows

/-! ### the script -/
theorem ints_of_wellAll {P : Params} {h : Heap} : ∀ (ns : List Int) (vs : List Value), WellAll P h vs (ns.map WData.int) → IntsAre vs ns := by
  intro ns
  induction ns with
  | nil =>
    intro vs w
    rw [List.map_nil] at w
    cases w
    exact .nil
  | cons n ns ih =>
    intro vs w
    rw [List.map_cons] at w
    cases w with
    | cons a b =>
      cases a
      exact .cons _ _ (ih _ b)

theorem script_of {l : OpenLaw} {n : Nat} (hn : l.most = some n) {P : Params} {h : Heap} {args : List WData} {vals : List Value}
    (hpre : l.row.toRowW.claim.pre args = true) (hwl : WellAll P h vals args) :
    ∃ a vs ns, vals = [Value.ref a] ∧ args = [WData.list (ns.map WData.int)] ∧ h.get? a = some { cls := .type "list", data := .seq vs.toArray } ∧ IntsAre vs ns ∧ ns.length ≤ n := by
  have hsh : WShape.hasAll [] args [.list .int] = true := (pre_splitW hpre).1
  have hc : l.pre.holds [] { args := args } = true := (pre_splitW hpre).2
  obtain ⟨d, r, rfl, h1, h2⟩ := hasAllW_cons hsh
  obtain rfl := hasAllW_nil h2
  obtain ⟨xs, rfl, h3⟩ := hasW_list h1
  obtain ⟨ns, rfl⟩ := items_int h3
  have hlen : ns.length ≤ n := by
    unfold OpenLaw.pre at hc
    have h4 : (WTm.not (.lt (.lit (.int (n : Int))) (.len (.arg 0)))).holds [] { args := [.list (ns.map .int)] } = true := by
      have h4 := (holds_andW hc).1
      rw [hn] at h4
      exact h4
    have h5 := condW_of h4 (w_not (w_lt w_lit (w_len_list (w_arg rfl))))
    rw [List.length_map] at h5
    refine Nat.le_of_not_lt fun q => ?_
    have q' : (n : Int) < ((ns.length : Nat) : Int) := by omega
    first
      | (rw [decide_eq_true q'] at h5; exact absurd h5 (by decide))
      | (simp at h5; omega)
  cases hwl with
  | cons w1 w2 =>
    cases w2
    cases w1 with
    | list ho hall => exact ⟨_, _, ns, rfl, rfl, ho, ints_of_wellAll ns _ hall, hlen⟩

theorem post_true (l : OpenLaw) (args : List WData) : l.row.toRowW.claim.post args (.bool true) args = true :=
  postW_of (r := l.row.toRowW) (X := (true == true))
    (show WShape.has [] (.bool true) .bool = true by first | rfl | decide | simp [WShape.has, WShape.arms, WShape.armsAll])
    (show (WTm.eq .res (.lit (.bool true))).value [] { args := args, res := some (.bool true), after := args } = some (.bool (true == true)) from w_eq_bool (w_res rfl) w_lit) rfl

/-! ### the attachment: holds_open's last premise (the goal 'hc' behind k_head) from a wpAny of the law's body -/
/-- the same from a codeAny of the CALL (for a layer whose function contracts speak of calls) -/
theorem attach_call {l : OpenLaw} {n : Nat} {q : Program} {loose : List Str} {XP : (Str → Option Value) → Heap → Prop} {YP : World → Heap → Prop} {d : DefRec}
    (hn : l.most = some n) (hdf : d.params.defaults = [])
    (call : ∀ (w : World) (s₀ s₁ : Shared) (mg mb : Str → Option Value) (fa : Addr) (o : Obj) (pm cd doc : Value) (a : Addr) (vs : List Value) (ns : List Int),
      Ground q loose [] XP w s₀ mg mb s₁.heap → YP w s₁.heap →
      s₁.heap.get? fa = some o → o.data = .func (docDef d.name d.params d.body d.scope pm cd doc) → s₁.heap.CodeRec cd d.name → mg d.name = some (.ref fa) →
      s₁.heap.get? a = some { cls := .type "list", data := .seq vs.toArray } → IntsAre vs ns → ns.length ≤ n → s₁.gens = #[] →
      codeAny (model l.prog w) callerA (.call (.ref fa) ⟨[.ref a], []⟩) (fun r s' => r = .ok (.ret (.bool true)) ∧ OldK s₁.heap s'.heap ∧ s'.os = s₁.os ∧ AllBare s'.gens) s₁) :
    WalkO q loose XP YP l.row.toRowW d [] (fun f vs => PySem.call f vs) := by
  intro w s₀ s₁ mg mb G Y fa o pm cd doc dV kV ho hd hcd hD hmg hg args vals as hpre hlay hrd hwl hlo
  obtain rfl : dV = .none := Dflts.none hD hdf
  obtain rfl : kV = .none := Dflts.noKw hD
  obtain ⟨a, vs, ns, rfl, rfl, hobj, hints, hlen⟩ := script_of hn hpre hwl
  refine enter_call (codeAny_mono (call w s₀ s₁ mg mb fa o pm cd doc a vs ns G Y ho (fd_plain hd) hcd hmg hobj hints hlen hg) fun r s' hq => ?_)
  obtain ⟨rfl, h2, h3, h4⟩ := hq
  exact ⟨.inl ⟨.bool true, .bool true, [], rfl, fun _ => rfl, .bool true, post_true l _, fun _ => ⟨List.Pairwise.nil, fun _ hm => (nomatch hm)⟩⟩, h2, h3, h4⟩

/-! ### rules over ANY heap (no ledger) from facts about the written part K: the library's own take a ledger (News) for what they write -/
section
variable {prog : Program} {w : World} {A : Around} {E : Value → Shared → Prop} {s : Shared} {K : Frag}

/-! the whole heap as the ledger: makes every rule that writes through a ledger a rule over any heap -/
def ledger (h : Heap) (L d : Addr) : List (Addr × Obj) := (List.range h.objs.size).filterMap fun a => if a = L ∨ a = d then none else (h.get? a).map fun o => (a, o)
end
end Att

namespace L2
open PySem PySem.Spec PyProof.Rows

theorem vals_ints : ∀ {vs : List Value} {ns : List Int}, IntsAre vs ns → Vals (ns.map V.int) vs
  | _, _, .nil => .nil
  | _, _, .cons n t h => .cons ⟨t, rfl⟩ (vals_ints h)

/-- nothing is tracked but the script, known to the object (or it is an object of the module) -/
def Only (H : Hp) : Prop := ∀ b, H b = none ∨ ∃ o xs, H b = some (.frz o (.lst xs))

/-- THE HEAD: the law's promise, at the heap behind the top. F, the promise of the law's def, may use that base is part of the heap (so K.In base, base.Ns mainGlobals mg stand in Mod) -/
theorem law_call {P : Program} {w : World} {K : PySem.W.Frag} {mg mb : Str → Option Value} {CX : CXT} {k : Nat} {fa a : Addr} {fd : FuncData} {x : Str} {sp : Sp} {s₁ : Shared} {vs : List Value} {ns : List Int}
    (KX : K.In s₁.heap) (hns : s₁.heap.Ns mainGlobals mg) (hb : s₁.heap.Ns builtinsNs mb) (hbb : ∀ x : Str, x ≠ "__name__" → mb x = bootBuiltins x) (hlim : s₁.heap.NoLimit) (hg : s₁.gens = #[])
    (ha : s₁.heap.get? a = some { cls := .type "list", data := .seq vs.toArray }) (hi : IntsAre vs ns) (hl : ns.length ≤ sizeLine) (hr : Room k callerA)
    (F : ∀ base : Heap, K.In base → base.Ns mainGlobals mg → FnOk P w K mg base CX k fa fd [x] sp) (hbind : ∀ (s : Shared) (u : Value), BindsTo s fd ⟨[u], []⟩ [(x, u)])
    (hsp : ∀ H : Hp, Only H → SqL K H a (ns.map V.int) → sp [.ref a] H (fun v _ => v = .bl true) fun _ _ _ => False)
    (hCX : ∀ H e s', CX [] H s₁ (fun _ _ _ => False) e s' → False) :
    codeAny (model P w) callerA (.call (.ref fa) ⟨[.ref a], []⟩) (fun r s' => r = .ok (.ret (.bool true)) ∧ OldK s₁.heap s'.heap ∧ s'.os = s₁.os ∧ AllBare s'.gens) s₁ := by
  have rv := vals_ints hi
  have lenV := hi.length
  -- from an abstract heap in which nothing but the script may be tracked
  have core : ∀ H : Hp, Only H → SqL K H a (ns.map V.int) → HOk P w H s₁.heap → (∀ b, H b ≠ none → b = a) → (H a ≠ none → K.lookup a = none) →
      codeAny (model P w) callerA (.call (.ref fa) ⟨[.ref a], []⟩) (fun r s' => r = .ok (.ret (.bool true)) ∧ OldK s₁.heap s'.heap ∧ s'.os = s₁.os ∧ AllBare s'.gens) s₁ := by
    intro H hO hS hok hA hK
    have base_of : ∀ {b : Addr} {o : Obj}, s₁.heap.get? b = some o → H b = none → (hidT s₁.heap H).get? b = some o := fun e n => hidT_get e n
    have noA : ∀ {b : Addr} {o : Obj} {es : Array DictEntry} {ep : Nat}, s₁.heap.get? b = some o → o.data = .dict es ep → H b = none := fun {b o es ep} e d => by
      cases q : H b with
      | none => rfl
      | some u =>
        have e' : b = a := hA b (by rw [q]; simp)
        subst e'
        rw [ha] at e; cases e
        have d' : Data.seq vs.toArray _ = Data.dict es ep := d
        cases d'
    have nsK : ∀ {b : Addr} {m : Str → Option Value}, s₁.heap.Ns b m → (hidT s₁.heap H).Ns b m := fun {b m} ⟨o, es, ep, e, d, r⟩ => ⟨o, es, ep, base_of e (noA e d), d, r⟩
    have hKb : K.In (hidT s₁.heap H) := fun b o e => base_of (KX b o e) (by
      cases q : H b with
      | none => rfl
      | some u =>
        have e' : b = a := hA b (by rw [q]; simp)
        subst e'
        rw [hK (by rw [q]; simp)] at e; cases e)
    have hM : Mod K mg (hidT s₁.heap H) := ⟨hKb, nsK hns, ⟨mb, nsK hb, hbb⟩, let ⟨mc, h1, h2⟩ := hlim; ⟨mc, nsK h1, h2⟩⟩
    have e0 : Env0 P w K mg (hidT s₁.heap H) callerA [] s₁ H := ⟨rfl, hM, fun b o e => of_hidT e, Nat.le_of_eq (hidT_size _ _), trivial, fun b hb => absurd (show b ∈ ([] : List Addr) from hb) (by simp), hok, .of_eq hg⟩
    refine codeAny_mono ((F _ hKb (nsK hns)).run callerA [] s₁ H ⟨[.ref a], []⟩ [.ref a] [.ref a] _ _ hr e0 (hbind s₁ (.ref a)) (.cons rfl .nil) (hsp H hO hS)) fun r s' h => ?_
    cases r with
    | error e => exact (hCX H e s' h).elim
    | ok fl =>
      cases fl with
      | next => exact False.elim h
      | brk => exact False.elim h
      | cont => exact False.elim h
      | ret u =>
        obtain ⟨v, H', os, bare, un, hok', r', q⟩ := h
        have q' : v = .bl true := q
        subst q'
        obtain rfl : u = Value.bool true := r'
        refine ⟨rfl, OldK.of_keep fun b o e => ?_, os, bare⟩
        cases q : H b with
        | none => exact un.keep b o e q (by intro z; exact absurd (show b ∈ ([] : List Addr) from z) (by simp)) (by simp)
        | some u =>
          rcases hO b with z | ⟨ob, xs, z⟩
          · rw [q] at z; cases z
          · have z2 := un.frzs b ob _ z
            obtain ⟨e1, _⟩ := hok b _ z
            obtain ⟨e2, _⟩ := hok' b _ z2
            rw [e] at e1; cases e1
            exact e2
  cases hk : K.lookup a with
  | some o =>
    -- the script is one of the module's own objects
    have e := KX a o hk
    rw [ha] at e
    cases e
    refine core (fun _ => none) (fun _ => .inl rfl) (.inr ⟨_, vs.toArray, _, hk, rfl, rfl, rfl, by rw [List.size_toArray, lenV]; exact hl, by simpa using rv⟩) (fun b u z => by have z' : (none : Option HO) = some u := z; cases z') (fun b z => absurd rfl z) fun z => absurd rfl z
  | none =>
    refine core (fun b => if b = a then some (.frz { cls := .type "list", data := .seq vs.toArray } (.lst (ns.map V.int))) else none) (fun b => ?_) (.inl (.inr ⟨{ cls := .type "list", data := .seq vs.toArray }, if_pos rfl⟩)) (fun b u z => ?_) (fun b z => ?_) fun _ => hk
    · by_cases hb : b = a
      · exact .inr ⟨_, _, if_pos hb⟩
      · exact .inl (if_neg hb)
    · by_cases hb : b = a
      · have z' := (if_pos hb).symm.trans z
        cases z'
        subst hb
        exact ⟨ha, by rw [List.length_map]; exact hl, vs, _, rv, ha⟩
      · have z' := (if_neg hb).symm.trans z
        cases z'
    · by_cases hb : b = a
      · exact hb
      · exact absurd (if_neg hb) z
end L2

namespace L2
open PySem PySem.Spec PyProof.Rows

abbrev KOf {K : PySem.W.Frag} {h : Heap} (_ : K.In h) : PySem.W.Frag := K

/-- the goal that k_head leaves (case hc), from the law's promise. F gives the function object fd (K's own) once, then the promise over every base -/
theorem walk_of {l : PySem.W.OpenLaw} {n k : Nat} {q : Program} {loose : List Str} {XP : (Str → Option Value) → Heap → Prop} {YP : World → Heap → Prop} {d : DefRec} {K : Params → PySem.W.Frag} {CX : World → CXT} {sp : World → Sp} {x : Str}
    (hn : l.most = some n) (hn2 : n ≤ sizeLine) (hdf : d.params.defaults = []) (hr : Room k callerA)
    (hY : ∀ (w : World) (h : Heap), YP w h → (K w.params).In h)
    (F : ∀ (w : World) (mg : Str → Option Value) (fa : Addr) (h : Heap), (K w.params).In h → h.Ns mainGlobals mg → mg d.name = some (.ref fa) →
      ∃ fd : FuncData, (∀ (s : Shared) (u : Value), BindsTo s fd ⟨[u], []⟩ [(x, u)]) ∧
        ∀ base : Heap, (K w.params).In base → base.Ns mainGlobals mg → FnOk l.prog w (K w.params) mg base (CX w) k fa fd [x] (sp w))
    (hsp : ∀ (w : World) (H : Hp) (a : Addr) (ns : List Int), ns.length ≤ n → Only H → SqL (K w.params) H a (ns.map V.int) → sp w [.ref a] H (fun v _ => v = .bl true) fun _ _ _ => False)
    (hCX : ∀ (w : World) (H : Hp) (s : Shared) (e : Value) (s' : Shared), CX w [] H s (fun _ _ _ => False) e s' → False) :
    PySem.W.WalkO q loose XP YP l.row.toRowW d [] (fun f vs => PySem.call f vs) := by
  refine Att.attach_call hn hdf fun w s₀ s₁ mg mb fa o pm cd doc a vs ns G Y ho hd hcd hmg hobj hints hlen hg => ?_
  have KX := hY w _ Y
  obtain ⟨fd, hb, hF⟩ := F w mg fa _ KX G.T.g hmg
  exact law_call KX G.T.g G.T.b G.T.builtins G.T.nolimit hg hobj hints (Nat.le_trans hlen hn2) hr hF hb (fun H hO hS => hsp w H a ns hlen hO hS) fun H e s' => hCX w H s₁ e s'
end L2

/- THE LAST THEOREM (shape; LID, My.* are yours):
   My.Adr: a structure of the addresses that your layer names (classes, functions); My.Txt K t: a structure (Prop) of the equations over K;
   My.txt_mk : {K} {implicit addresses ..} (e1 : nsIn K mainGlobals "law" = some (some (.ref f))) (e2 : K.lookup f = some ⟨oc, od, .func (fnOf "law" "law" params body scope dV kV doc pm an cdv ct), sl⟩) (e3 : codeIn K cdv "law" = true) .. : ∃ t, My.Txt K t

set_option maxRecDepth 100000 in
set_option maxHeartbeats 0 in
theorem PySem.Challenge.cw_LID_holds : PySem.Challenge.rw_LID.Holds := by
  w_on; o_law; k_head; (case hw => w_witness2)
  k_fill
  refine L2.walk_of (l := PySem.Challenge.rw_LID) (n := 63) (k := 40) (x := "script") (CX := fun w => ..) (sp := fun _ => My.sp_law) rfl (by decide) rfl ⟨rfl, by decide, by decide⟩ (fun w h Y => PySem.W.kIn_of Y) ?F ?S ?C
  case F =>
    intro w mg fa h KX G hmg
    have T : ∃ t, My.Txt (L2.KOf KX) t := by
      dsimp only [L2.KOf]                          -- K must stand as «<heap const> w.params» for k_is
      refine' My.txt_mk ?e1 ?e2 ?e3 ..
      (case e1 => PySem.W.k_is)                    -- in the order: a name -> its address -> its object -> its parts
      (case e2 => PySem.W.k_is)
      ..
    obtain ⟨t, T⟩ := T
    have e0 := hmg.symm.trans (PySem.W.mg_of KX G T.law)
    cases e0                                       -- fa is the law's own address
    exact ⟨_, fun s u => .of_eq rfl, fun base kb nb => My.law_fn T kb nb⟩     -- if «.of_eq rfl» comes too early: refine' ⟨_, ?b, fun base kb nb => My.law_fn T kb nb⟩; exact fun s u => .of_eq rfl
  case S => exact fun w H a ns hl hO hS => ..
  case C => exact ..
(the tactic k_is has no namespace: write k_is) -/

/-! SHORT WORDS over the layer: a def of the text, its body, what a loop and a test want. -/
namespace L2
open PySem PySem.Spec PyProof.Rows

/-! ### the text by places -/
def defArgs (s : Stmt) : Arguments := match s with
  | .FunctionDef _ a _ _ _ _ _ _ _ _ => a
  | _ => { posonlyargs := [], args := [], vararg := none, kwonlyargs := [], kw_defaults := [], kwarg := none, defaults := [] }
def defBody (s : Stmt) : List Stmt := match s with
  | .FunctionDef _ _ b _ _ _ _ _ _ _ => b
  | _ => []
def defScope (s : Stmt) : Scope := match s with
  | .FunctionDef _ _ _ _ _ _ sc _ _ _ => sc
  | _ => { kind := .function, names := [], isGenerator := false, isCoroutine := false }

/-! ### no exception leaves a def -/
abbrev CX0 : CXT := fun _ _ _ _ _ _ => False
abbrev E0 : XK := fun _ _ _ => False
theorem pass0 {X : Cx} : Passes CX0 X E0 := fun _ _ _ _ _ _ _ h => h.elim

/-! ### a def (or method) of the text as it stands behind the top -/
structure Fun (K : PySem.W.Frag) (x qual : Str) (st : Stmt) (f : Addr) (fd : FuncData) : Prop where
  ex : ∃ (oc : Value) (od : Option Addr) (kV doc pm : Value) (an : Option Addr) (cdv ct : Value) (osl : Array (Option Value)),
    fd = PySem.W.fnOf x qual (defArgs st) (defBody st) (defScope st) .none kV doc pm an cdv ct ∧ K.lookup f = some ⟨oc, od, .func fd, osl⟩ ∧ PySem.W.codeIn K cdv qual = true
  kp : PySem.W.keepIn K (.ref f) = true
section
variable {P : Program} {w : World} {K : PySem.W.Frag} {mg : Str → Option Value} {base : Heap}
/-- THE RULE for a def: its body as a term of rules, and the reading of that term -/
theorem Fun.ok {x qual : Str} {st : Stmt} {f : Addr} {fd : FuncData} {N ps : List Str} {k : Nat} {sp : Sp} (F : Fun K x qual st f fd) (S : FnScope N ps (defScope st)) (len : ∀ vs H Q E, sp vs H Q E → vs.length = ps.length)
    (hbody : ∀ (cdv : Value) (A : Around) (outer : List Env) (s : Shared) (H : Hp) (vs : List V) (Q : VK) (E : XK), Room k (A.deeper (envOfC qual (defScope st) s.heap.objs.size f cdv)) → sp vs H Q E →
      ∃ t, PSs (cxOf CX0 P w K mg base N qual (defScope st) f cdv A outer s H E).nox (defBody st) t ∧ t { nx := fun _ H' => Q .non H', rt := Q } (start N vs) H) : FnOk P w K mg base CX0 (k + 1) f fd ps sp := by
  obtain ⟨oc, od, kV, doc, pm, an, cdv, ct, osl, rfl, lk, hcd⟩ := F.ex
  refine fn_of lk hcd S len fun A outer s H vs Q E hr hsp => ?_
  obtain ⟨t, h, q⟩ := hbody cdv A outer s H vs Q E hr hsp
  exact ⟨t, h.nox, q⟩
/-- how its arguments bind (no defaults): h is «fun _ _ _ _ _ _ us hl => match us, hl with | [_, _], _ => rfl», one _ a parameter -/
theorem Fun.binds {x qual : Str} {st : Stmt} {f : Addr} {fd : FuncData} {ps : List Str} (F : Fun K x qual st f fd)
    (h : ∀ (kV doc pm : Value) (an : Option Addr) (cdv ct : Value) (us : List Value), us.length = ps.length → bindArgs (PySem.W.fnOf x qual (defArgs st) (defBody st) (defScope st) .none kV doc pm an cdv ct) ⟨us, []⟩ = pure (ps.zip us)) : Binds K fd ps [] := by
  obtain ⟨oc, od, kV, doc, pm, an, cdv, ct, osl, rfl, lk, hcd⟩ := F.ex
  exact .all (h kV doc pm an cdv ct)
theorem fun_mk {x qual : Str} {st : Stmt} {f : Addr} {oc : Value} {od an : Option Addr} {osl : Array (Option Value)} {kV doc pm cdv ct : Value} (l : K.lookup f = some ⟨oc, od, .func (PySem.W.fnOf x qual (defArgs st) (defBody st) (defScope st) .none kV doc pm an cdv ct), osl⟩)
    (c : PySem.W.codeIn K cdv qual = true) (k : PySem.W.keepIn K (.ref f) = true) : Fun K x qual st f (PySem.W.fnOf x qual (defArgs st) (defBody st) (defScope st) .none kV doc pm an cdv ct) := ⟨⟨oc, od, kV, doc, pm, an, cdv, ct, osl, rfl, l, c⟩, k⟩
end
theorem small1000 {n : Nat} (h : n ≤ 1000) : n < sizeLine := Nat.lt_of_le_of_lt h (by decide)

/-! ### expressions in short: the name that stands in the i-th slot -/
section
variable {X : Cx}
theorem pv (i : Nat) {x : Str} {pos : Pos} (hN : X.N[i]? = some x := by rfl) (hv : Vis X.env.scope x := by first | exact Or.inl rfl | exact Or.inr (Or.inl rfl) | exact Or.inr (Or.inr rfl)) (hd : (x == ("__debug__" : Str)) = false := by decide)
    (hcd : (x == ("__classdict__" : Str)) = false := by decide) : PE X (.Name x pos) (tVar i) := pe_var hN hv hd hcd
end

/-! ### tests -/
/-! ### heaps -/
/-- all that was tracked is as it was -/
def Same (H H' : Hp) : Prop := ∀ b o, H b = some o → H' b = some o
theorem Same.refl (H : Hp) : Same H H := fun _ _ h => h
theorem Same.trans {H H1 H2 : Hp} (a : Same H H1) (b : Same H1 H2) : Same H H2 := fun c o h => b c o (a c o h)
theorem Same.free {H H' : Hp} (e : Same H H') {l : Addr} (h : H' l = Option.none) : H l = Option.none := by
  cases q : H l with
  | none => rfl
  | some o =>
    rw [e l o q] at h
    cases h
theorem Same.seq {K : PySem.W.Frag} {H H' : Hp} {a : Addr} {xs : List V} (e : Same H H') (h : SqL K H a xs) : SqL K H' a xs := by
  rcases h with (h | ⟨o, h⟩) | h
  · exact .inl (.inl (e _ _ h))
  · exact .inl (.inr ⟨o, e _ _ h⟩)
  · exact .inr h

end L2
namespace L2
open PySem PySem.Spec PyProof.Rows

/-! ### lists of pairs as tables -/
section
variable {κ : Type} [DecidableEq κ]
def valV (kvs : List (κ × V)) (k : κ) : Option V := (kvs.find? fun kv => decide (kv.1 = k)).map (·.2)
/-- in its place, or at the end -/
def putK (kvs : List (κ × V)) (k : κ) (v : V) : List (κ × V) :=
  if (kvs.any fun kv => decide (kv.1 = k)) = true then kvs.map (fun kv => if kv.1 = k then (kv.1, v) else kv) else kvs ++ [(k, v)]
def dropK (kvs : List (κ × V)) (k : κ) : List (κ × V) := kvs.filter fun kv => decide (kv.1 ≠ k)

theorem valV_pos {p : κ × V} {r : List (κ × V)} {k : κ} (e : p.1 = k) : valV (p :: r) k = some p.2 := by simp [valV, List.find?_cons, e]
theorem valV_neg {p : κ × V} {r : List (κ × V)} {k : κ} (e : ¬ p.1 = k) : valV (p :: r) k = valV r k := by simp [valV, List.find?_cons, e]
theorem valV_any (k : κ) : ∀ kvs : List (κ × V), (kvs.any fun kv => decide (kv.1 = k)) = (valV kvs k).isSome
  | [] => rfl
  | p :: r => by
    rw [List.any_cons]
    by_cases e : p.1 = k
    · simp only [valV_pos e, decide_eq_true e, Bool.true_or, Option.isSome_some]
    · rw [valV_neg e, decide_eq_false e, Bool.false_or]; exact valV_any k r
theorem RelO.isSome_eq {o : Option V} {u : Option Value} (r : RelO o u) : o.isSome = u.isSome := by
  cases o with
  | none => cases u with
    | none => rfl
    | some _ => exact (show False from r).elim
  | some _ => cases u with
    | none => exact (show False from r).elim
    | some _ => rfl
theorem RelO.getD {o : Option V} {u : Option Value} {d : V} {d' : Value} (r : RelO o u) (rd : RelV d d') : RelV (o.getD d) (u.getD d') := by
  cases o with
  | none => cases u with
    | none => exact rd
    | some _ => exact (show False from r).elim
  | some _ => cases u with
    | none => exact (show False from r).elim
    | some _ => exact r

/-- raw tables of the same keys -/
theorem KV.val {kvs : List (κ × V)} {vs : List (κ × Value)} (r : KV kvs vs) (k : κ) : RelO (valV kvs k) (valueAt vs k) := by
  unfold KV at r
  induction r with
  | nil => exact True.intro
  | @cons p q ps qs h t ih =>
    obtain ⟨h1, h2⟩ := h
    by_cases e : p.1 = k
    · have e' : q.1 = k := h1.symm.trans e
      have b : valueAt (q :: qs) k = some q.2 := by simp [valueAt, List.find?_cons, e']
      rw [valV_pos e, b]; exact h2
    · have e' : ¬ q.1 = k := fun z => e (h1.trans z)
      have b : valueAt (q :: qs) k = valueAt qs k := by simp [valueAt, List.find?_cons, e']
      rw [valV_neg e, b]; exact ih
theorem KV.any {kvs : List (κ × V)} {vs : List (κ × Value)} (r : KV kvs vs) (k : κ) : (kvs.any fun kv => decide (kv.1 = k)) = vs.any fun kv => decide (kv.1 = k) := by
  unfold KV at r
  induction r with
  | nil => rfl
  | cons h t ih => rw [List.any_cons, List.any_cons, ih, h.1]
theorem KV.repl {kvs : List (κ × V)} {vs : List (κ × Value)} (r : KV kvs vs) (k : κ) {y : V} {u : Value} (ry : RelV y u) :
    KV (kvs.map fun kv => if kv.1 = k then (kv.1, y) else kv) (vs.map fun kv => if kv.1 = k then (kv.1, u) else kv) := by
  unfold KV at r ⊢
  induction r with
  | nil => exact .nil
  | @cons p q ps qs h t ih =>
    rw [List.map_cons, List.map_cons]
    refine .cons ?_ ih
    obtain ⟨h1, h2⟩ := h
    by_cases e : p.1 = k
    · rw [if_pos e, if_pos (h1.symm.trans e)]; exact ⟨h1, ry⟩
    · rw [if_neg e, if_neg (fun z => e (h1.trans z))]; exact ⟨h1, h2⟩
theorem KV.put {kvs : List (κ × V)} {vs : List (κ × Value)} (r : KV kvs vs) (k : κ) {y : V} {u : Value} (ry : RelV y u) : KV (putK kvs k y) (stored vs k u) := by
  unfold putK stored
  rw [r.any k]
  by_cases e : (vs.any fun kv => decide (kv.1 = k)) = true
  · rw [if_pos e, if_pos e]; exact r.repl k ry
  · rw [if_neg e, if_neg e]; exact Paired.snoc r ⟨rfl, ry⟩
theorem KV.drop {kvs : List (κ × V)} {vs : List (κ × Value)} (r : KV kvs vs) (k : κ) : KV (dropK kvs k) (without vs k) := by
  unfold KV at r ⊢
  unfold dropK without
  induction r with
  | nil => exact .nil
  | @cons p q ps qs h t ih =>
    obtain ⟨h1, h2⟩ := h
    rw [List.filter_cons, List.filter_cons]
    by_cases e : p.1 = k
    · have a : ¬ decide (p.1 ≠ k) = true := by simp [e]
      have b : ¬ decide (q.1 ≠ k) = true := by simp [h1.symm.trans e]
      rw [if_neg a, if_neg b]; exact ih
    · have e' : ¬ q.1 = k := fun z => e (h1.trans z)
      have a : decide (p.1 ≠ k) = true := by simp [e]
      have b : decide (q.1 ≠ k) = true := by simp [e']
      rw [if_pos a, if_pos b]; exact .cons ⟨h1, h2⟩ ih
theorem KV.keys {kvs : List (κ × V)} {vs : List (κ × Value)} (r : KV kvs vs) : kvs.map (·.1) = vs.map (·.1) := by
  unfold KV at r
  induction r with
  | nil => rfl
  | cons h t ih => rw [List.map_cons, List.map_cons, ih, h.1]
theorem KV.length {kvs : List (κ × V)} {vs : List (κ × Value)} (r : KV kvs vs) : kvs.length = vs.length := Paired.length r
end


/-! ### a tracked dict, its keys ints and texts or tuples of these -/
/-- raw entries of a dict with tuple keys -/
abbrev KT (H : Hp) : List (List Key × V) → List (List Key × Addr × Value) → Prop := Paired fun p q => p.1 = q.1 ∧ H q.2.1 = some (.tup (p.1.map kV)) ∧ RelV p.2 q.2.2
theorem KT.val {H : Hp} {kvs : List (List Key × V)} {xs : List (List Key × Addr × Value)} (r : KT H kvs xs) (k : List Key) : RelO (valV kvs k) ((atKey xs k).map (·.2)) := by
  induction r with
  | nil => exact True.intro
  | @cons p q ps qs h t ih =>
    obtain ⟨h1, _, h2⟩ := h
    by_cases e : p.1 = k
    · have e' : q.1 = k := h1.symm.trans e
      have b : atKey (q :: qs) k = some q.2 := by simp [atKey, List.find?_cons, e']
      rw [valV_pos e, b]; exact h2
    · have e' : ¬ q.1 = k := fun z => e (h1.trans z)
      have b : atKey (q :: qs) k = atKey qs k := by simp [atKey, List.find?_cons, e']
      rw [valV_neg e, b]; exact ih
theorem KT.repl {H : Hp} {kvs : List (List Key × V)} {xs : List (List Key × Addr × Value)} (r : KT H kvs xs) (k : List Key) {y : V} {u : Value} (ry : RelV y u) :
    KT H (kvs.map fun kv => if kv.1 = k then (kv.1, y) else kv) (xs.map (putAt k u)) := by
  induction r with
  | nil => exact .nil
  | @cons p q ps qs h t ih =>
    rw [List.map_cons, List.map_cons]
    refine .cons ?_ ih
    obtain ⟨h1, h2, h3⟩ := h
    unfold putAt
    by_cases e : p.1 = k
    · rw [if_pos e, if_pos (h1.symm.trans e)]; exact ⟨h1, h2, ry⟩
    · rw [if_neg e, if_neg (fun z => e (h1.trans z))]; exact ⟨h1, h2, h3⟩
theorem KT.put {H : Hp} {kvs : List (List Key × V)} {xs : List (List Key × Addr × Value)} (r : KT H kvs xs) (k : List Key) {b : Addr} {y : V} {u : Value} (hb : H b = some (.tup (k.map kV))) (ry : RelV y u) :
    KT H (putK kvs k y) (storedH xs k b u) := by
  have e : (kvs.any fun kv => decide (kv.1 = k)) = (atKey xs k).isSome := by
    rw [valV_any, (r.val k).isSome_eq, Option.isSome_map]
  unfold putK storedH
  rw [e]
  by_cases q : (atKey xs k).isSome = true
  · rw [if_pos q, if_pos q]; exact r.repl k ry
  · rw [if_neg q, if_neg q]; exact Paired.snoc r ⟨rfl, hb, ry⟩
theorem KT.keeps {H H' : Hp} {kvs : List (List Key × V)} {xs : List (List Key × Addr × Value)} (r : KT H kvs xs) (ht : ∀ b ys, H b = some (.tup ys) → H' b = some (.tup ys)) : KT H' kvs xs :=
  Paired.mapP r fun _ _ z => ⟨z.1, ht _ _ z.2.1, z.2.2⟩

section
variable {P : Program} {w : World} {H : Hp} {h : Heap} {a : Addr}
end

/-- what the dict at a holds at the key y -/
def DGet (H : Hp) (a : Addr) (y : V) (r : Option V) : Prop :=
  (∃ kvs k, Rd H a (.dK kvs) ∧ y = kV k ∧ r = valV kvs k) ∨ ∃ kvs k b, Rd H a (.dT kvs) ∧ y = .ref b ∧ H b = some (.tup (k.map kV)) ∧ r = valV kvs k
/-- the heap behind a[y] = v -/
def DPut (H : Hp) (a : Addr) (y v : V) (H' : Hp) : Prop :=
  (∃ kvs k, H a = some (.dK kvs) ∧ y = kV k ∧ kvs.length < sizeLine ∧ H' = upd H a (.dK (putK kvs k v))) ∨
  ∃ kvs k b, H a = some (.dT kvs) ∧ y = .ref b ∧ H b = some (.tup (k.map kV)) ∧ kvs.length < sizeLine ∧ H' = upd H a (.dT (putK kvs k v))
theorem DGet.k {H : Hp} {a : Addr} {kvs : List (Key × V)} {k : Key} (e : H a = some (.dK kvs)) : DGet H a (kV k) (valV kvs k) := .inl ⟨kvs, k, .inl e, rfl, rfl⟩
theorem DGet.t {H : Hp} {a b : Addr} {kvs : List (List Key × V)} {k : List Key} (e : H a = some (.dT kvs)) (eb : H b = some (.tup (k.map kV))) : DGet H a (.ref b) (valV kvs k) := .inr ⟨kvs, k, b, .inl e, rfl, eb, rfl⟩
theorem DPut.k {H : Hp} {a : Addr} {kvs : List (Key × V)} {k : Key} {v : V} (e : H a = some (.dK kvs)) (hl : kvs.length < sizeLine) : DPut H a (kV k) v (upd H a (.dK (putK kvs k v))) := .inl ⟨kvs, k, e, rfl, hl, rfl⟩
theorem DPut.t {H : Hp} {a b : Addr} {kvs : List (List Key × V)} {k : List Key} {v : V} (e : H a = some (.dT kvs)) (eb : H b = some (.tup (k.map kV))) (hl : kvs.length < sizeLine) :
    DPut H a (.ref b) v (upd H a (.dT (putK kvs k v))) := .inr ⟨kvs, k, b, e, rfl, eb, hl, rfl⟩


section
variable {X : Cx} {pins : List (Addr × Obj)} {σ : St} {H : Hp} {s : Shared} {a : Addr} {y v : V} {u r : Value} {o : Option V} {A : Around} {E : Value → Shared → Prop}

end

section
variable {X : Cx} {pins : List (Addr × Obj)} {σ : St} {H : Hp} {s : Shared} {a : Addr} {kvs : List (Key × V)} {k : Key} {u : Value} {A : Around} {E : Value → Shared → Prop}
end


/-! ### readings and rules -/
section
variable {X : Cx} {o i e value : Expr} {pos pos' tpos : Pos} {td ty tv : TE}
end


/-! ### displays -/
section
variable {X : Cx} {pos : Pos}
end

/-! ### methods -/
/-- a method call o.m(e) of a built-in, with one argument: what must be seen of the text -/
structure M1 (X : Cx) (o : Expr) (m : Str) (apos : Pos) (e : Expr) (cpos : Pos) : Prop where
  base : attributeBase o m X.env (eval o X.env) = eval o X.env
  few : ((backTo cpos (starEach [e] X.env)).all (fun x => !x.1) && (backToKw cpos (keywordEach [] X.env)).all (fun x => x.1.isSome)
    && decide (([e] : List Expr).length + ([] : List Keyword).length + (if ([] : List Keyword).isEmpty then 0 else 1) < 30)) = true
  line : (apos.endLine == cpos.line) = true
  trees : backTo cpos (starEach [e] X.env) = [(false, eval e X.env)]
structure M2 (X : Cx) (o : Expr) (m : Str) (apos : Pos) (e f : Expr) (cpos : Pos) : Prop where
  base : attributeBase o m X.env (eval o X.env) = eval o X.env
  few : ((backTo cpos (starEach [e, f] X.env)).all (fun x => !x.1) && (backToKw cpos (keywordEach [] X.env)).all (fun x => x.1.isSome)
    && decide (([e, f] : List Expr).length + ([] : List Keyword).length + (if ([] : List Keyword).isEmpty then 0 else 1) < 30)) = true
  line : (apos.endLine == cpos.line) = true
  trees : backTo cpos (starEach [e, f] X.env) = [(false, eval e X.env), (false, eval f X.env)]

section
variable {X : Cx} {pins : List (Addr × Obj)} {σ : St} {H : Hp} {s : Shared} {a : Addr} {y d : V} {u r : Value} {o : Option V} {A : Around} {E : Value → Shared → Prop}
end

section
variable {X : Cx} {o e f : Expr} {apos cpos : Pos} {td ty tx : TE}
end

/-! ### dict(d): a copy -/
section
variable {X : Cx} {pins : List (Addr × Obj)} {σ : St} {H : Hp} {s : Shared} {a : Addr} {kvs : List (Key × V)} {A : Around} {E : Value → Shared → Prop}
end


section
variable {X : Cx} {pins : List (Addr × Obj)} {σ : St} {H : Hp} {s : Shared} {a : Addr} {y : V} {u : Value} {A : Around} {E : Value → Shared → Prop}
end
end L2
set_option maxHeartbeats 4000000
namespace L2
open PySem PySem.Spec PyProof.Rows
/-! a list comprehension of one clause, whose target is a name: its block is a context of its own -/
/-- the cells that the block takes along -/
def clStep (env : Env) (cs : List (Str × Addr)) (y : Str × NameKind) : List (Str × Addr) :=
  if y.2 == .free then (match env.cells.lookup y.1 with | some c => (y.1, c) :: cs | none => cs) else cs
def clOf (sc : Scope) (env : Env) : List (Str × Addr) := sc.names.foldl (clStep env) []
theorem cl_sound {env : Env} : ∀ (ns : List (Str × NameKind)) (acc : List (Str × Addr)), (∀ y c, acc.lookup y = some c → env.cells.lookup y = some c) → ∀ y c, (ns.foldl (clStep env) acc).lookup y = some c → env.cells.lookup y = some c
  | [], acc, h, y, c, e => h y c e
  | n :: ns, acc, h, y, c, e => by
    refine cl_sound ns (clStep env acc n) (fun z d q => ?_) y c e
    unfold clStep at q
    split at q
    · split at q
      · rename_i c' hc'
        rw [List.lookup_cons] at q
        split at q
        · rename_i hz
          have hz' : z = n.1 := by simpa using hz
          cases q
          rw [hz']; exact hc'
        · exact h z d q
      · exact h z d q
    · exact h z d q
theorem clOf_sound {sc : Scope} {env : Env} {y : Str} {c : Addr} (e : (clOf sc env).lookup y = some c) : env.cells.lookup y = some c :=
  cl_sound sc.names [] (fun _ _ q => by simp at q) y c e
theorem cl_keep {env : Env} {y : Str} {c : Addr} (hc : env.cells.lookup y = some c) : ∀ (ns : List (Str × NameKind)) (acc : List (Str × Addr)), acc.lookup y = some c → (ns.foldl (clStep env) acc).lookup y = some c
  | [], acc, h => h
  | n :: ns, acc, h => by
    refine cl_keep hc ns (clStep env acc n) ?_
    unfold clStep
    split
    · split
      · rename_i c' hc'
        rw [List.lookup_cons]
        split
        · rename_i hz
          have hz' : y = n.1 := by simpa using hz
          rw [← hz', hc] at hc'
          exact hc'.symm
        · exact h
      · exact h
    · exact h
theorem cl_has {env : Env} {y : Str} {c : Addr} (hc : env.cells.lookup y = some c) : ∀ (ns : List (Str × NameKind)) (acc : List (Str × Addr)), (y, NameKind.free) ∈ ns → (ns.foldl (clStep env) acc).lookup y = some c
  | [], _, h => by simp at h
  | n :: ns, acc, h => by
    rcases List.mem_cons.mp h with e | h
    · subst e
      refine cl_keep hc ns _ ?_
      unfold clStep
      simp [hc]
    · exact cl_has hc ns _ h
theorem relabel_mem {sc : Scope} {env : Env} {x : Str} {k' : NameKind} (h : (relabel sc env).names.lookup x = some k') : ∃ k, (x, k) ∈ sc.names ∧ (k' = k ∨ (k = .free ∧ k' = .cell)) := by
  have m := PySem.mem_of_lookup h
  unfold relabel at m
  obtain ⟨⟨n, k⟩, hm, e⟩ := List.mem_map.mp m
  dsimp only at e
  split at e
  · rename_i hc
    injection e with e1 e2
    subst e1
    refine ⟨k, hm, .inr ⟨?_, e2.symm⟩⟩
    have : (k == NameKind.free) = true := by
      cases hk : (k == NameKind.free) with
      | true => rfl
      | false => rw [hk] at hc; simp at hc
    exact beq_iff_eq.mp this
  · injection e with e1 e2
    subst e1 e2
    exact ⟨k, hm, .inl rfl⟩
theorem relabel_free {env : Env} {x : Str} (hf : env.scope.kind = .function) (hk : env.kindOf x = some .cell) : ∀ (ns : List (Str × NameKind)), ns.lookup x = some .free →
    (ns.map fun (y : Str × NameKind) => if (y.2 == .free && env.scope.kind == .function && env.kindOf y.1 == some .cell) then (y.1, NameKind.cell) else (y.1, y.2)).lookup x = some .cell
  | [], h => by simp at h
  | (n, k) :: r, h => by
    have ih := relabel_free hf hk r
    rw [List.map_cons]
    cases hx : x == n with
    | true =>
      have e : x = n := by simpa using hx
      subst e
      simp only [List.lookup_cons, beq_self_eq_true] at h
      cases h
      dsimp only
      rw [if_pos (by simp [hf, hk])]
      simp [List.lookup_cons]
    | false =>
      simp only [List.lookup_cons, hx] at h
      dsimp only
      split
      · simp only [List.lookup_cons, hx]; exact ih h
      · simp only [List.lookup_cons, hx]; exact ih h

/-- the block's context: fp the iterator's objects, s and H as they stand where its frame is made -/
def cxC (X : Cx) (N' : List Str) (sc : Scope) (fp : List Addr) (s : Shared) (H : Hp) : Cx where
  prog := X.prog
  w := X.w
  K := X.K
  mg := X.mg
  base := X.base
  A := X.A
  N := N'
  s₀ := s
  H₀ := H
  env := compEnvC sc (clOf sc X.env) s.heap.objs.size X.env
  outer := X.stack
  stack := X.stack
  ex := fp
  fn := fun _ => false
  calm := X.calm
  pn := []
  xe := fun _ _ => False

/-- what is asked of the block's scope: N' = the target, then what it captures, which stands at the places js of the def's names -/
structure CSc (X : Cx) (N' : List Str) (js : List Nat) (sc : Scope) : Prop where
  kind : sc.kind = .function
  nocell : ∀ y ∈ sc.names, y.2 ≠ .cell
  names : ∀ y ∈ sc.names, y.2 = .local → sc.names.lookup y.1 = some .local
  clos : closureFor sc X.env = pure (clOf sc X.env)
  all : (sc.names.all fun y => y.2 != .free || (X.env.cells.lookup y.1).isSome) = true
  len : N'.length = js.length + 1
  cap : ∀ (i j : Nat), js[i]? = some j → N'[i + 1]? = X.N[j]?
  capk : ∀ y ∈ N'.tail, X.env.kindOf y = some .cell ∧ sc.names.lookup y = some .free
/-- the block's names at the start of a turn -/
def capS (js : List Nat) (σ : St) : St := js.map fun j => (σ[j]?).join

theorem inv_comp {X : Cx} {pins : List (Addr × Obj)} {σ : St} {H : Hp} {s : Shared} {fp : List Addr} {N' : List Str} {js : List Nat} {sc : Scope} {h1 : Heap} {tk : Nat} (I : Inv X pins σ H s) (hf : ∀ b ∈ fp, FpOk X pins H b) (hlt : ∀ b ∈ fp, b < s.heap.objs.size)
    (S : CSc X N' js sc) (hn : h1.Ns s.heap.objs.size fun _ => none) (hk : ∀ b o, s.heap.get? b = some o → h1.get? b = some o) : Inv (cxC X N' sc fp s H) [] (none :: capS js σ) H { s with heap := h1, toks := tk } := by
  refine ⟨⟨I.ok.mod, S.kind, I.ok.glob, I.ok.blt, Nat.le_refl _, fun x y c e1 e2 => I.ok.inj x y c (clOf_sound e1) (clOf_sound e2), fun x hx => ?_, fun x c e => absurd e (by show ¬ (false = true); simp), I.ok.hd, I.ok.frames, .inl rfl, fun b hb => ⟨Nat.ne_of_lt (hlt b hb), fun x c e => (hf b hb).2.2.2.2.1 x c (clOf_sound e)⟩, I.bs,
    Nat.le_trans I.ok.bsz I.sz, fun b o e hb => ?_, fun b hb z => ?_, I.stack, I.stkFree⟩, rfl, I.bare, Un.kept hk, ⟨fun _ => none, hn, fun i x v e1 e2 e3 => ?_⟩, fun x c e => ?_, I.hok.fresh (Nat.le_refl _), fun x c e => I.freeC x c (clOf_sound e), fun p hp => absurd (show p ∈ ([] : List (Addr × Obj)) from hp) (by simp), I.hok.kept hk, ?_⟩
  · have hx' : (relabel sc X.env).names.lookup x = some .cell ∨ (relabel sc X.env).names.lookup x = some .free := hx
    have key : (x, NameKind.free) ∈ sc.names := by
      rcases hx' with q | q
      · obtain ⟨k, hm, e | ⟨e, _⟩⟩ := relabel_mem q
        · exact absurd e.symm (S.nocell _ hm)
        · rw [← e]; exact hm
      · obtain ⟨k, hm, e | ⟨e, _⟩⟩ := relabel_mem q
        · rw [e]; exact hm
        · rw [← e]; exact hm
    have a := List.all_eq_true.mp S.all _ key
    have a' : (X.env.cells.lookup x).isSome = true := by simpa using a
    obtain ⟨c, hc⟩ := Option.isSome_iff_exists.mp a'
    exact ⟨c, cl_has hc sc.names [] key⟩
  · rcases (hf b hb).2.2.2.1 with z | z
    · exact I.ok.noex b o e z
    · exact absurd (Nat.lt_of_lt_of_le (Heap.lt_size e) (Nat.le_trans I.ok.bsz z)) (Nat.lt_irrefl _)
  · rcases List.mem_cons.mp (I.stkSub b z) with q | q
    · exact (hf b hb).2.1 q
    · exact (hf b hb).2.2.1 q
  · cases i with
    | zero => simp at e2
    | succ i =>
      have e2' : (capS js σ)[i]? = some (some v) := by simpa using e2
      unfold capS at e2'
      rw [List.getElem?_map] at e2'
      cases hj : js[i]? with
      | none => rw [hj] at e2'; simp at e2'
      | some j =>
        rw [hj] at e2'
        have e4 : (σ[j]?).join = some v := by simpa using e2'
        have e5 : σ[j]? = some (some v) := by
          cases q : σ[j]? with
          | none => rw [q] at e4; simp at e4
          | some z => rw [q] at e4; simp at e4; rw [e4]
        have e6 : X.N[j]? = some x := by rw [← S.cap i j hj]; exact e1
        have mem : x ∈ N'.tail := by
          have e1' : N'[i + 1]? = some x := e1
          cases hN : N' with
          | nil => rw [hN] at e1'; simp at e1'
          | cons a r => rw [hN] at e1'; exact List.mem_of_getElem? (by simpa using e1')
        obtain ⟨k1, k2⟩ := S.capk x mem
        obtain ⟨m, _, hl⟩ := I.loc
        obtain ⟨u, r, l⟩ := hl j x v e6 e5 (.inr (.inl k1))
        refine ⟨u, r, .inr ⟨.inl (relabel_free I.ok.kind k1 sc.names k2), ?_⟩⟩
        rcases l with ⟨z, _⟩ | ⟨_, c, hc, hcell⟩
        · rw [k1] at z; cases z
        · obtain ⟨o, ho, hd⟩ := hcell
          exact ⟨c, cl_has hc sc.names [] (PySem.mem_of_lookup k2), o, hk c o ho, hd⟩
  · obtain ⟨v, o, ho, hd⟩ := I.cell x c (clOf_sound e)
    exact ⟨v, o, hk c o ho, hd⟩
  · show (none :: capS js σ).length = N'.length
    rw [S.len]; simp [capS]

/-- the reading: W the invariant, by the turn, a measure, what is made so far -/
def tComp (js : List Nat) (wi : TI) (te : TE) : TE := fun σ H Q => wi σ H fun J H1 => ∀ acc, H1 acc = none → ∃ W : Nat → Nat → List V → Hp → Prop, (∃ m, W 0 m [] (upd H1 acc (.lst []))) ∧ ∀ i m ys H2, W i m ys H2 →
  (J.stop i H2 ∧ Q (.ref acc) H2) ∨ (J.go i H2 ∧ ∀ x H3, J.yld i H2 x H3 → te (some x :: capS js σ) H3 fun y H4 => H4 acc = some (.lst ys) ∧ ys.length < sizeLine ∧ ∃ m', m' < m ∧ W (i + 1) m' (ys ++ [y]) (upd H4 acc (.lst (ys ++ [y]))))

theorem compLoop_go {prog : Program} {w : World} {A : Around} {R : Result → Shared → Prop} {s : Shared} {elt target iter : Expr} {sc : Scope} {pos : Pos} {it acc : Value} {env : Env} (Iv : Nat → Shared → Prop)
    (turn : ∀ n s, Iv n s → wpAny (model prog w) A (pyNext it) (fun r s1 => match r with
      | none => R (.ok .next) s1
      | some v => wpAny (model prog w) A (letOwnedTupleGo target it v) (fun _ s2 => wpAny (model prog w) A (assign target env v) (fun _ s3 => wpAny (model prog w) A (eval elt env) (fun x s4 =>
          wpAny (model prog w) A (call (.builtin "list.append") [acc, x]) (fun _ s5 => ∃ m, m < n ∧ Iv m s5) (fun _ _ => False) s4) (fun _ _ => False) s3) (fun _ _ => False) s2) (fun _ _ => False) s1) (fun _ _ => False) s)
    (n : Nat) (h : Iv n s) : codeAny (model prog w) A (.compLoop (.ListComp elt [⟨target, iter, [], 0⟩] sc pos) 0 it acc env) R s := by
  refine codeAny_loop rfl Iv (fun n s hI => ?_) n h
  show wpAny _ _ ((compTurn (.ListComp elt [⟨target, iter, [], 0⟩] sc pos) 0 it acc env).onRaise (fun x => do noteFrame x env; theTreesLotGoes x)) _ _ s
  refine wpAny_noted ?_
  rw [compTurn_list1]
  refine wpAny_bind (wpAny_standAt (wpAny_bind (wpAny_mono (turn n s hI) (fun r s1 q1 => ?_) fun _ _ f => f.elim)))
  cases r with
  | none => exact wpAny_pure q1
  | some v =>
    refine wpAny_bind (wpAny_mono q1 (fun _ s2 q2 => ?_) fun _ _ f => f.elim)
    refine wpAny_bind (wpAny_mono q2 (fun _ s3 q3 => wpAny_bind (wpAny_bind (wpAny_mono q3 (fun x s4 q4 => wpAny_bind (wpAny_mono q4 (fun _ s5 q5 => wpAny_pure (wpAny_pure ⟨rfl, q5⟩)) fun _ _ f => f.elim)) fun _ _ f => f.elim))) fun _ _ f => f.elim)

theorem pe_comp {X : Cx} {elt iter : Expr} {x : Str} {px pos : Pos} {sc : Scope} {wi : TI} {te : TE} {N' : List Str} {js : List Nat} (hc : X.calm = true) (hi : PI X (.Name x px) iter wi) (S : CSc X N' js sc) (h0 : N'[0]? = some x) (nd : N'.Nodup)
    (hx : sc.names.lookup x = some .local) (he : ∀ fp s H, PE (cxC X N' sc fp s H) elt te) (hs : ∀ x, foldedSetIterable iter X.env x = pure x := by intro _; rfl) : PE X (.ListComp elt [⟨.Name x px, iter, [], 0⟩] sc pos) (tComp js wi te) := by
  refine .mk ?_
  intro pins s σ H Q I h
  rw [eval_ListComp]
  refine wpAny_comprehension_free (use := none) rfl hs S.clos S.kind S.names ?_
  refine thn (hi pins s σ H _ I h) fun v s1 q1 => thn q1 fun itv s2 q2 => ?_
  obtain ⟨it, fp, tn, J, H2, e, I2, T, st2, f2, q3⟩ := q2
  subst e
  refine wpAny_newObj_type ?_
  obtain ⟨W, ⟨m0, w0⟩, turn⟩ := q3 s2.heap.objs.size I2.fresh
  have I3 := I2.lnew (ys := []) (its := []) (t' := s2.toks) .nil (Nat.zero_le _)
  have lt2 : ∀ b ∈ fp, b < s2.heap.objs.size := fun b hb => by
    obtain ⟨o, ho, _⟩ := T.obj 0 _ st2 b hb
    exact Heap.lt_size ho
  generalize e3 : ({ s2 with heap := s2.heap.push { cls := .type "list", data := .seq ([] : List Value).toArray }, toks := s2.toks } : Shared) = s3 at I3
  have e3' : ({ s2 with heap := s2.heap.push { cls := .type "list", dict := none, data := .seq ([] : List Value).toArray } } : Shared) = s3 := e3
  have sz3 : s3.heap.objs.size = s2.heap.objs.size + 1 := by rw [← e3]; exact Heap.size_push ..
  have st3 : tn 0 s3.heap := T.keep 0 _ _ st2 fun b hb o ho => by rw [← e3]; exact Heap.get?_push_of_some _ ho
  have lt3 : ∀ b ∈ fp, b < s3.heap.objs.size := fun b hb => by rw [sz3]; exact Nat.lt_succ_of_lt (lt2 b hb)
  have f3 : ∀ b ∈ fp, FpOk X pins (upd H2 s2.heap.objs.size (.lst [])) b := fun b hb => ⟨by rw [upd_ne (Nat.ne_of_lt (lt2 b hb))]; exact (f2 b hb).1, (f2 b hb).2⟩
  generalize hH3 : upd H2 s2.heap.objs.size (.lst []) = H3 at I3 f3 w0
  refine wpAny_newFunctionEnv S.nocell (by intro y hy; simp at hy) (fun h1 hns hsb => ?_) S.kind
  have hk : ∀ b o, s3.heap.get? b = some o → h1.get? b = some o := fun b o q => hsb.extBut b o (Nat.ne_of_lt (Heap.lt_size q)) (Heap.get?_push_of_some _ q)
  have hns' : h1.Ns s3.heap.objs.size fun _ => none := hns
  have I4 : Inv (cxC X N' sc fp s3 H3) [] (none :: capS js σ) H3 { s3 with heap := h1, toks := s3.toks + ([] : List (Str × Value)).length } := inv_comp I3 f3 lt3 S hns' hk
  have st4 : tn 0 h1 := T.keep 0 _ _ st3 fun b hb o ho => hk b o ho
  have stat : ∀ {H' : Hp}, (∀ b ∈ fp, H' b = none) → ∀ b ∈ fp, FpOk (cxC X N' sc fp s3 H3) [] H' b := fun hn b hb => ⟨hn b hb, Nat.ne_of_lt (lt3 b hb), I4.ok.exfs b hb, .inl hb, (I4.ok.exf b hb).2, fun p hp => absurd (show p ∈ ([] : List (Addr × Obj)) from hp) (by simp)⟩
  have lx : Loc (cxC X N' sc fp s3 H3).env.scope x := .inl (lookup_relabel_local hx)
  -- the way out
  have out : ∀ {σ' : St} {H' : Hp} {s' : Shared}, Inv (cxC X N' sc fp s3 H3) [] σ' H' s' → Q (.ref s2.heap.objs.size) H' → compPost (model X.prog X.w) X.A X.xe none (EP X pins σ Q) (.ref s2.heap.objs.size) s3.heap.objs.size (.ok .next) s' := by
    intro σ' H' s' I' q'
    obtain ⟨m, hn, _⟩ := id I'.loc
    refine ⟨m, hn, fun h' sb => ?_⟩
    have I5 : Inv X pins σ H' s' := I3.call' I'.os I'.base I'.hok I'.bare fun b hb => ⟨(f3 b hb).2.2.2.1, (f3 b hb).2.1, (f3 b hb).2.2.2.2.1, (f3 b hb).2.2.2.2.2⟩
    refine ⟨.ref s2.heap.objs.size, H', I5.turned (it := s3.heap.objs.size) (t' := s'.toks) (fun b o hb q => sb.extBut b o hb q) I'.free (Nat.ne_of_gt I3.lt) (.inr I3.sz) (fun y c ec z => ?_) (fun p hp z => ?_), rfl, q'⟩
    · obtain ⟨v, hv⟩ := I3.cell y c ec
      have := hv.lt
      rw [z] at this
      exact Nat.lt_irrefl _ this
    · have := Heap.lt_size (I3.pin p hp).1
      rw [z] at this
      exact Nat.lt_irrefl _ this
  have loop : ∀ s4 : Shared, s4 = { s3 with heap := h1, toks := s3.toks + ([] : List (Str × Value)).length } → codeAny (model X.prog X.w) X.A (.compLoop (.ListComp elt [⟨.Name x px, iter, [], 0⟩] sc pos) 0 (.ref it) (.ref s2.heap.objs.size) (compEnvC sc (clOf sc X.env) s3.heap.objs.size X.env))
      (compPost (model X.prog X.w) X.A X.xe none (EP X pins σ Q) (.ref s2.heap.objs.size) s3.heap.objs.size) s4 := by
    rintro s4 rfl
    refine compLoop_go (fun n s' => ∃ i ys H', Inv (cxC X N' sc fp s3 H3) [] (none :: capS js σ) H' s' ∧ tn i s'.heap ∧ (∀ b ∈ fp, H' b = none) ∧ W i n ys H') ?_ m0 ⟨0, [], H3, I4, st4, fun b hb => (f3 b hb).1, w0⟩
    rintro n s5 ⟨i, ys, H5, I5, st5, fr5, w5⟩
    rcases turn i n ys H5 w5 with ⟨stop, qn⟩ | ⟨go, step⟩
    · refine thn (T.done (cxC X N' sc fp s3 H3) rfl rfl rfl hc i [] s5 _ H5 (fun _ _ => False) I5 (stat fr5) st5 stop) fun r s6 ⟨hr, I6⟩ => ?_
      subst hr
      exact out I6 qn
    · refine thn (T.item (cxC X N' sc fp s3 H3) rfl rfl rfl hc i [] s5 _ H5 (fun _ _ => False) I5 (stat fr5) st5 go) fun r s6 ⟨u, hr, q6⟩ => ?_
      subst hr
      refine thn q6 fun _ s7 ⟨y, H7, I7, r7, y7, st7, fr7⟩ => ?_
      have I7' := I7.pinned (stat fr7) (T.obj _ _ st7)
      have hg : PG (cxC X N' sc fp s3 H3) (.Name x px) (gName 0) := pg_name nd h0 lx (.inr (lookup_relabel_local hx))
      refine thn (hg _ s7 _ H7 y u (fun σ' H' => σ' = some y :: capS js σ ∧ H' = H7) I7' r7 ⟨rfl, rfl⟩) fun _ s8 ⟨σ8, H8, I8, e8, e8'⟩ => ?_
      subst e8 e8'
      refine thn (he fp s3 H3 _ s8 _ _ _ I8 (step y _ y7)) fun z s9 ⟨vz, H9, I9, r9, ha, hz, m', hm, w9⟩ => ?_
      refine thn (mt_append (X := cxC X N' sc fp s3 H3) _ s9 _ H9 (.ref s2.heap.objs.size) [vz] (.ref s2.heap.objs.size) [z] (fun _ H' => H' = upd H9 s2.heap.objs.size (.lst (ys ++ [vz]))) I9 rfl (.cons r9 .nil) ⟨_, ys, vz, rfl, rfl, ha, hz, rfl⟩) fun _ s10 ⟨_, H10, I10, _, e10⟩ => ?_
      subst e10
      refine ⟨m', hm, i + 1, ys ++ [vz], _, (I10.unpinned).weak rfl fun k v e => ?_, T.keep _ _ _ st7 fun b hb o e => (I10.pin (b, o) (List.mem_append_right _ (List.mem_append_right _ (mem_pinsAt hb e)))).1, fun b hb => ?_, w9⟩
      · cases k with
        | zero => simp at e
        | succ k => simpa using e
      · obtain ⟨o, e, d⟩ := T.obj _ _ st7 b hb
        exact (I10.pin (b, o) (List.mem_append_right _ (List.mem_append_right _ (mem_pinsAt hb e)))).2.1
  exact codeAny_compStart_list (loop _ rfl) (T.self X.A 0 _ _ _ st4 (loop _ rfl))
end L2
namespace L2
open PySem PySem.Spec PyProof.Rows
/-! ### data: what a value stands for in the tracked heap -/
def keyD : Key → PyData
  | .inl i => .int i
  | .inr x => .str x
mutual
def At (H : Hp) : PyData → V → Prop
  | .none, v => v = .non
  | .bool b, v => v = .bl b
  | .int i, v => v = .int i
  | .str x, v => v = .str x
  | .tuple ds, v => ∃ a xs, v = .ref a ∧ H a = some (.tup xs) ∧ AtAll H ds xs
  | .list ds, v => ∃ a xs, v = .ref a ∧ H a = some (.lst xs) ∧ AtAll H ds xs
  | .dict kvs, v => ∃ a es, v = .ref a ∧ H a = some (.dK es) ∧ AtKv H kvs es
def AtAll (H : Hp) : List PyData → List V → Prop
  | [], xs => xs = []
  | d :: ds, xs => ∃ x r, xs = x :: r ∧ At H d x ∧ AtAll H ds r
def AtKv (H : Hp) : List (PyData × PyData) → List (Key × V) → Prop
  | [], es => es = []
  | (k, d) :: r, es => ∃ q v t, es = (q, v) :: t ∧ k = keyD q ∧ At H d v ∧ AtKv H r t
end
mutual
theorem At.mono {H H' : Hp} (m : Same H H') : ∀ (d : PyData) (v : V), At H d v → At H' d v
  | .none, _, h => by unfold At at h ⊢; exact h
  | .bool _, _, h => by unfold At at h ⊢; exact h
  | .int _, _, h => by unfold At at h ⊢; exact h
  | .str _, _, h => by unfold At at h ⊢; exact h
  | .tuple ds, v, h => by
    unfold At at h ⊢
    obtain ⟨a, xs, e, h1, h2⟩ := h
    exact ⟨a, xs, e, m _ _ h1, AtAll.mono m ds xs h2⟩
  | .list ds, v, h => by
    unfold At at h ⊢
    obtain ⟨a, xs, e, h1, h2⟩ := h
    exact ⟨a, xs, e, m _ _ h1, AtAll.mono m ds xs h2⟩
  | .dict kvs, v, h => by
    unfold At at h ⊢
    obtain ⟨a, es, e, h1, h2⟩ := h
    exact ⟨a, es, e, m _ _ h1, AtKv.mono m kvs es h2⟩
theorem AtAll.mono {H H' : Hp} (m : Same H H') : ∀ (ds : List PyData) (xs : List V), AtAll H ds xs → AtAll H' ds xs
  | [], _, h => by unfold AtAll at h ⊢; exact h
  | d :: ds, xs, h => by
    unfold AtAll at h ⊢
    obtain ⟨x, r, e, h1, h2⟩ := h
    exact ⟨x, r, e, At.mono m d x h1, AtAll.mono m ds r h2⟩
theorem AtKv.mono {H H' : Hp} (m : Same H H') : ∀ (kvs : List (PyData × PyData)) (es : List (Key × V)), AtKv H kvs es → AtKv H' kvs es
  | [], _, h => by unfold AtKv at h ⊢; exact h
  | (k, d) :: r, es, h => by
    unfold AtKv at h ⊢
    obtain ⟨q, v, t, e, e', h1, h2⟩ := h
    exact ⟨q, v, t, e, e', At.mono m d v h1, AtKv.mono m r t h2⟩
end
theorem AtAll.length {H : Hp} : ∀ {ds : List PyData} {xs : List V}, AtAll H ds xs → xs.length = ds.length
  | [], xs, h => by unfold AtAll at h; rw [h]; rfl
  | d :: ds, xs, h => by
    unfold AtAll at h
    obtain ⟨x, r, e, _, h2⟩ := h
    rw [e, List.length_cons, List.length_cons, AtAll.length h2]
theorem AtAll.get {H : Hp} : ∀ {ds : List PyData} {xs : List V} {i : Nat} {x : V}, AtAll H ds xs → xs[i]? = some x → ∃ d, ds[i]? = some d ∧ At H d x
  | [], xs, i, x, h, e => by unfold AtAll at h; rw [h] at e; simp at e
  | d :: ds, xs, i, x, h, e => by
    unfold AtAll at h
    obtain ⟨y, r, e1, h1, h2⟩ := h
    subst e1
    cases i with
    | zero => simp at e; subst e; exact ⟨d, rfl, h1⟩
    | succ i =>
      obtain ⟨d', q1, q2⟩ := AtAll.get (i := i) (x := x) h2 (by simpa using e)
      exact ⟨d', by simpa using q1, q2⟩
theorem AtAll.getD {H : Hp} : ∀ {ds : List PyData} {xs : List V} {i : Nat} {d : PyData}, AtAll H ds xs → ds[i]? = some d → ∃ x, xs[i]? = some x ∧ At H d x
  | [], xs, i, d, h, e => by simp at e
  | d' :: ds, xs, i, d, h, e => by
    unfold AtAll at h
    obtain ⟨y, r, e1, h1, h2⟩ := h
    subst e1
    cases i with
    | zero => simp at e; subst e; exact ⟨y, rfl, h1⟩
    | succ i =>
      obtain ⟨x, q1, q2⟩ := AtAll.getD (i := i) (d := d) h2 (by simpa using e)
      exact ⟨x, by simpa using q1, q2⟩
theorem AtAll.append {H : Hp} : ∀ {ds es : List PyData} {xs ys : List V}, AtAll H ds xs → AtAll H es ys → AtAll H (ds ++ es) (xs ++ ys)
  | [], es, xs, ys, h, q => by unfold AtAll at h; subst h; exact q
  | d :: ds, es, xs, ys, h, q => by
    unfold AtAll at h
    obtain ⟨x, r, e, h1, h2⟩ := h
    subst e
    show AtAll H (d :: (ds ++ es)) (x :: (r ++ ys))
    unfold AtAll
    exact ⟨x, r ++ ys, rfl, h1, AtAll.append h2 q⟩
theorem AtAll.take {H : Hp} : ∀ {ds : List PyData} {xs : List V} (n : Nat), AtAll H ds xs → AtAll H (ds.take n) (xs.take n)
  | ds, xs, 0, h => by simp [AtAll]
  | [], xs, n + 1, h => by unfold AtAll at h; subst h; simp [AtAll]
  | d :: ds, xs, n + 1, h => by
    unfold AtAll at h
    obtain ⟨x, r, e, h1, h2⟩ := h
    subst e
    show AtAll H (d :: ds.take n) (x :: r.take n)
    unfold AtAll
    exact ⟨x, _, rfl, h1, AtAll.take n h2⟩
theorem AtAll.drop {H : Hp} : ∀ {ds : List PyData} {xs : List V} (n : Nat), AtAll H ds xs → AtAll H (ds.drop n) (xs.drop n)
  | ds, xs, 0, h => h
  | [], xs, n + 1, h => by unfold AtAll at h; subst h; simp [AtAll]
  | d :: ds, xs, n + 1, h => by
    unfold AtAll at h
    obtain ⟨x, r, e, h1, h2⟩ := h
    subst e
    exact AtAll.drop n h2
theorem AtAll.nil {H : Hp} : AtAll H [] [] := by unfold AtAll; rfl
theorem AtAll.cons {H : Hp} {d : PyData} {ds : List PyData} {x : V} {xs : List V} (h1 : At H d x) (h2 : AtAll H ds xs) : AtAll H (d :: ds) (x :: xs) := by
  unfold AtAll; exact ⟨x, xs, rfl, h1, h2⟩
theorem At.tup {H : Hp} {a : Addr} {xs : List V} {ds : List PyData} (h : H a = some (.tup xs)) (q : AtAll H ds xs) : At H (.tuple ds) (.ref a) := by
  unfold At; exact ⟨a, xs, rfl, h, q⟩
theorem At.lst {H : Hp} {a : Addr} {xs : List V} {ds : List PyData} (h : H a = some (.lst xs)) (q : AtAll H ds xs) : At H (.list ds) (.ref a) := by
  unfold At; exact ⟨a, xs, rfl, h, q⟩
theorem At.int {H : Hp} (i : Int) : At H (.int i) (.int i) := by unfold At; rfl
theorem At.str {H : Hp} (x : Str) : At H (.str x) (.str x) := by unfold At; rfl
theorem At.bool {H : Hp} (b : Bool) : At H (.bool b) (.bl b) := by unfold At; rfl
theorem At.non {H : Hp} : At H .none .non := by unfold At; rfl
theorem same_new {H : Hp} {p : Addr} (h : H p = none) (o : HO) : Same H (upd H p o) := fun b u q => by rw [upd_ne (ne_of_none q h)]; exact q
/-- the kind of a thing, by its name -/
def tyD : PyData → String
  | .none => "NoneType"
  | .bool _ => "bool"
  | .int _ => "int"
  | .str _ => "str"
  | .tuple _ => "tuple"
  | .list _ => "list"
  | .dict _ => "dict"
theorem At.ty {K : PySem.W.Frag} {H : Hp} {d : PyData} {v : V} (h : At H d v) : TyOf K H v (.type (tyD d)) := by
  cases d with
  | none => unfold At at h; subst h; exact .non
  | bool b => unfold At at h; subst h; exact .bl b
  | int i => unfold At at h; subst h; exact .int i
  | str x => unfold At at h; subst h; exact .str x
  | tuple ds => unfold At at h; obtain ⟨a, xs, e, h1, _⟩ := h; subst e; exact .tup h1
  | list ds => unfold At at h; obtain ⟨a, xs, e, h1, _⟩ := h; subst e; exact .lst h1
  | dict ds => unfold At at h; obtain ⟨a, xs, e, h1, _⟩ := h; subst e; exact .dK h1
def isInt : PyData → Bool
  | .int _ => true
  | .bool _ => true
  | _ => false
def isTup : PyData → Bool
  | .tuple _ => true
  | _ => false
def isBool : PyData → Bool
  | .bool _ => true
  | _ => false
theorem kit_int (K : PySem.W.Frag) (d : PyData) : PySem.W.kitOne K (.type (tyD d)) (.type "int") = some (isInt d) := by cases d <;> kernel_rfl
theorem kit_bool (K : PySem.W.Frag) (d : PyData) : PySem.W.kitOne K (.type (tyD d)) (.type "bool") = some (isBool d) := by cases d <;> kernel_rfl
section
variable {X : Cx}
def rIsi (T : String) (f : PyData → Bool) : List V → Hp → VK → Prop := fun vs H Q => ∃ v d, vs = [v, .ty T] ∧ At H d v ∧ Q (.bl (f d)) H
theorem isi_of {T : String} {f : PyData → Bool} (hf : ∀ K d, PySem.W.kitOne K (.type (tyD d)) (.type T) = some (f d)) : CallR X (.builtin "isinstance") (rIsi T f) := by
  refine .mk ?_
  intro pins s σ H vs us Q I r h
  obtain ⟨v, d, rfl, hv, q⟩ := h
  obtain ⟨u, t, rfl, ru, rt⟩ := r.two
  cases (show t = Value.type T from rt)
  exact isinst_ok I ru (hv.ty (K := X.K)) (hf X.K d) fun tk => ⟨.bl (f d), H, I.tok tk, rfl, q⟩
theorem isi_int : CallR X (.builtin "isinstance") (rIsi "int" isInt) := isi_of kit_int
theorem isi_bool : CallR X (.builtin "isinstance") (rIsi "bool" isBool) := isi_of kit_bool
/-! ### is True, is False -/
/-! ### all, any of a made list of truths -/
theorem vals_bl : ∀ {bs : List Bool} {us : List Value}, Vals (bs.map V.bl) us → us = bs.map Value.bool
  | [], _, .nil => rfl
  | b :: bs, _, .cons r t => by
    cases (show _ = Value.bool b from r)
    rw [vals_bl t]; rfl
theorem range_all (bs : List Bool) : (List.range bs.length).all (fun i => bs.getD i false) = bs.all id := by
  rw [Bool.eq_iff_iff, List.all_eq_true, List.all_eq_true]
  constructor
  · intro h b hb
    obtain ⟨i, hi, rfl⟩ := List.mem_iff_getElem.mp hb
    have := h i (List.mem_range.mpr hi)
    simpa [List.getD_eq_getElem?_getD, hi] using this
  · intro h i hi
    have hi' := List.mem_range.mp hi
    have := h bs[i] (List.getElem_mem hi')
    simpa [List.getD_eq_getElem?_getD, hi'] using this
theorem call_allB (hc : X.calm = true) : CallR X (.builtin "all") (fun vs H Q => ∃ (p : Addr) (bs : List Bool), vs = [.ref p] ∧ H p = some (.lst (bs.map V.bl)) ∧ Q (.bl (bs.all id)) H) := by
  refine .mk ?_
  intro pins s σ H vs us Q I r h
  obtain ⟨p, bs, rfl, hp, q⟩ := h
  obtain ⟨u, rfl, ru⟩ := r.one
  cases ru
  obtain ⟨z, its, n, rv, e⟩ := I.hok p _ hp
  have e2 := vals_bl rv
  subst e2
  have hl : s.heap.IsList p (bs.map Value.bool).toArray := ⟨_, e, rfl, n, rfl⟩
  have lt : p < s.heap.objs.size := Heap.lt_size e
  refine call_all_walk (wpAny_pyIter_list hl ?_)
  refine ⟨_, _, _, _, _, _, fun i => bs.getD i false, rfl, Walks.list (A := X.A.in1) (I.ok.hd hc) _ p (Nat.ne_of_lt lt) _, ⟨⟨_, Heap.get?_push_size _ rfl, rfl, rfl⟩, hl.push _⟩, fun i v s' Q' E' hv hq => ?_, fun h' tk hk => ?_⟩
  · have hv' : (bs.map Value.bool).toArray[i]? = some v := hv
    have : v = .bool (bs.getD i false) := by
      simp only [List.getElem?_toArray, List.getElem?_map] at hv'
      cases q : bs[i]? with
      | none => rw [q] at hv'; simp at hv'
      | some b => rw [q] at hv'; simp at hv'; simp [List.getD_eq_getElem?_getD, q, ← hv']
    rw [this]
    exact wpAny_truthy_bool hq
  · have e3 : (List.range (bs.map Value.bool).toArray.size).all (fun i => bs.getD i false) = bs.all id := by
      rw [List.size_toArray, List.length_map]; exact range_all bs
    refine ⟨.bl (bs.all id), H, I.kept (t' := tk) (fun b o eb => ?_), by rw [← e3]; rfl, q⟩
    exact hk b o (by simpa using Nat.ne_of_lt (Heap.lt_size eb)) (Heap.get?_push_of_some _ eb)
/-! ### sum of ints -/
theorem preSum_list : ∀ (ns : List Int), preSum (fun i => ns.getD i 0) ns.length = ns.sum := by
  have key : ∀ (ns : List Int) (k : Nat), k ≤ ns.length → preSum (fun i => ns.getD i 0) k = (ns.take k).sum := by
    intro ns k
    induction k with
    | zero => intro _; rfl
    | succ k ih =>
      intro hk
      have e : ns.take (k + 1) = ns.take k ++ [ns.getD k 0] := by
        rw [List.take_succ, List.getElem?_eq_getElem (by omega)]
        simp [List.getD_eq_getElem?_getD, List.getElem?_eq_getElem (show k < ns.length by omega)]
      show preSum _ k + ns.getD k 0 = _
      rw [ih (by omega), e, List.sum_append]
      simp
  intro ns
  rw [key ns ns.length (Nat.le_refl _), List.take_length]
theorem ints_at {ns : List Int} {its : List Value} (r : Vals (ns.map V.int) its) {i : Nat} {v : Value} (h : its.toArray[i]? = some v) : ∃ t, v = .int (ns.getD i 0) t := by
  have h' : its[i]? = some v := by simpa using h
  have hi : i < its.length := (List.getElem?_eq_some_iff.mp h').1
  have hl := r.length
  rw [List.length_map] at hl
  obtain ⟨u, hu, ru⟩ := r.get (i := i) (x := V.int (ns[i]'(by omega))) (by rw [List.getElem?_map, List.getElem?_eq_getElem (by omega)]; rfl)
  rw [h'] at hu
  cases hu
  obtain ⟨t, e⟩ := ru
  exact ⟨t, by rw [e, List.getD_eq_getElem?_getD, List.getElem?_eq_getElem (by omega)]; rfl⟩
theorem call_sumI (hc : X.calm = true) : CallR X (.builtin "sum") (fun vs H Q => ∃ (p : Addr) (ns : List Int), vs = [.ref p] ∧ (H p = some (.lst (ns.map V.int)) ∨ H p = some (.tup (ns.map V.int))) ∧ Q (.int ns.sum) H) := by
  refine .mk ?_
  intro pins s σ H vs us Q I r h
  obtain ⟨p, ns, rfl, hp, q⟩ := h
  obtain ⟨u, rfl, ru⟩ := r.one
  cases ru
  have fin : ∀ {h' : Heap} {tk : Nat} {t' : Tok} {o : Obj}, (∀ b o', b ∉ [s.heap.objs.size] → (s.heap.push o).get? b = some o' → h'.get? b = some o') → EP X pins σ Q (.int (preSum (fun i => ns.getD i 0) ns.length) t') { s with heap := h', toks := tk } := fun {h' tk t' o} hk =>
    ⟨.int ns.sum, H, I.kept (t' := tk) (fun b o' eb => hk b o' (by simpa using Nat.ne_of_lt (Heap.lt_size eb)) (Heap.get?_push_of_some _ eb)), ⟨t', by rw [preSum_list]⟩, q⟩
  rcases hp with hp | hp
  · obtain ⟨z, its, n, rv, e⟩ := I.hok p _ hp
    have hl : s.heap.IsList p its.toArray := ⟨_, e, rfl, n, rfl⟩
    have lt : p < s.heap.objs.size := Heap.lt_size e
    have hlen := rv.length
    rw [List.length_map] at hlen
    refine call_sum_walkG (wpAny_pyIter_list hl ?_)
    refine ⟨_, _, _, _, _, _, fun i => ns.getD i 0, rfl, Walks.list (A := X.A.in1) (I.ok.hd hc) _ p (Nat.ne_of_lt lt) _, ⟨⟨_, Heap.get?_push_size _ rfl, rfl, rfl⟩, hl.push _⟩, fun b hb => ?_, fun i v hv => ints_at rv hv, fun h' tk t' hk => ?_⟩
    · show b < (s.heap.push _).objs.size
      rw [Heap.size_push]
      rcases List.mem_cons.mp hb with rfl | hb
      · exact Nat.lt_succ_self _
      · rw [List.mem_singleton.mp hb]; exact Nat.lt_succ_of_lt lt
    · rw [List.size_toArray, ← hlen]; exact fin hk
  · obtain ⟨z, its, rv, ht⟩ := I.hok p _ hp
    have ht' : s.heap.IsTuple p its.toArray := ht
    have lt : p < s.heap.objs.size := by obtain ⟨o, e, _⟩ := ht; exact Heap.lt_size e
    have hlen := rv.length
    rw [List.length_map] at hlen
    refine call_sum_walkG (wpAny_pyIter_tuple ht' ?_)
    refine ⟨_, _, _, _, _, _, fun i => ns.getD i 0, rfl, Walks.tuple (A := X.A.in1) (I.ok.hd hc) _ p (Nat.ne_of_lt lt) _, ⟨⟨_, Heap.get?_push_size _ rfl, rfl, rfl⟩, ?_⟩, fun b hb => ?_, fun i v hv => ints_at rv hv, fun h' tk t' hk => ?_⟩
    · obtain ⟨o, e, c⟩ := ht'
      exact ⟨o, Heap.get?_push_of_some _ e, c⟩
    · show b < (s.heap.push _).objs.size
      rw [Heap.size_push]
      rcases List.mem_cons.mp hb with rfl | hb
      · exact Nat.lt_succ_self _
      · rw [List.mem_singleton.mp hb]; exact Nat.lt_succ_of_lt lt
    · rw [List.size_toArray, ← hlen]; exact fin hk

/-! ### abs, int of a truth, str of an int, the greater and the lesser of two -/
theorem call_intB : CallR X (.type "int") (fun vs H Q => ∃ (b : Bool), vs = [.bl b] ∧ Q (.int (if b then 1 else 0)) H) := by
  refine .mk ?_
  intro pins s σ H vs us Q I r h
  obtain ⟨b, rfl, q⟩ := h
  obtain ⟨u, rfl, ru⟩ := r.one
  cases (show u = Value.bool b from ru)
  exact call_int_bool ⟨.int (if b then 1 else 0), H, I.tok _, ⟨_, rfl⟩, q⟩
/-! ### a tuple beside the empty one -/
end
end L2
namespace L2
open PySem PySem.Spec PyProof.Rows
/-! ### repr of data without dicts -/
mutual
theorem reads_of {P : Program} {w : World} {H : Hp} {h : Heap} (ok : HOk P w H h) : ∀ (d : PyData) (v : V) (u : Value), At H d v → RelV v u → d.hasDict = false → ∃ as, Reads h u d as
  | .none, v, u, a, r, _ => by unfold At at a; subst a; cases r; exact ⟨_, .none⟩
  | .bool b, v, u, a, r, _ => by unfold At at a; subst a; cases r; exact ⟨_, .bool b⟩
  | .int i, v, u, a, r, _ => by unfold At at a; subst a; obtain ⟨t, rfl⟩ := r; exact ⟨_, .int i t⟩
  | .str x, v, u, a, r, _ => by unfold At at a; subst a; obtain ⟨t, rfl⟩ := r; exact ⟨_, .str x t⟩
  | .tuple ds, v, u, a, r, nd => by
    unfold At at a
    obtain ⟨p, xs, e, hp, ha⟩ := a
    subst e
    cases r
    obtain ⟨_, its, rv, o, e1, e2, n, e3⟩ := ok p _ hp
    obtain ⟨as, ra⟩ := reads_all ok ds xs its ha rv (by simpa [PyData.hasDict] using nd)
    exact ⟨_, .tuple e1 e2 e3 (by simpa using ra)⟩
  | .list ds, v, u, a, r, nd => by
    unfold At at a
    obtain ⟨p, xs, e, hp, ha⟩ := a
    subst e
    cases r
    obtain ⟨_, its, n, rv, e1⟩ := ok p _ hp
    obtain ⟨as, ra⟩ := reads_all ok ds xs its ha rv (by simpa [PyData.hasDict] using nd)
    exact ⟨_, .list e1 rfl rfl (by simpa using ra)⟩
  | .dict kvs, v, u, a, r, nd => by simp [PyData.hasDict] at nd
theorem reads_all {P : Program} {w : World} {H : Hp} {h : Heap} (ok : HOk P w H h) : ∀ (ds : List PyData) (xs : List V) (us : List Value), AtAll H ds xs → Vals xs us → PyData.hasDictAll ds = false → ∃ as, ReadsAll h us ds as
  | [], xs, us, a, r, _ => by unfold AtAll at a; subst a; cases r; exact ⟨_, .nil⟩
  | d :: ds, xs, us, a, r, nd => by
    unfold AtAll at a
    obtain ⟨x, t, e, h1, h2⟩ := a
    subst e
    have nd' : d.hasDict = false ∧ PyData.hasDictAll ds = false := by simpa [PyData.hasDictAll] using nd
    cases r with
    | cons r1 r2 =>
      obtain ⟨as, q1⟩ := reads_of ok d x _ h1 r1 nd'.1
      obtain ⟨bs, q2⟩ := reads_all ok ds t _ h2 r2 nd'.2
      exact ⟨_, .cons q1 q2⟩
end
/-- what repr asks of a thing -/
structure Shows (d : PyData) : Prop where
  can : d.showable = true
  nod : d.hasDict = false
  len : d.shown.length ≤ sizeLine
  dep : d.depth ≤ 60
section
variable {X : Cx}
theorem call_reprD {k : Nat} (hr : Room k X.A) : CallR X (.builtin "repr") (fun vs H Q => ∃ (v : V) (d : PyData), vs = [v] ∧ At H d v ∧ Shows d ∧ Q (.str d.shown) H) := by
  refine .mk ?_
  intro pins s σ H vs us Q I r h
  obtain ⟨v, d, rfl, hv, hs, q⟩ := h
  obtain ⟨u, rfl, ru⟩ := r.one
  cases d with
  | none =>
    unfold At at hv; subst hv
    cases (show u = Value.none from ru)
    exact PySem.P.repr_of_none ⟨.str "None", H, I.tok _, ⟨_, rfl⟩, q⟩
  | bool b =>
    unfold At at hv; subst hv
    cases (show u = Value.bool b from ru)
    exact PySem.P.repr_of_bool ⟨.str (if b then "True" else "False"), H, I.tok _, ⟨_, rfl⟩, q⟩
  | int i =>
    unfold At at hv; subst hv
    obtain ⟨t, rfl⟩ := ru
    exact PySem.P.repr_of_int (of_decide_eq_true hs.can) ⟨.str (toString i), H, I.tok _, ⟨_, rfl⟩, q⟩
  | str x =>
    unfold At at hv; subst hv
    obtain ⟨t, rfl⟩ := ru
    exact PySem.P.repr_of_str ⟨.str (reprText x), H, I.tok _, ⟨_, rfl⟩, q⟩ hs.len
  | _ =>
    obtain ⟨as, R⟩ := reads_of I.hok _ _ _ hv ru hs.nod
    unfold At at hv
    obtain ⟨a, xs, e, _⟩ := hv
    subst e
    cases (show u = Value.ref a from ru)
    have hu := hr.units
    have hd := hs.dep
    exact repr_of_reads' R hs.can (fun z => by rw [hs.nod] at z; cases z) hr.gd (by omega) (fun _ _ e => e) (fun h' t tk hk => ⟨.str _, H, I.kept (t' := tk) hk, ⟨t, rfl⟩, q⟩) hs.len

/-! ### a name that is bound at the top to an int; the defs' promises in one parcel -/
def Gi (mg : Str → Option Value) (x : Str) (i : Int) : Prop := ∃ t, mg x = some (.int i t)
theorem pglobI {x : Str} {i : Int} {pos : Pos} (h : Gi X.mg x i) (hg : Gl X x := by rfl) (hd : (x == ("__debug__" : Str)) = false := by decide) : PE X (.Name x pos) (tC (.int i)) := by
  obtain ⟨t, ht⟩ := h
  exact pe_glob hg ht ⟨t, rfl⟩ hd
/-- a callee: what it promises, how it is found -/
structure Ct (P : Program) (w : World) (K : PySem.W.Frag) (mg : Str → Option Value) (base : Heap) (k : Nat) (x : Str) (ps : List Str) (sp : Sp) where
  f : Addr
  fd : FuncData
  G : FnOk P w K mg base CX0 k f fd ps sp
  kp : PySem.W.keepIn K (.ref f) = true
  b : Binds K fd ps []
  m : mg x = some (.ref f)
def Ct.mono {P : Program} {w : World} {K : PySem.W.Frag} {mg : Str → Option Value} {base : Heap} {j k : Nat} {x : Str} {ps : List Str} {sp : Sp} (c : Ct P w K mg base j x ps sp) (h : j ≤ k) : Ct P w K mg base k x ps sp := { c with G := c.G.mono h }
theorem pcall {k : Nat} {x : Str} {ps : List Str} {sp : Sp} {e : Expr} {es : List Expr} {t : TA} {p pos : Pos} (c : Ct X.prog X.w X.K X.mg X.base k x ps sp) (hr : Room k X.A) (ha : PA X (e :: es) t) (hg : Gl X x := by rfl)
    (hdb : (x == ("__debug__" : Str)) = false := by decide) (he : starEach (e :: es) X.env = (false, eval e X.env) :: starEach es X.env := by rfl) (hpl : (backTo pos (starEach es X.env)).any (·.1) = false := by rfl) :
    PE X (.Call (.Name x p) (e :: es) [] pos) (tCall sp [] E0 t) := pe_call c.G hr hg c.m c.kp c.b .nil pass0 ha hdb he hpl
/-- a callee that tells a truth of things and changes nothing -/
def spB1 (f : PyData → Bool) : Sp := fun vs H Q _ => ∃ v d, vs = [v] ∧ At H d v ∧ ∀ H', Same H H' → Q (.bl (f d)) H'
def spB2 (f : PyData → PyData → Bool) : Sp := fun vs H Q _ => ∃ v d v' d', vs = [v, v'] ∧ At H d v ∧ At H d' v' ∧ ∀ H', Same H H' → Q (.bl (f d d')) H'
/-- .. beside a thing ints -/
def spBI1 (f : PyData → Int → Bool) : Sp := fun vs H Q _ => ∃ v d i, vs = [v, .int i] ∧ At H d v ∧ ∀ H', Same H H' → Q (.bl (f d i)) H'
def spBI2 (f : PyData → Int → Int → Bool) : Sp := fun vs H Q _ => ∃ v d i j, vs = [v, .int i, .int j] ∧ At H d v ∧ ∀ H', Same H H' → Q (.bl (f d i j)) H'
theorem spB1.len {f : PyData → Bool} {ps : List Str} (h : ps.length = 1) : ∀ vs H Q E, spB1 f vs H Q E → vs.length = ps.length := by rintro vs H Q E ⟨v, d, rfl, _⟩; exact h.symm
theorem spB2.len {f : PyData → PyData → Bool} {ps : List Str} (h : ps.length = 2) : ∀ vs H Q E, spB2 f vs H Q E → vs.length = ps.length := by rintro vs H Q E ⟨v, d, v', d', rfl, _⟩; exact h.symm
theorem spBI1.len {f : PyData → Int → Bool} {ps : List Str} (h : ps.length = 2) : ∀ vs H Q E, spBI1 f vs H Q E → vs.length = ps.length := by rintro vs H Q E ⟨v, d, i, rfl, _⟩; exact h.symm
theorem spBI2.len {f : PyData → Int → Int → Bool} {ps : List Str} (h : ps.length = 3) : ∀ vs H Q E, spBI2 f vs H Q E → vs.length = ps.length := by rintro vs H Q E ⟨v, d, i, j, rfl, _⟩; exact h.symm
theorem B1.of {f : PyData → Bool} {v : V} {d : PyData} {H : Hp} {Q : VK} {E : XK} (h : At H d v) (q : ∀ H', Same H H' → Q (.bl (f d)) H') : spB1 f ([v] ++ []) H Q E := ⟨v, d, rfl, h, q⟩
theorem BI1.of {f : PyData → Int → Bool} {v : V} {d : PyData} {i : Int} {H : Hp} {Q : VK} {E : XK} (h : At H d v) (q : ∀ H', Same H H' → Q (.bl (f d i)) H') : spBI1 f ([v, .int i] ++ []) H Q E := ⟨v, d, i, rfl, h, q⟩
theorem BI2.of {f : PyData → Int → Int → Bool} {v : V} {d : PyData} {i j : Int} {H : Hp} {Q : VK} {E : XK} (h : At H d v) (q : ∀ H', Same H H' → Q (.bl (f d i j)) H') : spBI2 f ([v, .int i, .int j] ++ []) H Q E := ⟨v, d, i, j, rfl, h, q⟩
theorem B2.of {f : PyData → PyData → Bool} {v v' : V} {d d' : PyData} {H : Hp} {Q : VK} {E : XK} (h : At H d v) (h' : At H d' v') (q : ∀ H', Same H H' → Q (.bl (f d d')) H') : spB2 f ([v, v'] ++ []) H Q E := ⟨v, d, v', d', rfl, h, h', q⟩

/-! ### a comprehension over a tuple of things, each told a truth -/
end
/-! ### the words by which a reading is opened -/
theorem rd_var0 {v : V} {σ : St} {H : Hp} {Q : VK} : tVar 0 (some v :: σ) H Q = Q v H := by
  unfold tVar; simp
theorem rd_varS {i : Nat} {o : Option V} {σ : St} {H : Hp} {Q : VK} : tVar (i + 1) (o :: σ) H Q = tVar i σ H Q := by
  unfold tVar; simp
theorem rd_set0 {v : V} {o : Option V} {σ : St} : (o :: σ).set 0 (some v) = some v :: σ := rfl
theorem rd_setS {i : Nat} {v : V} {o : Option V} {σ : St} : (o :: σ).set (i + 1) (some v) = o :: σ.set i (some v) := rfl
theorem rd_gcons {t : TG} {u : TGs} {v : V} {r : List V} {σ : St} {H : Hp} {Q : St → Hp → Prop} : gCons t u (v :: r) σ H Q = t v σ H fun σ' H' => u r σ' H' Q := by
  unfold gCons
  refine propext ⟨?_, fun h => ⟨v, r, rfl, h⟩⟩
  rintro ⟨v', r', e, h⟩
  cases e
  exact h
theorem rd_gnil {σ : St} {H : Hp} {Q : St → Hp → Prop} : gNil [] σ H Q = Q σ H := by
  unfold gNil; simp
theorem and_if {b : Bool} {A B : Prop} (h1 : b = true → A) (h2 : b = false → B) : if b = true then A else B := by
  cases b
  · rw [if_neg (by decide)]; exact h2 rfl
  · rw [if_pos rfl]; exact h1 rfl
theorem rd_eqI {i j : Int} {H : Hp} {Q : VK} : rEq (.int i) (.int j) H Q = Q (.bl (decide (i = j))) H := by
  unfold rEq scal; simp
theorem rd_neI {i j : Int} {H : Hp} {Q : VK} : rNe (.int i) (.int j) H Q = Q (.bl (!decide (i = j))) H := by
  unfold rNe scal; simp
theorem rd_eqS {i j : Str} {H : Hp} {Q : VK} : rEq (.str i) (.str j) H Q = Q (.bl (decide (i = j))) H := by
  unfold rEq scal; simp
theorem rd_neS {i j : Str} {H : Hp} {Q : VK} : rNe (.str i) (.str j) H Q = Q (.bl (!decide (i = j))) H := by
  unfold rNe scal; simp
theorem rd_argI {i : Int} {P : Int → Prop} : (∃ k, [V.int i] = [V.int k] ∧ P k) = P i := by
  simp
theorem rd_argB {i : Bool} {P : Bool → Prop} : (∃ k, [V.bl i] = [V.bl k] ∧ P k) = P i := by
  simp
theorem rd_argII {i j : Int} {P : Int → Int → Prop} : (∃ a b, [V.int i, V.int j] = [V.int a, V.int b] ∧ P a b) = P i j := by
  refine propext ⟨?_, fun h => ⟨i, j, rfl, h⟩⟩
  rintro ⟨a, b, e, h⟩
  cases e
  exact h
theorem rd_test {b : Bool} {P : Bool → Prop} : (∃ k, V.bl b = V.bl k ∧ P k) = P b := by
  simp
theorem rd_int {i : Int} {P : Int → Prop} : (∃ k, V.int i = V.int k ∧ P k) = P i := by
  simp
theorem rd_ii {i j : Int} {P : Int → Int → Prop} : (∃ a b, V.int i = V.int a ∧ V.int j = V.int b ∧ P a b) = P i j := by
  simp
end L2
namespace L2
open PySem PySem.Spec PyProof.Rows
theorem forIn_steps {α β : Type} {g : β → α → β} {f : α → β → Sem (ForInStep β)} : ∀ (l : List α) (c : β), (∀ x ∈ l, ∀ c, f x c = pure (.yield (g c x))) → forIn l c f = (pure (l.foldl g c) : Sem β)
  | [], c, _ => rfl
  | x :: l, c, h => by
    rw [List.forIn_cons, h x List.mem_cons_self c, pure_bind]
    exact forIn_steps l (g c x) fun y hy => h y (List.mem_cons_of_mem _ hy)
theorem closure_is {sc : Scope} {env : Env} (h : (sc.names.all fun y => y.2 != .free || (env.cells.lookup y.1).isSome) = true) : closureFor sc env = pure (clOf sc env) := by
  unfold closureFor clOf
  dsimp only
  rw [forIn_steps (g := clStep env) sc.names [] (fun y hy c => ?_)]
  · rfl
  obtain ⟨n, k⟩ := y
  have a := List.all_eq_true.mp h _ hy
  dsimp only
  unfold clStep
  dsimp only
  cases hk : (k == NameKind.free) with
  | false => simp
  | true =>
    have hk' : k = .free := beq_iff_eq.mp hk
    subst hk'
    have a' : (env.cells.lookup n).isSome = true := by simpa using a
    obtain ⟨c', hc'⟩ := Option.isSome_iff_exists.mp a'
    simp [cellOf, hc']
theorem names_ok {sc : Scope} (h : (sc.names.all fun y => y.2 != .local || sc.names.lookup y.1 == some .local) = true) : ∀ y ∈ sc.names, y.2 = .local → sc.names.lookup y.1 = some .local := fun y hy e => by
  have a := List.all_eq_true.mp h y hy
  rw [e] at a
  simpa using a
theorem CSc.mk0 {X : Cx} {x : Str} {sc : Scope} (k : sc.kind = .function := by rfl) (n : (sc.names.all fun y => y.2 != .cell && y.2 != .free) = true := by decide +kernel) (l : (sc.names.all fun y => y.2 != .local || sc.names.lookup y.1 == some .local) = true := by decide +kernel) : CSc X [x] [] sc := by
  have n' : ∀ y ∈ sc.names, y.2 ≠ .cell ∧ y.2 ≠ .free := fun y hy => by have := List.all_eq_true.mp n y hy; simpa using this
  have al : (sc.names.all fun y => y.2 != .free || (X.env.cells.lookup y.1).isSome) = true := List.all_eq_true.mpr fun y hy => by simp [(n' y hy).2]
  exact ⟨k, fun y hy => (n' y hy).1, names_ok l, closure_is al, al, rfl, fun i j h => by simp at h, fun y h => by simp at h⟩
theorem CSc.mk1 {X : Cx} {x y : Str} {sc : Scope} {j : Nat} (hj : X.N[j]? = some y := by rfl) (k : sc.kind = .function := by rfl) (n : (sc.names.all fun y => y.2 != .cell) = true := by decide +kernel)
    (l : (sc.names.all fun y => y.2 != .local || sc.names.lookup y.1 == some .local) = true := by decide +kernel) (al : (sc.names.all fun y => y.2 != .free || (X.env.cells.lookup y.1).isSome) = true := by rfl)
    (k1 : X.env.kindOf y = some .cell := by rfl) (k2 : sc.names.lookup y = some .free := by rfl) : CSc X [x, y] [j] sc := by
  have n' : ∀ y ∈ sc.names, y.2 ≠ .cell := fun y hy => by have := List.all_eq_true.mp n y hy; simpa using this
  refine ⟨k, n', names_ok l, closure_is al, al, rfl, fun i j' h => ?_, fun z h => ?_⟩
  · cases i with
    | zero => simp at h; subst h; exact hj.symm
    | succ i => simp at h
  · have e : z = y := by simpa using h
    subst e; exact ⟨k1, k2⟩
theorem CSc.mk2 {X : Cx} {x y z : Str} {sc : Scope} {j j2 : Nat} (hj : X.N[j]? = some y := by rfl) (hj2 : X.N[j2]? = some z := by rfl) (k : sc.kind = .function := by rfl) (n : (sc.names.all fun y => y.2 != .cell) = true := by decide +kernel)
    (l : (sc.names.all fun y => y.2 != .local || sc.names.lookup y.1 == some .local) = true := by decide +kernel) (al : (sc.names.all fun y => y.2 != .free || (X.env.cells.lookup y.1).isSome) = true := by rfl)
    (k1 : X.env.kindOf y = some .cell := by rfl) (k2 : sc.names.lookup y = some .free := by rfl) (k3 : X.env.kindOf z = some .cell := by rfl) (k4 : sc.names.lookup z = some .free := by rfl) : CSc X [x, y, z] [j, j2] sc := by
  have n' : ∀ y ∈ sc.names, y.2 ≠ .cell := fun y hy => by have := List.all_eq_true.mp n y hy; simpa using this
  refine ⟨k, n', names_ok l, closure_is al, al, rfl, fun i j' h => ?_, fun v h => ?_⟩
  · match i, h with
    | 0, h => simp at h; subst h; exact hj.symm
    | 1, h => simp at h; subst h; exact hj2.symm
    | i + 2, h => simp at h
  · have e : v = y ∨ v = z := by simpa using h
    rcases e with e | e
    · subst e; exact ⟨k1, k2⟩
    · subst e; exact ⟨k3, k4⟩
/-! ### arguments without a star -/
def plainE : Expr → Bool
  | .Starred _ _ => false
  | _ => true
theorem star_one {env : Env} {e : Expr} {es : List Expr} (h : plainE e = true) : starEach (e :: es) env = (false, eval e env) :: starEach es env := by
  cases e <;> first | rfl | exact absurd h (by simp [plainE])
theorem star_none {env : Env} {pos : Pos} : ∀ {es : List Expr}, es.all plainE = true → (backTo pos (starEach es env)).any (·.1) = false
  | [], _ => rfl
  | e :: es, h => by
    have h' : plainE e = true ∧ es.all plainE = true := by simpa using h
    rw [star_one h'.1]
    show (false || (backTo pos (starEach es env)).any (·.1)) = false
    rw [star_none h'.2]; rfl
section
variable {X : Cx} {x : Str} {p pos : Pos} {e : Expr} {es : List Expr} {te : TE} {t : TA} {id T : String} {r : List V → Hp → VK → Prop}
theorem pa_c (ha : PE X e te) (hr : PA X es t) (h : plainE e = true := by rfl) : PA X (e :: es) (tCons te t) := pa_cons ha hr (star_one h)
theorem pf {k : Nat} {ps : List Str} {sp : Sp} (c : Ct X.prog X.w X.K X.mg X.base k x ps sp) (hr : Room k X.A) (ha : PA X (e :: es) t) (hg : Gl X x := by rfl) (hdb : (x == ("__debug__" : Str)) = false := by decide) (h1 : plainE e = true := by rfl) (h2 : es.all plainE = true := by rfl) :
    PE X (.Call (.Name x p) (e :: es) [] pos) (tCall sp [] E0 t) := pcall c hr ha hg hdb (star_one h1) (star_none h2)
theorem pb (hc : CallR X (.builtin id) r) (hm : X.mg x = none) (hv : bootBuiltins x = some (.builtin id)) (ha : PA X (e :: es) t) (hg : Gl X x := by rfl) (hn : x ≠ "__name__" := by decide) (hdb : (x == ("__debug__" : Str)) = false := by decide)
    (h1 : plainE e = true := by rfl) (h2 : es.all plainE = true := by rfl) : PE X (.Call (.Name x p) (e :: es) [] pos) (tCB r t) := pe_callB hc hg hm hv ha hn hdb (star_one h1) (star_none h2)
theorem pt (hc : CallR X (.type T) r) (hm : X.mg x = none) (hv : bootBuiltins x = some (.type T)) (ha : PA X (e :: es) t) (hg : Gl X x := by rfl) (hn : x ≠ "__name__" := by decide) (hdb : (x == ("__debug__" : Str)) = false := by decide)
    (h1 : plainE e = true := by rfl) (h2 : es.all plainE = true := by rfl) : PE X (.Call (.Name x p) (e :: es) [] pos) (tCB r t) := pe_callTy hc hg hm hv ha hn hdb (star_one h1) (star_none h2)
end
end L2
namespace HT
open PySem PyProof.Rows
section
variable {prog : Program} {w : World} {A : Around} {E : Value → Shared → Prop} {s : Shared}
/-- t[a:b] where that is the whole of t: t itself -/
theorem getItem_tuple_all {t sl : Addr} {items : Array Value} {vl vu : Value} {lo hi : Option Int} {Q : Value → Shared → Prop} (ht : IsTup s.heap t items) (hs : s.heap.IsSliceOf sl vl vu .none) (pl : IsPart vl lo) (pu : IsPart vu hi)
    (hw1 : sIx items.size 0 lo = 0) (hw2 : sIx items.size items.size hi = items.size) (h : Q (.ref t) s) : wpAny (model prog w) A (getItem (.ref t) (.ref sl)) Q E s := by
  obtain ⟨os, hos, hcs, hds⟩ := id hs
  have tyS : s.TypeIs (.ref sl) "slice" := ⟨os, hos, hcs⟩
  unfold getItem
  try with_reducible refine wpAny_holding ?_
  first | refine wpAny_bind (wpAny_pure ?_) | skip
  refine wpAny_bind (wpAny_sequenceKey ht.typeIs (by decide) ?_)
  refine wpAny_bind (wpAny_callSpecial?_slot (name := Str.ofString "__getitem__") ht.typeIs PyProof.Rows.slot_tuple_getitem (wpAny_call_entry PyProof.Rows.slot_tuple_getitem ht.typeIs entry_tuple_getitem ?_ (args_tuple_getitem _ _)))
  show wpAny _ _ (Builtin.Tuple.tupleItemsOf (.ref t) >>= _) _ _ s
  refine wpAny_bind (tupleItemsOf_ ht ?_)
  refine wpAny_bind (wpAny_typeOf tyS ?_)
  rw [if_pos (by decide)]
  refine wpAny_bind (sliceApplied_gen hs pl pu ?_)
  have yes : (((sIx items.size 0 lo : Nat) : Int) == 0 && (1 : Int) == 1 && (sIx items.size items.size hi - sIx items.size 0 lo) == items.size) = true := by
    rw [hw1, hw2]; simp
  show wpAny _ _ (if (((sIx items.size 0 lo : Nat) : Int) == 0 && (1 : Int) == 1 && (sIx items.size items.size hi - sIx items.size 0 lo) == items.size) = true then _ else _) _ _ s
  rw [if_pos yes]
  have ex : ∀ {R : Bool → Shared → Prop}, R true s → wpAny (model prog w) A.in1 (Builtin.Tuple.tupleIsExact (.ref t)) R E s := fun {R} q => by
    unfold Builtin.Tuple.tupleIsExact
    refine wpAny_bind (wpAny_typeOf ht.typeIs (wpAny_pure ?_))
    rw [beq_self_eq_true]
    exact q
  refine wpAny_bind (ex ?_)
  rw [if_pos rfl]
  exact wpAny_bind (wpAny_rule (wpAny_pure ⟨_, rfl, wpAny_pure h⟩))
end
end HT
namespace L2
open PySem PySem.Spec PyProof.Rows
/-! ### Python's own names -/
theorem bt_isinstance : bootBuiltins "isinstance" = some (.builtin "isinstance") := by decide +kernel
theorem bt_len : bootBuiltins "len" = some (.builtin "len") := by decide +kernel
theorem bt_all : bootBuiltins "all" = some (.builtin "all") := by decide +kernel
theorem bt_sum : bootBuiltins "sum" = some (.builtin "sum") := by decide +kernel
theorem bt_repr : bootBuiltins "repr" = some (.builtin "repr") := by decide +kernel
theorem bt_abs : bootBuiltins "abs" = some (.builtin "abs") := by decide +kernel
theorem bt_min : bootBuiltins "min" = some (.builtin "min") := by decide +kernel
theorem bt_max : bootBuiltins "max" = some (.builtin "max") := by decide +kernel
theorem bt_int : bootBuiltins "int" = some (.type "int") := by decide +kernel
theorem bt_bool : bootBuiltins "bool" = some (.type "bool") := by decide +kernel
theorem bt_list : bootBuiltins "list" = some (.type "list") := by decide +kernel
theorem bt_tuple : bootBuiltins "tuple" = some (.type "tuple") := by decide +kernel
theorem bt_range : bootBuiltins "range" = some (.type "range") := by decide +kernel
theorem bt_enumerate : bootBuiltins "enumerate" = some (.type "enumerate") := by decide +kernel
theorem bt_zip : bootBuiltins "zip" = some (.type "zip") := by decide +kernel
section
variable {X : Cx}
theorem pty {x : Str} {T : String} {pos : Pos} (hg : Gl X x) (hm : X.mg x = none) (hv : bootBuiltins x = some (.type T)) (hn : x ≠ "__name__" := by decide) (hd : (x == ("__debug__" : Str)) = false := by decide) : PE X (.Name x pos) (tC (.ty T)) :=
  pe_bltn (v := .ty T) hg hm hv rfl hn hd
theorem Isi.of {T : String} {g : PyData → Bool} {v : V} {d : PyData} {H : Hp} {Q : VK} (h : At H d v) (q : Q (.bl (g d)) H) : rIsi T g [v, .ty T] H Q := ⟨v, d, rfl, h, q⟩
/-- len of a list or a tuple, tracked or of the top -/
def rLen (K : PySem.W.Frag) : List V → Hp → VK → Prop := fun vs H Q => ∃ (p : Addr) (ys : List V), vs = [.ref p] ∧ (SqL K H p ys ∨ SqT K H p ys) ∧ Q (.int ys.length) H
theorem call_lenK {K : PySem.W.Frag} (hK : X.K = K) : CallR X (.builtin "len") (rLen K) := by
  subst hK
  exact call_len_seq
def rSlW : V → Option Int → Option Int → Hp → VK → Prop := fun x lo hi H Q => ∃ (a : Addr) (xs : List V), x = .ref a ∧ H a = some (.tup xs) ∧ ∀ p H', Same H H' → H' p = some (.tup (cutV xs lo hi)) → Q (.ref p) H'
theorem sl_tupW : SlR X rSlW := by
  refine .mk ?_
  intro pins s σ H x v vl vu lo hi sl Q I rx hs pl pu h
  obtain ⟨a, xs, e, hx, q⟩ := h
  by_cases hw : HT.sIx xs.length 0 lo = 0 ∧ HT.sIx xs.length xs.length hi = xs.length
  · subst e
    cases rx
    obtain ⟨its, r, ht, hz⟩ := I.tuple (SqT.of (K := X.K) hx)
    have hlen : its.toArray.size = xs.length := by rw [List.size_toArray]; exact r.length.symm
    refine ⟨"tuple", _, PyProof.Rows.slot_tuple_getitem.lookup, ht.typeIs, ?_⟩
    refine HT.getItem_tuple_all ht hs pl pu (by rw [hlen]; exact hw.1) (by rw [hlen]; exact hw.2) ⟨.ref a, H, I, rfl, q a H (Same.refl H) ?_⟩
    rw [hx]
    unfold cutV
    rw [hw.1, hw.2, List.drop_zero, Nat.sub_zero, List.take_length]
  · exact sl_tup pins s σ H x v vl vu lo hi sl Q I rx hs pl pu ⟨a, xs, e, SqT.of hx, hw, fun p hp => q p _ (same_new hp _) upd_same⟩
def rCatW : R2 := fun x y H Q => ∃ (a b : Addr) (xs ys : List V), x = .ref a ∧ y = .ref b ∧ H a = some (.tup xs) ∧ H b = some (.tup ys) ∧ xs.length + ys.length ≤ sizeLine ∧ ∀ p H', Same H H' → H' p = some (.tup (xs ++ ys)) → Q (.ref p) H'
theorem op_catW : OpR X (binaryOp .Add) rCatW := by
  refine .mk ?_
  intro pins s σ H x y v u Q I rx ry h
  obtain ⟨a, b, xs, ys, e1, e2, ha, hb, hz, q⟩ := h
  by_cases hx : xs = []
  · subst hx e1 e2
    cases rx
    cases ry
    obtain ⟨its, r1, p1, _⟩ := I.tuple (SqT.of (K := X.K) ha)
    obtain ⟨its2, r2, p2, _⟩ := I.tuple (SqT.of (K := X.K) hb)
    cases r1
    obtain ⟨⟨cls, dd, data, sl⟩, ho, hc, n, hd⟩ := id p1
    obtain ⟨⟨cls2, dd2, data2, sl2⟩, ho2, hc2, n2, hd2⟩ := id p2
    simp only at hc hd hc2 hd2
    subst hc hd hc2 hd2
    exact concat_meets ⟨_, ho, rfl⟩ ⟨_, ho2, rfl⟩ noFill_tuple_add seq_tuple_add PySem.F.slot_tuple_add PySem.F.entry_tuple_add (PySem.F.args_tuple_add_2 _ _) (tuple_addW0 a b _ _ n n2 dd dd2 sl sl2 (by rfl)) ⟨ho, ho2, ⟨.ref b, H, I, rfl, q b H (Same.refl H) hb⟩⟩
  · refine op_catT pins s σ H x y v u Q I rx ry ⟨a, b, xs, ys, e1, e2, SqT.of ha, SqT.of hb, hx, hz, fun z => ?_, fun _ p hp => q p _ (same_new hp _) upd_same⟩
    subst z
    exact q a H (Same.refl H) (by rw [ha, List.append_nil])
def rIxO : R2 := fun x y H Q => ∃ (p : Addr) (xs : List V) (i : Int) (v : V), x = .ref p ∧ y = .int i ∧ (H p = some (.lst xs) ∨ H p = some (.tup xs)) ∧ atI xs i = some v ∧ Q v H
theorem ix_obj : IxR X rIxO := by
  have h := (ix_list (X := X)).or ix_tup
  refine .mk ?_
  intro a b pins s σ H x y v u Q I rx ry q
  obtain ⟨p, xs, i, z, e1, e2, hp, ha, q⟩ := q
  intro hs
  refine h a b pins s σ H x y v u Q I rx ry ?_ hs
  rcases hp with hp | hp
  · exact .inl ⟨p, xs, i, z, e1, e2, SqL.of hp, ha, q⟩
  · exact .inr ⟨p, xs, i, z, e1, e2, SqT.of hp, ha, q⟩
theorem Ix.tup {a : Addr} {xs : List V} {i : Int} {v : V} {H : Hp} {Q : VK} (h : H a = some (.tup xs)) (e : atI xs i = some v) (q : Q v H) : rIxO (.ref a) (.int i) H Q := ⟨a, xs, i, v, rfl, rfl, .inr h, e, q⟩
theorem Ix.lst {a : Addr} {xs : List V} {i : Int} {v : V} {H : Hp} {Q : VK} (h : H a = some (.lst xs)) (e : atI xs i = some v) (q : Q v H) : rIxO (.ref a) (.int i) H Q := ⟨a, xs, i, v, rfl, rfl, .inl h, e, q⟩
/-- a comprehension over range(n), by an invariant -/
theorem comp_R {js : List Nat} {ta : TA} {te : TE} {σ : St} {H : Hp} {Q : VK} {n : Nat} (hl : ∀ R : List V → Hp → Prop, R [.int n] H → ta σ H R) (hn : n ≤ 1000000)
    (h : ∀ acc, H acc = none → ∃ Pv : Nat → List V → Hp → Prop, Pv 0 [] (upd H acc (.lst [])) ∧
      (∀ i ys H', i < n → Pv i ys H' → te (some (.int (0 + (i : Nat))) :: capS js σ) H' fun y H'' => H'' acc = some (.lst ys) ∧ ys.length < sizeLine ∧ Pv (i + 1) (ys ++ [y]) (upd H'' acc (.lst (ys ++ [y])))) ∧
      ∀ ys H', Pv n ys H' → Q (.ref acc) H') : tComp js (iRng1 ta) te σ H Q := by
  refine hl _ ⟨n, rfl, by omega, by omega, fun acc hacc => ?_⟩
  obtain ⟨Pv, h0, hs, hd⟩ := h acc hacc
  have en : ((n : Int)).toNat = n := Int.toNat_natCast n
  rw [en]
  refine ⟨fun i m ys H' => m = n - i ∧ i ≤ n ∧ Pv i ys H', ⟨n, rfl, Nat.zero_le _, h0⟩, ?_⟩
  rintro i m ys H2 ⟨rfl, hi, p⟩
  by_cases hlt : i < n
  · refine .inr ⟨hlt, fun x H3 y => ?_⟩
    obtain ⟨e, y⟩ := y
    subst e y
    have tmono := hs i ys _ hlt p
    have fe : (fun (y : V) (H'' : Hp) => H'' acc = some (.lst ys) ∧ ys.length < sizeLine ∧ Pv (i + 1) (ys ++ [y]) (upd H'' acc (.lst (ys ++ [y])))) = fun y H4 => H4 acc = some (.lst ys) ∧ ys.length < sizeLine ∧ ∃ m', m' < n - i ∧ (m' = n - (i + 1) ∧ i + 1 ≤ n ∧ Pv (i + 1) (ys ++ [y]) (upd H4 acc (.lst (ys ++ [y])))) := by
      funext y H''
      refine propext ⟨fun ⟨a, b, c⟩ => ⟨a, b, _, by omega, rfl, hlt, c⟩, fun ⟨a, b, m', _, _, _, c⟩ => ⟨a, b, c⟩⟩
    rw [fe] at tmono
    exact tmono
  · have e : i = n := by omega
    subst e
    exact .inl ⟨Nat.le_refl _, hd ys _ p⟩
theorem call_tupL : CallR X (.type "tuple") (fun vs H Q => ∃ (p : Addr) (ys : List V), vs = [.ref p] ∧ H p = some (.lst ys) ∧ ∀ l, H l = none → Q (.ref l) (upd H l (.tup ys))) := by
  refine .mk ?_
  intro pins s σ H vs us Q I r h
  obtain ⟨p, ys, e, hp, q⟩ := h
  exact call_tuple_of pins s σ H vs us Q I r ⟨p, ys, e, .inl ⟨SqL.of hp, q⟩⟩
theorem call_lstT : CallR X (.type "list") (fun vs H Q => ∃ (p : Addr) (ys : List V), vs = [.ref p] ∧ H p = some (.tup ys) ∧ ∀ l, H l = none → Q (.ref l) (upd H l (.lst ys))) := by
  refine .mk ?_
  intro pins s σ H vs us Q I r h
  obtain ⟨p, ys, e, hp, q⟩ := h
  exact call_list_of pins s σ H vs us Q I r ⟨p, ys, e, .inr (SqT.of hp), q⟩
/-- for k in range(n), by an invariant -/
theorem for_R {ta : TA} {g : TG} {tb : TS} {D : Ends} {σ : St} {H : Hp} {n : Nat} (hl : ∀ R : List V → Hp → Prop, R [.int n] H → ta σ H R) (hn : n ≤ 1000000) (Pv : Nat → St → Hp → Prop) (h0 : Pv 0 σ H)
    (hs : ∀ i σ H, i < n → Pv i σ H → g (.int (0 + (i : Nat))) σ H fun σ2 H2 => tb { D with nx := Pv (i + 1), ct := Pv (i + 1), bk := D.nx } σ2 H2) (hd : ∀ σ H, Pv n σ H → D.nx σ H) : tFor (iRng1 ta) g tb D σ H := by
  refine hl _ ⟨n, rfl, by omega, by omega, ?_⟩
  rw [Int.toNat_natCast]
  exact for_range Pv h0 hs hd
/-- displays, the new heap a letter -/
def tLstW (t : TA) : TE := fun σ H Q => t σ H fun xs H1 => xs.length ≤ sizeLine ∧ ∀ p H', H1 p = none → Same H1 H' → H' p = some (.lst xs) → Q (.ref p) H'
def tTupW (t : TA) : TE := fun σ H Q => t σ H fun xs H1 => xs.length ≤ sizeLine ∧ ∀ p H', H1 p = none → Same H1 H' → H' p = some (.tup xs) → Q (.ref p) H'
theorem pe_lstW {es : List Expr} {t : TA} {pos : Pos} (h : PA X es t) : PE X (.List es pos) (tLstW t) := by
  refine .mk ?_
  intro pins s σ H Q I hq
  refine wpAny_List_spliced (thn (h pos pins s σ H _ I hq) fun us s1 ⟨xs, H1, I1, r, z, q⟩ => ⟨by rw [← r.length]; exact z, ?_⟩)
  have fr : H1 s1.heap.objs.size = none := I1.hok.fresh (Nat.le_refl _)
  exact ⟨.ref s1.heap.objs.size, upd H1 s1.heap.objs.size (.lst xs), I1.laid (t' := s1.toks) (fun b u e => Heap.get?_push_of_some _ e) (Nat.le_refl _) ⟨z, us, 0, r, Heap.get?_push_size _ rfl⟩, rfl, q _ _ fr (same_new fr _) upd_same⟩
theorem pe_tupW {es : List Expr} {t : TA} {x1} {pos : Pos} (h : PA X es t) : PE X (.Tuple es x1 pos) (tTupW t) := by
  refine .mk ?_
  intro pins s σ H Q I hq
  refine wpAny_Tuple_spliced (thn (h pos pins s σ H _ I hq) fun us s1 ⟨xs, H1, I1, r, z, q⟩ => ⟨by rw [← r.length]; exact z, ?_⟩)
  have fr : H1 s1.heap.objs.size = none := I1.hok.fresh (Nat.le_refl _)
  exact ⟨.ref s1.heap.objs.size, upd H1 s1.heap.objs.size (.tup xs), I1.laid (t' := s1.toks) (fun b u e => Heap.get?_push_of_some _ e) (Nat.le_refl _) ⟨z, us, r, ⟨_, Heap.get?_push_size _ rfl, rfl, _, rfl⟩⟩, rfl, q _ _ fr (same_new fr _) upd_same⟩
/-- a comprehension over a list of things, each told a truth -/
theorem comp_L {K : PySem.W.Frag} {js : List Nat} {a : Addr} {xs : List V} {ds : List PyData} {g : PyData → Bool} {tl te : TE} {σ : St} {H : Hp} {Q : VK} (hl : ∀ R : VK, R (.ref a) H → tl σ H R) (ha : H a = some (.lst xs)) (hd : AtAll H ds xs) (hz : ds.length ≤ sizeLine)
    (step : ∀ x d H', Same H H' → At H' d x → ∀ R : VK, (∀ H'', Same H' H'' → R (.bl (g d)) H'') → te (some x :: capS js σ) H' R)
    (fin : ∀ acc H', Same H H' → H' acc = some (.lst ((ds.map g).map V.bl)) → Q (.ref acc) H') : tComp js (iList K tl) te σ H Q := by
  refine hl _ ⟨a, rfl, ⟨xs, SqL.of ha⟩, fun acc hacc => ?_⟩
  have hlen := hd.length
  refine ⟨fun i m ys H2 => m = ds.length - i ∧ i ≤ ds.length ∧ ys = ((ds.take i).map g).map V.bl ∧ Same H H2 ∧ H2 acc = some (.lst ys), ⟨_, rfl, Nat.zero_le _, rfl, same_new hacc _, upd_same⟩, ?_⟩
  rintro i m ys H2 ⟨rfl, hi, rfl, sm, hy⟩
  have ht : SqL K H2 a xs := SqL.of (sm _ _ ha)
  by_cases hlt : i < ds.length
  · refine .inr ⟨⟨xs, xs[i]'(by omega), ht, List.getElem?_eq_getElem (by omega)⟩, fun x H3 y => ?_⟩
    obtain ⟨e, y⟩ := y
    subst e
    obtain ⟨d, e1, e2⟩ := hd.get (y xs ht)
    refine step x d _ sm (e2.mono sm) _ fun H4 s4 => ⟨s4 _ _ hy, ?_, ds.length - (i + 1), by omega, rfl, hlt, ?_, ?_, upd_same⟩
    · rw [List.length_map, List.length_map, List.length_take]; omega
    · rw [List.take_succ, e1]; simp
    · refine fun b o q => ?_
      have nb : b ≠ acc := ne_of_none q hacc
      rw [upd_ne nb]
      exact s4 _ _ (sm _ _ q)
  · have e : i = ds.length := by omega
    subst e
    refine .inl ⟨⟨xs, ht, by omega⟩, fin _ _ sm ?_⟩
    rw [hy, List.take_length]
/-! ### all but one object -/
def hid (a : Addr) (H : Hp) : Hp := fun b => if b = a then none else H b
theorem hid_ne {a b : Addr} {H : Hp} (h : b ≠ a) : hid a H b = H b := if_neg h
theorem hid_self {a : Addr} {H : Hp} : hid a H a = none := if_pos rfl
theorem hid_some {a b : Addr} {H : Hp} {o : HO} (h : hid a H b = some o) : b ≠ a ∧ H b = some o := by
  by_cases e : b = a
  · subst e; rw [hid_self] at h; cases h
  · exact ⟨e, by rw [hid_ne e] at h; exact h⟩
theorem hid_upd {a : Addr} {H : Hp} {o : HO} : hid a (upd H a o) = hid a H := by
  funext b
  by_cases e : b = a
  · subst e; rw [hid_self, hid_self]
  · rw [hid_ne e, hid_ne e, upd_ne e]
theorem hid_upd_ne {a p : Addr} {H : Hp} {o : HO} (h : p ≠ a) : hid a (upd H p o) = upd (hid a H) p o := by
  funext b
  by_cases e : b = a
  · subst e; rw [hid_self, upd_ne (Ne.symm h), hid_self]
  · rw [hid_ne e]
    by_cases e' : b = p
    · subst e'; rw [upd_same, upd_same]
    · rw [upd_ne e', upd_ne e', hid_ne e]
theorem hid_sub {a : Addr} {H : Hp} : Same (hid a H) H := fun b o h => (hid_some h).2
/-- what is tracked stays, but for the object at a -/
def SX (a : Addr) (H H' : Hp) : Prop := Same (hid a H) (hid a H')
theorem SX.refl (a : Addr) (H : Hp) : SX a H H := Same.refl _
theorem SX.trans {a : Addr} {H H1 H2 : Hp} (x : SX a H H1) (y : SX a H1 H2) : SX a H H2 := Same.trans x y
theorem SX.of {a : Addr} {H H' : Hp} (s : Same H H') : SX a H H' := fun b o h => by
  obtain ⟨n, e⟩ := hid_some h
  rw [hid_ne n]; exact s _ _ e
theorem SX.upd {a : Addr} {H : Hp} {o : HO} : SX a H (upd H a o) := by unfold SX; rw [hid_upd]; exact Same.refl _
theorem SX.get {a b : Addr} {H H' : Hp} {o : HO} (s : SX a H H') (n : b ≠ a) (h : H b = some o) : H' b = some o := by
  have := s b o (by rw [hid_ne n]; exact h)
  exact (hid_some this).2
/-- the law's tape: three ints, how many draws there were at most -/
def Tp (H : Hp) (a : Addr) (n : Nat) : Prop := ∃ x y z : Int, H a = some (.lst [.int x, .int y, .int z]) ∧ 0 ≤ x ∧ 0 ≤ y ∧ y < 4611686018427387904 ∧ 0 ≤ z ∧ z ≤ n
theorem Tp.mono {H : Hp} {a : Addr} {n m : Nat} (h : Tp H a n) (l : n ≤ m) : Tp H a m := by
  obtain ⟨x, y, z, e, h1, h2, h3, h4, h5⟩ := h
  exact ⟨x, y, z, e, h1, h2, h3, h4, by omega⟩
theorem Tp.same {H H' : Hp} {a : Addr} {n : Nat} (h : Tp H a n) (s : Same H H') : Tp H' a n := by
  obtain ⟨x, y, z, e, r⟩ := h
  exact ⟨x, y, z, s _ _ e, r⟩
theorem Tp.ne {H : Hp} {a b : Addr} {n : Nat} (h : Tp H a n) (e : H b = none) : b ≠ a := by
  obtain ⟨x, y, z, q, _⟩ := h
  intro z; subst z; rw [e] at q; cases q
theorem Tp.neT {H : Hp} {a b : Addr} {n : Nat} {xs : List V} (h : Tp H a n) (e : H b = some (.tup xs)) : b ≠ a := by
  obtain ⟨x, y, z, q, _⟩ := h
  intro z; subst z; rw [e] at q; cases q
theorem Same.hid {a : Addr} {H H' : Hp} (s : Same H H') : Same (L2.hid a H) (L2.hid a H') := fun b o h => by
  obtain ⟨n, e⟩ := hid_some h
  rw [hid_ne n]; exact s _ _ e
theorem Ap.of {K : PySem.W.Frag} {p : Addr} {xs : List V} {v : V} {H : Hp} {Q : VK} (h : H p = some (.lst xs)) (z : xs.length < sizeLine) (q : Q .non (upd H p (.lst (xs ++ [v])))) : rAppend (.ref p) [v] H Q := ⟨p, xs, v, rfl, rfl, h, z, q⟩
theorem SX.updN {a p : Addr} {H H' : Hp} {o : HO} (s : SX a H H') (hp : H p = none) (pa : p ≠ a) : SX a H (L2.upd H' p o) := fun b u h => by
  obtain ⟨n, e⟩ := hid_some h
  rw [hid_upd_ne pa, upd_ne (ne_of_none e hp)]
  exact s b u h
theorem Tp.updN {H : Hp} {a p : Addr} {n : Nat} {o : HO} (t : Tp H a n) (pa : p ≠ a) : Tp (L2.upd H p o) a n := by
  obtain ⟨x, y, z, e, r⟩ := t
  exact ⟨x, y, z, by rw [upd_ne (Ne.symm pa)]; exact e, r⟩
/-- the script: the caller's own list, which nothing here may change -/
def Scr (K : PySem.W.Frag) (H : Hp) (p : Addr) (xs : List V) : Prop := (∃ o, H p = some (.frz o (.lst xs))) ∨
  ∃ (o : Obj) (its : Array Value) (n : Nat), K.lookup p = some o ∧ o.cls = .type "list" ∧ o.dict = none ∧ o.data = .seq its n ∧ its.size ≤ sizeLine ∧ Vals xs its.toList
theorem Scr.sq {K : PySem.W.Frag} {H : Hp} {p : Addr} {xs : List V} (h : Scr K H p xs) : SqL K H p xs := by
  rcases h with ⟨o, h⟩ | h
  · exact .inl (.inr ⟨o, h⟩)
  · exact .inr h
theorem Scr.of {K : PySem.W.Frag} {H : Hp} {p : Addr} {xs : List V} (h : SqL K H p xs) (o : Only H) : Scr K H p xs := by
  rcases h with (h | h) | h
  · rcases o p with e | ⟨ob, ys, e⟩
    · rw [e] at h; cases h
    · rw [e] at h; cases h
  · exact .inl h
  · exact .inr h
theorem Scr.same {K : PySem.W.Frag} {H H' : Hp} {p : Addr} {xs : List V} (h : Scr K H p xs) (s : Same H H') : Scr K H' p xs := by
  rcases h with ⟨o, h⟩ | h
  · exact .inl ⟨o, s _ _ h⟩
  · exact .inr h
theorem Scr.sx {K : PySem.W.Frag} {H H' : Hp} {p a : Addr} {n : Nat} {xs : List V} (h : Scr K H p xs) (t : Tp H a n) (s : SX a H H') : Scr K H' p xs := by
  rcases h with ⟨o, h⟩ | h
  · refine .inl ⟨o, s.get (fun z => ?_) h⟩
    obtain ⟨x, y, w, e, _⟩ := t
    subst z; rw [e] at h; cases h
  · exact .inr h
end
end L2
namespace L2
open PySem PySem.Spec PyProof.Rows
/-! ### things of a known make: their numbers, their texts, how much they weigh when they are shown -/
mutual
def fine (b : Nat) : PyData → Bool
  | .none => true
  | .bool _ => true
  | .int i => decide (i.natAbs ≤ b)
  | .str x => decide (x.length ≤ 40) && x.cps.toList.all fun c => decide (c < 4294967296)
  | .tuple ds => fineAll b ds
  | .list ds => fineAll b ds
  | .dict _ => false
def fineAll (b : Nat) : List PyData → Bool
  | [] => true
  | d :: ds => fine b d && fineAll b ds
end
mutual
def mass : PyData → Nat
  | .tuple ds => massAll ds + 3
  | .list ds => massAll ds + 3
  | .dict _ => 500
  | .none => 500
  | .bool _ => 500
  | .int _ => 500
  | .str _ => 500
def massAll : List PyData → Nat
  | [] => 0
  | d :: ds => mass d + 2 + massAll ds
end
theorem fineAll_iff {b : Nat} : ∀ {ds : List PyData}, fineAll b ds = true ↔ ∀ d ∈ ds, fine b d = true
  | [] => by simp [fineAll]
  | d :: ds => by
    have ih := fineAll_iff (b := b) (ds := ds)
    simp only [fineAll, Bool.and_eq_true, ih, List.mem_cons, forall_eq_or_imp]
theorem depthAll_iff {k : Nat} : ∀ {ds : List PyData}, PyData.depthAll ds ≤ k ↔ ∀ d ∈ ds, d.depth ≤ k
  | [] => by simp [PyData.depthAll]
  | d :: ds => by
    have ih := depthAll_iff (k := k) (ds := ds)
    simp only [PyData.depthAll, List.mem_cons, forall_eq_or_imp, ← ih]
    omega
theorem massAll_append : ∀ (ds es : List PyData), massAll (ds ++ es) = massAll ds + massAll es
  | [], es => by simp [massAll]
  | d :: ds, es => by simp only [List.cons_append, massAll, massAll_append ds es]; omega
mutual
theorem fine_mono {b b' : Nat} (h : b ≤ b') : ∀ d : PyData, fine b d = true → fine b' d = true
  | .none, _ => by simp [fine]
  | .bool _, _ => by simp [fine]
  | .int i, e => by
    have := of_decide_eq_true (show decide (i.natAbs ≤ b) = true from by simpa [fine] using e)
    simp only [fine]; exact decide_eq_true (by omega)
  | .str x, e => by simpa [fine] using e
  | .tuple ds, e => by simp only [fine] at e ⊢; exact fineAll_mono h ds e
  | .list ds, e => by simp only [fine] at e ⊢; exact fineAll_mono h ds e
  | .dict _, e => by simp [fine] at e
theorem fineAll_mono {b b' : Nat} (h : b ≤ b') : ∀ ds : List PyData, fineAll b ds = true → fineAll b' ds = true
  | [], _ => rfl
  | d :: ds, e => by
    simp only [fineAll, Bool.and_eq_true] at e ⊢
    exact ⟨fine_mono h d e.1, fineAll_mono h ds e.2⟩
end
mutual
theorem fine_shows {b : Nat} (hb : b < 10 ^ 60) : ∀ d : PyData, fine b d = true → d.showable = true ∧ d.hasDict = false ∧ d.shown.length ≤ mass d
  | .none, _ => ⟨rfl, rfl, by decide +kernel⟩
  | .bool c, _ => ⟨rfl, rfl, by cases c <;> decide +kernel⟩
  | .int i, e => by
    have h1 := of_decide_eq_true (show decide (i.natAbs ≤ b) = true from by simpa [fine] using e)
    have h2 : i.natAbs < 10 ^ 60 := Nat.lt_of_le_of_lt h1 hb
    refine ⟨?_, rfl, ?_⟩
    · show decide (i.natAbs.log2 < 1920) = true
      refine decide_eq_true (log2_small (Nat.lt_trans h2 ?_))
      decide +kernel
    · have := int_text_length_le10 (k := 60) (by decide) h2
      show (Str.ofString (toString i)).length ≤ 500
      rw [PySem.ofString_length]; omega
  | .str x, e => by
    have e' : (decide (x.length ≤ 40) && x.cps.toList.all fun c => decide (c < 4294967296)) = true := by simpa [fine] using e
    rw [Bool.and_eq_true] at e'
    have h1 := of_decide_eq_true e'.1
    have h2 := StrLaws.reprText_len x (fun c hc => by have := List.all_eq_true.mp e'.2 c hc; have := of_decide_eq_true this; omega)
    refine ⟨rfl, rfl, ?_⟩
    show (reprText x).length ≤ 500
    omega
  | .tuple ds, e => by
    have e' : fineAll b ds = true := by simpa [fine] using e
    obtain ⟨h1, h2, h3⟩ := fineAll_shows hb ds e'
    refine ⟨by simpa [PyData.showable] using h1, by simpa [PyData.hasDict] using h2, ?_⟩
    have q := tupleText_len_le (PyData.shownAll ds)
    show (tupleText (PyData.shownAll ds)).length ≤ massAll ds + 3
    omega
  | .list ds, e => by
    have e' : fineAll b ds = true := by simpa [fine] using e
    obtain ⟨h1, h2, h3⟩ := fineAll_shows hb ds e'
    refine ⟨by simpa [PyData.showable] using h1, by simpa [PyData.hasDict] using h2, ?_⟩
    have q := listText_len_le (PyData.shownAll ds)
    show (listText (PyData.shownAll ds)).length ≤ massAll ds + 3
    omega
  | .dict _, e => by simp [fine] at e
theorem fineAll_shows {b : Nat} (hb : b < 10 ^ 60) : ∀ ds : List PyData, fineAll b ds = true → PyData.showableAll ds = true ∧ PyData.hasDictAll ds = false ∧ ((PyData.shownAll ds).map (·.length)).sum + 2 * (PyData.shownAll ds).length ≤ massAll ds
  | [], _ => ⟨rfl, rfl, by decide⟩
  | d :: ds, e => by
    have e' : fine b d = true ∧ fineAll b ds = true := by simpa [fineAll] using e
    obtain ⟨h1, h2, h3⟩ := fine_shows hb d e'.1
    obtain ⟨g1, g2, g3⟩ := fineAll_shows hb ds e'.2
    refine ⟨by simp [PyData.showableAll, h1, g1], by simp [PyData.hasDictAll, h2, g2], ?_⟩
    simp only [PyData.shownAll, List.map_cons, List.sum_cons, List.length_cons, massAll]
    omega
end
/-- numbers to b, at most D deep, at most so heavy -/
structure Nice (b D M : Nat) (d : PyData) : Prop where
  f : fine b d = true
  dp : d.depth ≤ D
  m : mass d ≤ M
theorem Nice.mono {b b' D D' M M' : Nat} {d : PyData} (h : Nice b D M d) (h1 : b ≤ b') (h2 : D ≤ D') (h3 : M ≤ M') : Nice b' D' M' d := ⟨fine_mono h1 d h.f, Nat.le_trans h.dp h2, Nat.le_trans h.m h3⟩
theorem Nice.shows {b D M : Nat} {d : PyData} (h : Nice b D M d) (hb : b < 10 ^ 60) (hD : D ≤ 60) (hM : M ≤ sizeLine) : Shows d := by
  obtain ⟨h1, h2, h3⟩ := fine_shows hb d h.f
  exact ⟨h1, h2, Nat.le_trans h3 (Nat.le_trans h.m hM), Nat.le_trans h.dp hD⟩
/-- lists of things, all at once -/
structure NiceAll (b D M : Nat) (ds : List PyData) : Prop where
  f : ∀ d ∈ ds, fine b d = true
  dp : ∀ d ∈ ds, d.depth ≤ D
  m : massAll ds ≤ M
theorem NiceAll.tup {b D M : Nat} {ds : List PyData} (h : NiceAll b D M ds) : Nice b (D + 1) (M + 3) (.tuple ds) :=
  ⟨by simp only [fine]; exact fineAll_iff.mpr h.f, by simp only [PyData.depth]; have := depthAll_iff.mpr h.dp; omega, by simp only [mass]; have := h.m; omega⟩
theorem NiceAll.lst {b D M : Nat} {ds : List PyData} (h : NiceAll b D M ds) : Nice b (D + 1) (M + 3) (.list ds) :=
  ⟨by simp only [fine]; exact fineAll_iff.mpr h.f, by simp only [PyData.depth]; have := depthAll_iff.mpr h.dp; omega, by simp only [mass]; have := h.m; omega⟩
theorem Nice.parts {b D M : Nat} {ds : List PyData} (h : Nice b D M (.tuple ds)) : NiceAll b (D - 1) (M - 3) ds ∧ 1 ≤ D ∧ 3 ≤ M := by
  have h1 := h.f; have h2 := h.dp; have h3 := h.m
  simp only [fine] at h1
  simp only [PyData.depth] at h2
  simp only [mass] at h3
  exact ⟨⟨fineAll_iff.mp h1, depthAll_iff.mp (by omega), by omega⟩, by omega, by omega⟩
theorem NiceAll.mono {b b' D D' M M' : Nat} {ds : List PyData} (h : NiceAll b D M ds) (h1 : b ≤ b') (h2 : D ≤ D') (h3 : M ≤ M') : NiceAll b' D' M' ds :=
  ⟨fun d hd => fine_mono h1 d (h.f d hd), fun d hd => Nat.le_trans (h.dp d hd) h2, Nat.le_trans h.m h3⟩
theorem NiceAll.append {b D M M' : Nat} {ds es : List PyData} (h : NiceAll b D M ds) (h' : NiceAll b D M' es) : NiceAll b D (M + M') (ds ++ es) := by
  refine ⟨fun d hd => ?_, fun d hd => ?_, by rw [massAll_append]; have := h.m; have := h'.m; omega⟩
  · rcases List.mem_append.mp hd with z | z
    · exact h.f d z
    · exact h'.f d z
  · rcases List.mem_append.mp hd with z | z
    · exact h.dp d z
    · exact h'.dp d z
theorem NiceAll.one {b D M : Nat} {d : PyData} (h : Nice b D M d) : NiceAll b D (M + 2) [d] :=
  ⟨fun x hx => by rw [List.mem_singleton.mp hx]; exact h.f, fun x hx => by rw [List.mem_singleton.mp hx]; exact h.dp, by simp only [massAll]; have := h.m; omega⟩
/-- ds = its part ahead of i, the one at i, its part behind -/
theorem split_at {ds : List PyData} {i : Nat} {d : PyData} (h : ds[i]? = some d) : ds = ds.take i ++ d :: ds.drop (i + 1) := by
  obtain ⟨hi, e⟩ := List.getElem?_eq_some_iff.mp h
  rw [← e]; simp
theorem NiceAll.at {b D M : Nat} {ds : List PyData} {i : Nat} {d : PyData} (h : NiceAll b D M ds) (e : ds[i]? = some d) : ∃ M1 M2 M3, NiceAll b D M1 (ds.take i) ∧ Nice b D M2 d ∧ NiceAll b D M3 (ds.drop (i + 1)) ∧ M1 + (M2 + 2) + M3 ≤ M := by
  have m := h.m
  rw [split_at e, massAll_append] at m
  simp only [massAll] at m
  have hm : d ∈ ds := List.mem_of_getElem? e
  exact ⟨_, _, _, ⟨fun x hx => h.f x (List.mem_of_mem_take hx), fun x hx => h.dp x (List.mem_of_mem_take hx), Nat.le_refl _⟩, ⟨h.f d hm, h.dp d hm, Nat.le_refl _⟩, ⟨fun x hx => h.f x (List.mem_of_mem_drop hx), fun x hx => h.dp x (List.mem_of_mem_drop hx), Nat.le_refl _⟩, by omega⟩
theorem nice_int {b : Nat} {i : Int} (h : i.natAbs ≤ b) : Nice b 0 500 (.int i) := ⟨by simp only [fine]; exact decide_eq_true h, Nat.le_refl _, Nat.le_refl _⟩
theorem nice_leaf {b : Nat} {d : PyData} (h : d = .none ∨ (∃ c, d = .bool c)) : Nice b 0 500 d := by
  rcases h with rfl | ⟨c, rfl⟩
  · exact ⟨rfl, Nat.le_refl _, Nat.le_refl _⟩
  · exact ⟨rfl, Nat.le_refl _, Nat.le_refl _⟩
theorem nice_nil {b : Nat} : NiceAll b 0 0 [] := ⟨fun _ h => by simp at h, fun _ h => by simp at h, Nat.le_refl _⟩
theorem nice_str {b : Nat} {x : Str} (h : fine 0 (.str x) = true) : Nice b 0 500 (.str x) := ⟨fine_mono (Nat.zero_le _) _ h, Nat.le_refl _, Nat.le_refl _⟩
/-! ### a number or a truth, reckoned with -/
section
variable {X : Cx}
end
theorem cut_to {xs : List V} {i : Int} (h : 0 ≤ i) : cutV xs none (some i) = xs.take i.toNat := by
  obtain ⟨j, rfl⟩ : ∃ j : Nat, i = j := ⟨i.toNat, by omega⟩
  unfold cutV
  rw [HT.sIx_none, HT.sIx_nat, List.drop_zero, Nat.sub_zero, Int.toNat_natCast]
  by_cases q : j ≤ xs.length
  · rw [Nat.min_eq_left q]
  · rw [Nat.min_eq_right (by omega), List.take_length, List.take_of_length_le (by omega)]
theorem cut_from {xs : List V} {i : Int} (h : 0 ≤ i) : cutV xs (some i) none = xs.drop i.toNat := by
  obtain ⟨j, rfl⟩ : ∃ j : Nat, i = j := ⟨i.toNat, by omega⟩
  unfold cutV
  rw [HT.sIx_none, HT.sIx_nat, Int.toNat_natCast]
  by_cases q : j ≤ xs.length
  · rw [Nat.min_eq_left q, List.take_of_length_le (by rw [List.length_drop]; omega)]
  · rw [Nat.min_eq_right (by omega), List.drop_length, List.take_nil, List.drop_of_length_le (by omega)]
theorem cut_one {xs : List V} {i : Int} (h : 0 ≤ i) (h1 : i < xs.length) : cutV xs (some i) (some (i + 1)) = (xs.drop i.toNat).take 1 := by
  obtain ⟨j, rfl⟩ : ∃ j : Nat, i = j := ⟨i.toNat, by omega⟩
  unfold cutV
  have e : ((j : Int) + 1) = ((j + 1 : Nat) : Int) := by omega
  rw [e, HT.sIx_nat, HT.sIx_nat, Int.toNat_natCast, Nat.min_eq_left (by omega), Nat.min_eq_left (by omega)]
  congr 1
  omega
end L2
namespace L2
open PySem PySem.Spec PyProof.Rows
/-- without dicts, or no tuple at all -/
def NoDT (d : PyData) : Prop := d.hasDict = false ∨ isTup d = false
section
variable {X : Cx}
def strOfV : Value → Str
  | .str t _ => t
  | _ => ""
theorem op_neD (hu : X.A.units + 64 < cLine) : OpR X (compareOp .NotEq) (fun x y H Q => ∃ d e, At H d x ∧ At H e y ∧ d.hasDict = false ∧ e.hasDict = false ∧ d.canLay0 = true ∧ e.canLay0 = true ∧ d.depth ≤ 60 ∧ Q (.bl (!PyData.eqv d e)) H) := by
  refine .mk ?_
  intro pins s σ H x y v u Q I rx ry h
  obtain ⟨d, e, hd, he, n1, n2, c1, c2, dp, q⟩ := h
  obtain ⟨as, r1⟩ := reads_of I.hok _ _ _ hd rx n1
  obtain ⟨bs, r2⟩ := reads_of I.hok _ _ _ he ry n2
  exact SeqAt.compareNe_reads r1 r2 c1 c2 (by have := Nat.min_le_left d.depth e.depth; omega) (fin_bl I q rfl)
theorem op_eqD (hu : X.A.units + 64 < cLine) : OpR X (compareOp .Eq) (fun x y H Q => ∃ d e, At H d x ∧ At H e y ∧ d.hasDict = false ∧ e.hasDict = false ∧ d.canLay0 = true ∧ e.canLay0 = true ∧ d.depth ≤ 60 ∧ Q (.bl (PyData.eqv d e)) H) := by
  refine .mk ?_
  intro pins s σ H x y v u Q I rx ry h
  obtain ⟨d, e, hd, he, n1, n2, c1, c2, dp, q⟩ := h
  obtain ⟨as, r1⟩ := reads_of I.hok _ _ _ hd rx n1
  obtain ⟨bs, r2⟩ := reads_of I.hok _ _ _ he ry n2
  exact SeqAt.compareEq_reads r1 r2 c1 c2 (by have := Nat.min_le_left d.depth e.depth; omega) (fin_bl I q rfl)
end
/-! ### for and comprehensions whose range or tuple is reckoned with a change of the heap -/
def FK (g : TG) (tb : TS) (D : Ends) (σ : St) (vs : List V) (H1 : Hp) : Prop := ∃ j : Int, vs = [.int j] ∧ -(2 ^ 62) ≤ j ∧ j < 2 ^ 62 ∧ ∃ W : Nat → Nat → St → Hp → Prop, (∃ m, W 0 m σ H1) ∧ ∀ i m σ H, W i m σ H →
  ((Itr 0 j.toNat).stop i H ∧ D.nx σ H) ∨ ((Itr 0 j.toNat).go i H ∧ ∃ N : St → Hp → Prop, (∀ σ' H', N σ' H' → ∃ m', m' < m ∧ W (i + 1) m' σ' H') ∧ ∀ x H', (Itr 0 j.toNat).yld i H x H' → g x σ H' fun σ2 H2 => tb { D with nx := N, ct := N, bk := D.nx } σ2 H2)
theorem tFor_rng {ta : TA} {g : TG} {tb : TS} {D : Ends} {σ : St} {H : Hp} : tFor (iRng1 ta) g tb D σ H = ta σ H (FK g tb D σ) := rfl
theorem FK.of {g : TG} {tb : TS} {D : Ends} {σ : St} {H : Hp} {n : Nat} {i : Int} (ei : i = n) (hn : n ≤ 1000000) (Pv : Nat → St → Hp → Prop) (h0 : Pv 0 σ H)
    (hs : ∀ i σ H, i < n → Pv i σ H → g (.int (0 + (i : Nat))) σ H fun σ2 H2 => tb { D with nx := Pv (i + 1), ct := Pv (i + 1), bk := D.nx } σ2 H2) (hd : ∀ σ H, Pv n σ H → D.nx σ H) : FK g tb D σ [.int i] H := by
  subst ei
  refine ⟨n, rfl, by omega, by omega, ?_⟩
  rw [Int.toNat_natCast]
  exact for_range Pv h0 hs hd
def TK (K : PySem.W.Frag) (g : TG) (tb : TS) (D : Ends) (σ : St) (x : V) (H1 : Hp) : Prop := ∃ a, x = .ref a ∧ (∃ xs, SqT K H1 a xs) ∧ ∃ W : Nat → Nat → St → Hp → Prop, (∃ m, W 0 m σ H1) ∧ ∀ i m σ H, W i m σ H →
  ((Itt K a).stop i H ∧ D.nx σ H) ∨ ((Itt K a).go i H ∧ ∃ N : St → Hp → Prop, (∀ σ' H', N σ' H' → ∃ m', m' < m ∧ W (i + 1) m' σ' H') ∧ ∀ x H', (Itt K a).yld i H x H' → g x σ H' fun σ2 H2 => tb { D with nx := N, ct := N, bk := D.nx } σ2 H2)
theorem tFor_tup {K : PySem.W.Frag} {tl : TE} {g : TG} {tb : TS} {D : Ends} {σ : St} {H : Hp} : tFor (iTup K tl) g tb D σ H = tl σ H (TK K g tb D σ) := rfl
theorem TK.of {K : PySem.W.Frag} {g : TG} {tb : TS} {D : Ends} {σ : St} {H : Hp} {a : Addr} {xs : List V} (ha : H a = some (.tup xs)) (Pv : Nat → St → Hp → Prop) (h0 : Pv 0 σ H) (hl : ∀ i σ H', i ≤ xs.length → Pv i σ H' → H' a = some (.tup xs))
    (hs : ∀ i x σ H, xs[i]? = some x → Pv i σ H → g x σ H fun σ2 H2 => tb { D with nx := Pv (i + 1), ct := Pv (i + 1), bk := D.nx } σ2 H2) (hd : ∀ σ H, Pv xs.length σ H → D.nx σ H) : TK K g tb D σ (.ref a) H :=
  ⟨a, rfl, ⟨xs, SqT.of ha⟩, for_tup (xs := xs) Pv h0 (fun i σ H' hi p => SqT.of (hl i σ H' hi p)) hs hd⟩
def CK (js : List Nat) (te : TE) (σ : St) (Q : VK) (vs : List V) (H1 : Hp) : Prop := ∃ j : Int, vs = [.int j] ∧ -(2 ^ 62) ≤ j ∧ j < 2 ^ 62 ∧ ∀ acc, H1 acc = none → ∃ W : Nat → Nat → List V → Hp → Prop, (∃ m, W 0 m [] (upd H1 acc (.lst []))) ∧ ∀ i m ys H2, W i m ys H2 →
  ((Itr 0 j.toNat).stop i H2 ∧ Q (.ref acc) H2) ∨ ((Itr 0 j.toNat).go i H2 ∧ ∀ x H3, (Itr 0 j.toNat).yld i H2 x H3 → te (some x :: capS js σ) H3 fun y H4 => H4 acc = some (.lst ys) ∧ ys.length < sizeLine ∧ ∃ m', m' < m ∧ W (i + 1) m' (ys ++ [y]) (upd H4 acc (.lst (ys ++ [y]))))
theorem tComp_rng {js : List Nat} {ta : TA} {te : TE} {σ : St} {H : Hp} {Q : VK} : tComp js (iRng1 ta) te σ H Q = ta σ H (CK js te σ Q) := rfl
theorem CK.of {js : List Nat} {te : TE} {σ : St} {H : Hp} {Q : VK} {n : Nat} {i : Int} (ei : i = n) (hn : n ≤ 1000000)
    (h : ∀ acc, H acc = none → ∃ Pv : Nat → List V → Hp → Prop, Pv 0 [] (upd H acc (.lst [])) ∧
      (∀ i ys H', i < n → Pv i ys H' → te (some (.int (0 + (i : Nat))) :: capS js σ) H' fun y H'' => H'' acc = some (.lst ys) ∧ ys.length < sizeLine ∧ Pv (i + 1) (ys ++ [y]) (upd H'' acc (.lst (ys ++ [y])))) ∧
      ∀ ys H', Pv n ys H' → Q (.ref acc) H') : CK js te σ Q [.int i] H := by
  subst ei
  have := comp_R (ta := fun _ H R => R [.int n] H) (σ := σ) (H := H) (Q := Q) (js := js) (te := te) (n := n) (fun R hR => hR) hn h
  exact this
end L2
namespace L2
open PySem PySem.Spec PyProof.Rows
def Gs (mg : Str → Option Value) (x : Str) (i : Str) : Prop := ∃ t, mg x = some (.str i t)
theorem pglobS {X : Cx} {x : Str} {i : Str} {pos : Pos} (h : Gs X.mg x i) (hg : Gl X x := by rfl) (hd : (x == ("__debug__" : Str)) = false := by decide) : PE X (.Name x pos) (tC (.str i)) := by
  obtain ⟨t, ht⟩ := h
  exact pe_glob hg ht ⟨t, rfl⟩ hd
/-- a callee that tells a truth of things without dicts, or of no tuples -/
def spN (f : PyData → Bool) : Sp := fun vs H Q _ => ∃ v d, vs = [v] ∧ At H d v ∧ NoDT d ∧ ∀ H', Same H H' → Q (.bl (f d)) H'
theorem spN.len {f : PyData → Bool} {ps : List Str} (h : ps.length = 1) : ∀ vs H Q E, spN f vs H Q E → vs.length = ps.length := by rintro vs H Q E ⟨v, d, rfl, _⟩; exact h.symm
theorem N1.of {f : PyData → Bool} {v : V} {d : PyData} {H : Hp} {Q : VK} {E : XK} (h : At H d v) (n : NoDT d) (q : ∀ H', Same H H' → Q (.bl (f d)) H') : spN f ([v] ++ []) H Q E := ⟨v, d, rfl, h, n, q⟩
theorem hasDict_parts : ∀ {ds : List PyData}, PyData.hasDictAll ds = false → ∀ d ∈ ds, d.hasDict = false
  | d :: ds, h, x, hx => by
    have h' : d.hasDict = false ∧ PyData.hasDictAll ds = false := by simpa [PyData.hasDictAll] using h
    rcases List.mem_cons.mp hx with e | e
    · subst e; exact h'.1
    · exact hasDict_parts h'.2 x e
theorem NoDT.parts {ds : List PyData} (h : NoDT (.tuple ds)) : ∀ d ∈ ds, d.hasDict = false := by
  rcases h with h | h
  · exact hasDict_parts (by simpa [PyData.hasDict] using h)
  · cases h
end L2
namespace L2
open PySem PySem.Spec PyProof.Rows
/-! ### max(numbers, default=d) -/
def maxI (b : Int) : List Int → Int
  | [] => b
  | x :: r => maxI (if x > b then x else b) r
section
variable {prog : Program} {w : World} {A : Around} {R : Result → Shared → Prop} {It : Addr} {fp wr : List Addr} {n : Nat} {Pv : Nat → Value → Prop} {St : Nat → Heap → Prop}
theorem mxd_loop {ns : List Int} (W : Walks prog w A.in1 It fp wr n Pv St) (hn : n = ns.length) (hv : ∀ i v, Pv i v → ∃ t, v = .int (ns.getD i 0) t) (C : Addr) (nf : C ∉ fp) (d : Value) : ∀ (m j : Nat) (z : Shared) (best : Int) (tb : Tok) (c : Nat), ns.length - j = m → j ≤ ns.length → St j z.heap →
    z.heap.get? C = some ⟨.type "list", none, .seq #[.int best tb, .int best tb] c, #[]⟩ →
    (∀ t h' tk, (∀ b o, b ∉ wr → b ≠ C → z.heap.get? b = some o → h'.get? b = some o) → R (.ok (.ret (.int (maxI best (ns.drop j)) t))) { z with heap := h', toks := tk }) →
    codeAny (model prog w) A (.builtin "max.loop" ⟨[.ref It, .none, .ref C], [("default", d)]⟩) R z := by
  subst hn
  have nw : C ∉ wr := fun q => nf (W.sub _ q)
  have nm : (toString "max" ++ toString ".loop" : String) = "max.loop" := by decide
  intro m
  induction m with
  | zero =>
    intro j z best tb c hm hj st hC fin
    have e : j = ns.length := by omega
    subst e
    refine codeAny_builtin PySem.F.entry_max_loop ?_
    rw [Around.under_plainId PySem.F.plain_max_loop _]
    show wpAny _ A.in1 (seqItems? (.ref C) >>= _) _ _ z
    refine wpAny_bind (wpAny_seqItems hC rfl ?_)
    show wpAny _ A.in1 (tryCatch (pyNext (.ref It)) _ >>= _) _ _ z
    refine wpAny_bind (wpAny_tryCatch (W.done z _ _ st fun h' tk kp => ?_))
    refine wpAny_bind (wpAny_updateSeq (kp C _ nw hC) rfl (wpAny_bind (wpAny_letGo (wpAny_pure ?_))))
    rw [List.drop_length] at fin
    exact fin tb _ tk fun b o h1 h2 h3 => (Heap.get?_update_other _ _ (Ne.symm h2)).trans (kp b o h1 h3)
  | succ m ih =>
    intro j z best tb c hm hj st hC fin
    have lt : j < ns.length := by omega
    refine codeAny_builtin PySem.F.entry_max_loop ?_
    rw [Around.under_plainId PySem.F.plain_max_loop _]
    show wpAny _ A.in1 (seqItems? (.ref C) >>= _) _ _ z
    refine wpAny_bind (wpAny_seqItems hC rfl ?_)
    show wpAny _ A.in1 (tryCatch (pyNext (.ref It)) _ >>= _) _ _ z
    refine wpAny_bind (wpAny_tryCatch (W.item j z _ _ lt st fun v h' tk hP st' kp => ?_))
    obtain ⟨t, rfl⟩ := hv j v hP
    have hC' := kp C _ nw hC
    show wpAny _ A.in1 (tryCatch (holding [_, _] (richCompare .Gt _ (.int best tb) >>= _)) _ >>= _) _ _ _
    refine wpAny_bind (wpAny_tryCatch (wpAny_holding (wpAny_bind (richCompare_gives (op := .Gt) (typeIs_int _ _ t) (typeIs_int _ _ tb) PySem.F.slot_int_gt PySem.F.entry_int_gt (PySem.F.args_int_gt_2 _ _) (gives_int_gt _ _ t tb) (fun x => nomatch x) ?_))))
    refine wpAny_bind (wpAny_holding (wpAny_truthy_bool (wpAny_bind (wpAny_letGo (wpAny_pure ?_)))))
    have dr : ns.drop j = ns.getD j 0 :: ns.drop (j + 1) := by
      rw [List.drop_eq_getElem_cons lt, List.getD_eq_getElem?_getD, List.getElem?_eq_getElem lt]; rfl
    rw [dr] at fin
    by_cases hb : ns.getD j 0 > best
    · have e1 : maxI best (ns.getD j 0 :: ns.drop (j + 1)) = maxI (ns.getD j 0) (ns.drop (j + 1)) := by rw [maxI, if_pos hb]
      rw [e1] at fin
      rw [decide_eq_true hb]
      simp only [if_true]
      refine wpAny_bind (wpAny_updateSeq hC' rfl (wpAny_bind (wpAny_letGo ?_)))
      rw [nm]
      refine wpAny_pure ⟨plainId_quiet PySem.F.plain_max_loop _, ih (j + 1) _ _ t _ (by omega) lt (W.frame _ _ _ st' fun b hb o e => ?_) (Heap.get?_update_self _ hC' rfl) fun t2 h2 tk2 k2 => ?_⟩
      · exact (Heap.get?_update_other _ _ (fun q : C = b => nf (by rw [q]; exact hb))).trans e
      · exact fin t2 h2 tk2 fun b o h1 h3 e => k2 b o h1 h3 ((Heap.get?_update_other _ _ (Ne.symm h3)).trans (kp b o h1 e))
    · have e1 : maxI best (ns.getD j 0 :: ns.drop (j + 1)) = maxI best (ns.drop (j + 1)) := by rw [maxI, if_neg hb]
      rw [e1] at fin
      rw [decide_eq_false hb]
      simp only [Bool.false_eq_true, if_false]
      refine wpAny_bind (wpAny_letGo ?_)
      rw [nm]
      refine wpAny_pure ⟨plainId_quiet PySem.F.plain_max_loop _, ih (j + 1) _ best tb c (by omega) lt st' hC' fun t2 h2 tk2 k2 => ?_⟩
      exact fin t2 h2 tk2 fun b o h1 h3 e => k2 b o h1 h3 (kp b o h1 e)
theorem mxd_first {ns : List Int} (W : Walks prog w A.in1 It fp wr n Pv St) (hn : n = ns.length) (hv : ∀ i v, Pv i v → ∃ t, v = .int (ns.getD i 0) t) (C : Addr) (nf : C ∉ fp) (d : Value) (z : Shared) (c : Nat) (st : St 0 z.heap)
    (hC : z.heap.get? C = some ⟨.type "list", none, .seq #[] c, #[]⟩)
    (f0 : ns = [] → ∀ h' tk, (∀ b o, b ∉ wr → b ≠ C → z.heap.get? b = some o → h'.get? b = some o) → R (.ok (.ret d)) { z with heap := h', toks := tk })
    (f1 : ∀ x r, ns = x :: r → ∀ t h' tk, (∀ b o, b ∉ wr → b ≠ C → z.heap.get? b = some o → h'.get? b = some o) → R (.ok (.ret (.int (maxI x r) t))) { z with heap := h', toks := tk }) :
    codeAny (model prog w) A (.builtin "max.loop" ⟨[.ref It, .none, .ref C], [("default", d)]⟩) R z := by
  have nw : C ∉ wr := fun q => nf (W.sub _ q)
  have nm : (toString "max" ++ toString ".loop" : String) = "max.loop" := by decide
  refine codeAny_builtin PySem.F.entry_max_loop ?_
  rw [Around.under_plainId PySem.F.plain_max_loop _]
  show wpAny _ A.in1 (seqItems? (.ref C) >>= _) _ _ z
  refine wpAny_bind (wpAny_seqItems hC rfl ?_)
  show wpAny _ A.in1 (tryCatch (pyNext (.ref It)) _ >>= _) _ _ z
  cases ns with
  | nil =>
    subst hn
    refine wpAny_bind (wpAny_tryCatch (W.done z _ _ st fun h' tk kp => ?_))
    show wpAny _ A.in1 (rule _ >>= _) _ _ _
    exact wpAny_bind (wpAny_rule (wpAny_pure (f0 rfl h' tk fun b o h1 _ e => kp b o h1 e)))
  | cons x r =>
    refine wpAny_bind (wpAny_tryCatch (W.item 0 z _ _ (by rw [hn]; exact Nat.succ_pos _) st fun v h' tk hP st' kp => ?_))
    obtain ⟨t, e⟩ := hv 0 v hP
    have e : v = .int x t := e
    subst e
    have hC' := kp C _ nw hC
    show wpAny _ A.in1 (updateSeq C (fun _ => #[Value.int x t, Value.int x t]) >>= _) _ _ _
    refine wpAny_bind (wpAny_updateSeq hC' rfl ?_)
    rw [nm]
    refine wpAny_pure ⟨plainId_quiet PySem.F.plain_max_loop _, mxd_loop W hn hv C nf d _ 1 _ x t _ rfl (by simp) (W.frame _ _ _ st' fun b hb o e => ?_) (Heap.get?_update_self _ hC' rfl) fun t2 h2 tk2 k2 => ?_⟩
    · exact (Heap.get?_update_other _ _ (fun q : C = b => nf (by rw [q]; exact hb))).trans e
    · exact f1 x r rfl t2 h2 tk2 fun b o h1 h3 e => k2 b o h1 h3 ((Heap.get?_update_other _ _ (Ne.symm h3)).trans (kp b o h1 e))
end
theorem args_maxD (a v : Value) : argsOk "max" ⟨[a], [("default", v)]⟩ := by unfold argsOk; kernel_rfl
section
variable {prog : Program} {w : World} {A : Around} {E : Value → Shared → Prop} {s : Shared}
theorem call_maxD {l : Addr} {its : List Value} {ns : List Int} {d : Value} {Q : Value → Shared → Prop} (hh : A.handled = none) (hl : s.heap.IsList l its.toArray) (hi : ∀ i v, its[i]? = some v → ∃ t, v = Value.int (ns.getD i 0) t) (hlen : its.length = ns.length)
    (h0 : ns = [] → ∀ h' tk, (∀ b o, s.heap.get? b = some o → h'.get? b = some o) → Q d { s with heap := h', toks := tk })
    (h1 : ∀ b r, ns = b :: r → ∀ t h' tk, (∀ b o, s.heap.get? b = some o → h'.get? b = some o) → Q (Value.int (maxI b r) t) { s with heap := h', toks := tk }) :
    wpAny (model prog w) A (call (.builtin "max") [.ref l] [("default", d)]) Q E s := by
  have nm : (toString "max" ++ toString ".loop" : String) = "max.loop" := by decide
  have lt : l < s.heap.objs.size := by obtain ⟨_, e, _⟩ := hl; exact Heap.lt_size e
  refine kmk_tree PySem.F.kind_max PySem.F.plain_max PySem.F.entry_max (args_maxD _ _) ?_
  show wpAny _ A.in1 (Builtin.Builtins.bindParams "max" ["key", "default"] 0 ⟨[], [("default", d)]⟩ >>= _) _ _ s
  refine wpAny_bind (wpAny_of_eq (show Builtin.Builtins.bindParams "max" ["key", "default"] 0 ⟨[], [("default", d)]⟩ = pure [none, some d] from rfl) ?_)
  refine wpAny_bind (wpAny_pure ?_)
  refine wpAny_bind (wpAny_pyIter_list hl ?_)
  refine wpAny_bind (wpAny_newObj_type ?_)
  rw [nm]
  have W := Walks.list (prog := prog) (w := w) (A := A.in1) hh s.heap.objs.size l (Nat.ne_of_lt lt) its.toArray
  generalize eh : s.heap.push { cls := .type "list_iterator", data := .fields #[.ref l, .int 0 0] } = h1'
  have sz : h1'.objs.size = s.heap.objs.size + 1 := by rw [← eh, Heap.size_push]
  have k1 : ∀ b o, s.heap.get? b = some o → h1'.get? b = some o := fun b o e => by rw [← eh]; exact Heap.get?_push_of_some _ e
  have hit : h1'.IsListIter s.heap.objs.size l 0 := by rw [← eh]; exact ⟨_, Heap.get?_push_size _ rfl, rfl, rfl⟩
  have hl1 : h1'.IsList l its.toArray := by rw [← eh]; exact hl.push _
  have nf : h1'.objs.size ∉ [s.heap.objs.size, l] := fun q => by
    rcases List.mem_cons.mp q with e | q
    · rw [sz] at e; exact Nat.succ_ne_self _ e
    · have e := List.mem_singleton.mp q; rw [sz] at e; rw [← e] at lt; exact Nat.lt_irrefl _ (Nat.lt_trans (Nat.lt_succ_self _) lt)
  have ol : ∀ {h' : Heap}, (∀ b o, b ∉ [s.heap.objs.size] → b ≠ h1'.objs.size → (h1'.push { cls := .type "list", data := .seq #[] 0 }).get? b = some o → h'.get? b = some o) → ∀ b o, s.heap.get? b = some o → h'.get? b = some o := fun k b o e => by
    have lb := Heap.lt_size e
    refine k b o (fun q => ?_) (fun q => ?_) (Heap.get?_push_of_some _ (k1 b o e))
    · rw [List.mem_singleton.mp q] at lb; exact Nat.lt_irrefl _ lb
    · rw [q, sz] at lb; exact Nat.lt_irrefl _ (Nat.lt_trans (Nat.lt_succ_self _) lb)
  refine wpAny_pure ⟨plainId_quiet PySem.F.plain_max_loop _, mxd_first (ns := ns) W (by rw [List.size_toArray, hlen]) (fun i v e => hi i v (by simpa using e)) h1'.objs.size nf d _ _ ?_ (Heap.get?_push_size _ rfl) (fun e h' tk k => h0 e h' tk (ol k)) (fun x r e t h' tk k => h1 x r e t h' tk (ol k))⟩
  exact W.frame _ _ _ (show h1'.IsListIter s.heap.objs.size l 0 ∧ h1'.IsList l its.toArray from ⟨hit, hl1⟩) fun b _ o e => Heap.get?_push_of_some _ e
end
end L2
namespace L2
open PySem PySem.Spec PyProof.Rows
section
variable {X : Cx}
def tMaxD (t : TA) (te : TE) : TE := fun σ H Q => t σ H fun vs H1 => te σ H1 fun y H2 => ∃ (p : Addr) (ns : List Int), vs = [.ref p] ∧ H2 p = some (.lst (ns.map V.int)) ∧ (ns = [] → Q y H2) ∧ ∀ b r, ns = b :: r → Q (.int (maxI b r)) H2
theorem vals_ints_at {ns : List Int} : ∀ {us : List Value}, Vals (ns.map V.int) us → ∀ i v, us[i]? = some v → ∃ t, v = Value.int (ns.getD i 0) t := by
  induction ns with
  | nil => intro us r i v e; cases r; simp at e
  | cons n ns ih =>
    intro us r i v e
    cases r with
    | cons r1 r2 =>
      cases i with
      | zero =>
        obtain ⟨t, rfl⟩ := (r1 : ∃ t, _ = Value.int n t)
        simp at e
        exact ⟨t, e.symm⟩
      | succ i => simpa using ih r2 i v (by simpa using e)
theorem pe_maxD {e e2 : Expr} {t : TA} {te : TE} {p pos kpos : Pos} (hc : X.calm = true) (hm : X.mg "max" = none) (ha : PA X [e] t) (hk : PE X e2 te) (hg : Gl X "max" := by rfl) (h1 : plainE e = true := by rfl) :
    PE X (.Call (.Name "max" p) [e] [⟨some "default", e2, kpos⟩] pos) (tMaxD t te) := by
  refine .mk ?_
  intro pins s σ H Q I h
  refine wpAny_Call_Name_kw (ld_blt I hg hm bt_max ?_ (by decide) (by decide))
  refine callWith_kw ?_ ?_ ?_ ?_ ?_
  · refine thn (ha pos pins s σ H _ I h) fun us s1 ⟨vs, H1, I1, r, q⟩ => ?_
    refine thn ((pk_cons hk pk_nil : PK X [⟨some "default", e2, kpos⟩] _) pos pins s1 σ H1 (fun ys H2 => ∃ y, ys = [y] ∧ (∃ (p : Addr) (ns : List Int), vs = [.ref p] ∧ H2 p = some (.lst (ns.map V.int)) ∧ (ns = [] → Q y H2) ∧ ∀ b r, ns = b :: r → Q (.int (maxI b r)) H2)) I1 ?_) fun ws s2 ⟨zs, H2, I2, rz, q2⟩ => ?_
    · show te σ H1 (fun x H2 => ∃ y, [x] = [y] ∧ _)
      have fe : (fun (x : V) (H2 : Hp) => ∃ y, [x] = [y] ∧ (∃ (p : Addr) (ns : List Int), vs = [.ref p] ∧ H2 p = some (.lst (ns.map V.int)) ∧ (ns = [] → Q y H2) ∧ ∀ b r, ns = b :: r → Q (.int (maxI b r)) H2)) = fun y H2 => ∃ (p : Addr) (ns : List Int), vs = [.ref p] ∧ H2 p = some (.lst (ns.map V.int)) ∧ (ns = [] → Q y H2) ∧ ∀ b r, ns = b :: r → Q (.int (maxI b r)) H2 := by
        funext x H2
        refine propext ⟨?_, fun z => ⟨x, rfl, z⟩⟩
        rintro ⟨y, ey, z⟩
        cases ey
        exact z
      rw [fe]
      exact q
    · obtain ⟨y, rfl, l, ns, rfl, hl, q0, q1⟩ := q2
      obtain ⟨u, rfl, ru⟩ := r.one
      cases ru
      obtain ⟨v, rfl, rv⟩ := rz.one
      obtain ⟨_, its, n, rvs, eo⟩ := I2.hok l _ hl
      have hlen := rvs.length
      rw [List.length_map] at hlen
      refine call_maxD (ns := ns) (I2.ok.hd hc) (show s2.heap.IsList l its.toArray from ⟨_, eo, rfl, n, rfl⟩) (vals_ints_at rvs) hlen.symm (fun e h' tk k => ⟨y, H2, I2.kept (t' := tk) k, rv, q0 e⟩) (fun b r e t h' tk k => ⟨.int (maxI b r), H2, I2.kept (t' := tk) k, ⟨t, rfl⟩, q1 b r e⟩)
  · rw [star_one h1]; rfl
  · exact star_none (es := [e]) (by simp [h1])
  · rfl
  · rfl
end
end L2
namespace L2
open PySem PySem.Spec PyProof.Rows
def whatIx (t : Str) : Nat := if (("come" : Str) == t) = true then 0 else if (("done" : Str) == t) = true then 1 else 2
def whats : List V := [.str "come", .str "done", .str "wait"]
def rWhat (K : PySem.W.Frag) : V → List V → Hp → VK → Prop := fun x xs H Q => ∃ (p : Addr) (t : Str), x = .ref p ∧ SqT K H p whats ∧ xs = [.str t] ∧ t ∈ (["come", "done", "wait"] : List Str) ∧ Q (.int (whatIx t)) H
def rWhatL : V → List V → Hp → VK → Prop := fun x xs H Q => ∃ (p : Addr) (t : Str), x = .ref p ∧ H p = some (.lst whats) ∧ xs = [.str t] ∧ t ∈ (["come", "done", "wait"] : List Str) ∧ Q (.int (whatIx t)) H
theorem vals_three {x y z : V} : ∀ {us : List Value}, Vals [x, y, z] us → ∃ u v q, us = [u, v, q] ∧ RelV x u ∧ RelV y v ∧ RelV z q
  | _, .cons r (.cons q (.cons p .nil)) => ⟨_, _, _, rfl, r, q, p⟩
theorem ix_last {t : Str} (h : t ∈ (["come", "done", "wait"] : List Str)) (h0 : (("come" : Str) == t) = false) (h1 : (("done" : Str) == t) = false) : (("wait" : Str) == t) = true := by
  simp only [List.mem_cons, List.not_mem_nil, or_false] at h
  rcases h with rfl | rfl | rfl
  · revert h0; decide +kernel
  · revert h1; decide +kernel
  · decide +kernel
section
variable {X : Cx}
theorem tup_index3' {prog : Program} {w : World} {A : Around} {E : Value → Shared → Prop} {s : Shared} {p : Addr} {a b c t : Str} {k0 k1 k2 k3 : Tok} {Q : Value → Shared → Prop} (ht : IsTup s.heap p #[.str a k0, .str b k1, .str c k2]) (hl : (a == t) = false → (b == t) = false → (c == t) = true)
    (q : ∀ tk, Q (Value.int (if (a == t) = true then 0 else if (b == t) = true then 1 else 2) tk) { s with toks := s.toks + 1 }) : wpAny (model prog w) A (call (.builtin "tuple.index") [.ref p, .str t k3]) Q E s := by
  refine wpAny_call_entry PySem.F.slot_tuple_index ht.typeIs PySem.F.entry_tuple_index ?_ (PySem.F.args_tuple_index_2 _ _)
  show wpAny _ A.in1 (Builtin.Tuple.tupleItemsOf (.ref p) >>= _) _ _ s
  refine wpAny_bind (tupleItemsOf_ ht ?_)
  show wpAny _ _ ((pure 0 : Sem Nat) >>= _) _ _ s
  refine wpAny_bind (wpAny_pure ?_)
  show wpAny _ _ ((pure 3 : Sem Nat) >>= _) _ _ s
  refine wpAny_bind (wpAny_pure ?_)
  show wpAny _ _ (forIn [0:3] _ _ >>= _) _ _ s
  rw [Std.Legacy.Range.forIn_eq_forIn_range']
  have e : List.range' [0:3].start [0:3].size [0:3].step = [0, 1, 2] := rfl
  rw [e, List.forIn_cons]
  have mk : ∀ (i : Int) {R : PySem.Fin → Shared → Prop}, (∀ tk, R (.done (.ret (.int i tk))) { s with toks := s.toks + 1 }) → wpAny (model prog w) A.in1 (retInt i) R E s := fun i {R} h => by
    unfold retInt
    refine wpAny_bind (wpAny_mkInt (wpAny_pure (h _)))
  have eq : ∀ (z : Str) (k : Tok), SeqAt.EqAt A.in1 s (.str z k) (.str t k3) (z == t) := fun z k => SeqAt.EqAt.str_str z k t k3
  cases e0 : (a == t) with
  | true =>
    rw [e0] at q
    refine wpAny_bind (wpAny_bind (wpAny_bind (eq a k0 _ _ _ _ ?_)))
    rw [e0, if_pos rfl]
    refine wpAny_bind (mk 0 fun tk => wpAny_pure (wpAny_pure (wpAny_pure ⟨_, rfl, q tk⟩)))
  | false =>
    rw [e0] at q
    refine wpAny_bind (wpAny_bind (wpAny_bind (eq a k0 _ _ _ _ ?_)))
    rw [e0, if_neg (by decide)]
    refine wpAny_pure ?_
    show wpAny _ _ (forIn [1, 2] _ _) _ _ s
    rw [List.forIn_cons]
    cases e1 : (b == t) with
    | true =>
      rw [e1] at q
      refine wpAny_bind (wpAny_bind (eq b k1 _ _ _ _ ?_))
      rw [e1, if_pos rfl]
      refine wpAny_bind (mk 1 fun tk => wpAny_pure (wpAny_pure (wpAny_pure ⟨_, rfl, q tk⟩)))
    | false =>
      rw [e1] at q
      refine wpAny_bind (wpAny_bind (eq b k1 _ _ _ _ ?_))
      rw [e1, if_neg (by decide)]
      refine wpAny_pure ?_
      show wpAny _ _ (forIn [2] _ _) _ _ s
      rw [List.forIn_cons]
      refine wpAny_bind (wpAny_bind (eq c k2 _ _ _ _ ?_))
      rw [hl e0 e1, if_pos rfl]
      refine wpAny_bind (mk 2 fun tk => wpAny_pure (wpAny_pure (wpAny_pure ⟨_, rfl, q tk⟩)))
theorem mt_tindex {K : PySem.W.Frag} (hK : X.K = K) : MtR X "tuple.index" (rWhat K) := by
  subst hK
  intro pins s σ H x xs v us Q I rx rv h
  obtain ⟨p, t, rfl, hp, rfl, ht, q⟩ := h
  cases rx
  obtain ⟨u, rfl, tk, rfl⟩ := rv.one
  obtain ⟨its, r, pt, _⟩ := I.tuple hp
  obtain ⟨u0, u1, u2, rfl, ⟨k0, rfl⟩, ⟨k1, rfl⟩, ⟨k2, rfl⟩⟩ := vals_three r
  refine tup_index3' pt (ix_last ht) fun tk' => ⟨.int (whatIx t), H, I.tok _, ⟨tk', ?_⟩, q⟩
  unfold whatIx
  split
  · rfl
  · split <;> rfl
theorem mt_lindex : MtR X "list.index" rWhatL := by
  intro pins s σ H x xs v us Q I rx rv h
  obtain ⟨p, t, rfl, hp, rfl, ht, q⟩ := h
  cases rx
  obtain ⟨u, rfl, tk, rfl⟩ := rv.one
  obtain ⟨_, its, n, r, e⟩ := I.hok p _ hp
  obtain ⟨u0, u1, u2, rfl, ⟨k0, rfl⟩, ⟨k1, rfl⟩, ⟨k2, rfl⟩⟩ := vals_three r
  have ee : ∀ y, y ∈ #[Value.str "come" k0, Value.str "done" k1, Value.str "wait" k2] → SeqAt.EqAt X.A.in1 s y (.str t tk) (strOfV y == t) := fun y hy => by
    simp only [List.mem_toArray, List.mem_cons, List.not_mem_nil, or_false] at hy
    rcases hy with rfl | rfl | rfl <;> exact SeqAt.EqAt.str_str _ _ _ _
  have fin : ∀ j : Nat, whatIx t = j → (∃ x H', Inv X pins σ H' { s with toks := s.toks + 1 } ∧ RelV x (.int (j : Int) s.toks) ∧ Q x H') := fun j ej => ⟨.int j, H, I.tok _, ⟨_, rfl⟩, by rw [← ej]; exact q⟩
  cases e0 : (("come" : Str) == t) with
  | true =>
    refine call_meets PySem.F.slot_list_index ⟨_, e, rfl⟩ PySem.F.entry_list_index (PySem.F.args_list_index_2 _ _) (SeqAt.list_indexAt p #[.str "come" k0, .str "done" k1, .str "wait" k2] n none #[] (.str t tk) (fun y => strOfV y == t) 0 (by show 0 < 3; decide) (by decide) e0 (fun m hm h => by omega)) ⟨e, ee, ?_⟩
    exact fin 0 (by unfold whatIx; rw [if_pos e0])
  | false =>
    cases e1 : (("done" : Str) == t) with
    | true =>
      refine call_meets PySem.F.slot_list_index ⟨_, e, rfl⟩ PySem.F.entry_list_index (PySem.F.args_list_index_2 _ _) (SeqAt.list_indexAt p #[.str "come" k0, .str "done" k1, .str "wait" k2] n none #[] (.str t tk) (fun y => strOfV y == t) 1 (by show 1 < 3; decide) (by decide) e1 (fun m hm h => by
        have : m = 0 := by omega
        subst this; exact e0)) ⟨e, ee, ?_⟩
      exact fin 1 (by unfold whatIx; rw [if_neg (by rw [e0]; decide), if_pos e1])
    | false =>
      refine call_meets PySem.F.slot_list_index ⟨_, e, rfl⟩ PySem.F.entry_list_index (PySem.F.args_list_index_2 _ _) (SeqAt.list_indexAt p #[.str "come" k0, .str "done" k1, .str "wait" k2] n none #[] (.str t tk) (fun y => strOfV y == t) 2 (by show 2 < 3; decide) (by decide) (ix_last ht e0 e1) (fun m hm h => by
        have : m = 0 ∨ m = 1 := by omega
        rcases this with rfl | rfl
        · exact e0
        · exact e1)) ⟨e, ee, ?_⟩
      exact fin 2 (by unfold whatIx; rw [if_neg (by rw [e0]; decide), if_neg (by rw [e1]; decide)])
/-- a name that is bound at the top to a tuple, asked for a method -/
def GT2 (K : PySem.W.Frag) (mg : Str → Option Value) (x : Str) (W : List V) : Prop := ∃ a, mg x = some (.ref a) ∧ (∃ o, K.lookup a = some o ∧ o.cls = .type "tuple" ∧ o.dict = none) ∧ ∀ H, SqT K H a W
def tGT2 (K : PySem.W.Frag) (W : List V) : TE := fun _ H Q => ∀ a, (∃ o, K.lookup a = some o ∧ o.cls = .type "tuple" ∧ o.dict = none) → (∀ H', SqT K H' a W) → Q (.ref a) H
theorem pglobT2 {K : PySem.W.Frag} {x : Str} {W : List V} {pos : Pos} (hK : X.K = K) (h : GT2 K X.mg x W) (hg : Gl X x := by rfl) (hd : (x == ("__debug__" : Str)) = false := by decide) : PE X (.Name x pos) (tGT2 K W) := by
  obtain ⟨a, ha, ho, hs⟩ := h
  refine .mk ?_
  intro pins s σ H Q I q
  exact pe_glob (v := .ref a) hg ha rfl hd pins s σ H Q I (q a ho hs)
end
end L2
namespace L2
open PySem PySem.Spec PyProof.Rows
theorem comp_core {X : Cx} {elt iter : Expr} {x : Str} {px pos : Pos} {sc : Scope} {wi : TI} {te : TE} {N' : List Str} {js : List Nat} {use : Option (Value → Sem Unit)} {Qc : Value → Shared → Prop} {pins : List (Addr × Obj)} {s : Shared} {σ : St} {H : Hp} {Q : VK} {kp : Pos} (hc : X.calm = true) (hi : PI X (.Name x px) iter wi) (S : CSc X N' js sc) (h0 : N'[0]? = some x) (nd : N'.Nodup)
    (hx : sc.names.lookup x = some .local) (he : ∀ fp s H, PE (cxC X N' sc fp s H) elt te) (hs : ∀ x, foldedSetIterable iter X.env x = pure x) (I : Inv X pins σ H s) (h : tComp js wi te σ H Q)
    (fin : ∀ (acc C : Addr) (H' : Hp) (s' : Shared), Inv X pins σ H' s' → FpOk X pins H' C → (∃ m, s'.heap.Ns C m) → Q (.ref acc) H' → compPost (model X.prog X.w) X.A X.xe use Qc (.ref acc) C (.ok .next) s') :
    wpAny (model X.prog X.w) X.A (comprehension (.ListComp elt [⟨.Name x px, iter, [], 0⟩] sc pos) sc X.env kp (newList []) false (eval iter X.env) use) Qc X.xe s := by
  refine wpAny_comprehension_free (use := use) rfl hs S.clos S.kind S.names ?_
  refine thn (hi pins s σ H _ I h) fun v s1 q1 => thn q1 fun itv s2 q2 => ?_
  obtain ⟨it, fp, tn, J, H2, e, I2, T, st2, f2, q3⟩ := q2
  subst e
  refine wpAny_newObj_type ?_
  obtain ⟨W, ⟨m0, w0⟩, turn⟩ := q3 s2.heap.objs.size I2.fresh
  have I3 := I2.lnew (ys := []) (its := []) (t' := s2.toks) .nil (Nat.zero_le _)
  have lt2 : ∀ b ∈ fp, b < s2.heap.objs.size := fun b hb => by
    obtain ⟨o, ho, _⟩ := T.obj 0 _ st2 b hb
    exact Heap.lt_size ho
  generalize e3 : ({ s2 with heap := s2.heap.push { cls := .type "list", data := .seq ([] : List Value).toArray }, toks := s2.toks } : Shared) = s3 at I3
  have e3' : ({ s2 with heap := s2.heap.push { cls := .type "list", dict := none, data := .seq ([] : List Value).toArray } } : Shared) = s3 := e3
  have sz3 : s3.heap.objs.size = s2.heap.objs.size + 1 := by rw [← e3]; exact Heap.size_push ..
  have st3 : tn 0 s3.heap := T.keep 0 _ _ st2 fun b hb o ho => by rw [← e3]; exact Heap.get?_push_of_some _ ho
  have lt3 : ∀ b ∈ fp, b < s3.heap.objs.size := fun b hb => by rw [sz3]; exact Nat.lt_succ_of_lt (lt2 b hb)
  have f3 : ∀ b ∈ fp, FpOk X pins (upd H2 s2.heap.objs.size (.lst [])) b := fun b hb => ⟨by rw [upd_ne (Nat.ne_of_lt (lt2 b hb))]; exact (f2 b hb).1, (f2 b hb).2⟩
  generalize hH3 : upd H2 s2.heap.objs.size (.lst []) = H3 at I3 f3 w0
  refine wpAny_newFunctionEnv S.nocell (by intro y hy; simp at hy) (fun h1 hns hsb => ?_) S.kind
  have hk : ∀ b o, s3.heap.get? b = some o → h1.get? b = some o := fun b o q => hsb.extBut b o (Nat.ne_of_lt (Heap.lt_size q)) (Heap.get?_push_of_some _ q)
  have hns' : h1.Ns s3.heap.objs.size fun _ => none := hns
  have I4 : Inv (cxC X N' sc fp s3 H3) [] (none :: capS js σ) H3 { s3 with heap := h1, toks := s3.toks + ([] : List (Str × Value)).length } := inv_comp I3 f3 lt3 S hns' hk
  have st4 : tn 0 h1 := T.keep 0 _ _ st3 fun b hb o ho => hk b o ho
  have stat : ∀ {H' : Hp}, (∀ b ∈ fp, H' b = none) → ∀ b ∈ fp, FpOk (cxC X N' sc fp s3 H3) [] H' b := fun hn b hb => ⟨hn b hb, Nat.ne_of_lt (lt3 b hb), I4.ok.exfs b hb, .inl hb, (I4.ok.exf b hb).2, fun p hp => absurd (show p ∈ ([] : List (Addr × Obj)) from hp) (by simp)⟩
  have lx : Loc (cxC X N' sc fp s3 H3).env.scope x := .inl (lookup_relabel_local hx)
  -- the way out
  have out : ∀ {σ' : St} {H' : Hp} {s' : Shared}, Inv (cxC X N' sc fp s3 H3) [] σ' H' s' → Q (.ref s2.heap.objs.size) H' → compPost (model X.prog X.w) X.A X.xe use Qc (.ref s2.heap.objs.size) s3.heap.objs.size (.ok .next) s' := by
    intro σ' H' s' I' q'
    obtain ⟨m, hn, _⟩ := id I'.loc
    have I5 : Inv X pins σ H' s' := I3.call' I'.os I'.base I'.hok I'.bare fun b hb => ⟨(f3 b hb).2.2.2.1, (f3 b hb).2.1, (f3 b hb).2.2.2.2.1, (f3 b hb).2.2.2.2.2⟩
    exact fin _ _ H' s' I5 (I3.fpOk (Nat.le_refl _) I'.free) ⟨m, hn⟩ q'
  have loop : ∀ s4 : Shared, s4 = { s3 with heap := h1, toks := s3.toks + ([] : List (Str × Value)).length } → codeAny (model X.prog X.w) X.A (.compLoop (.ListComp elt [⟨.Name x px, iter, [], 0⟩] sc pos) 0 (.ref it) (.ref s2.heap.objs.size) (compEnvC sc (clOf sc X.env) s3.heap.objs.size X.env))
      (compPost (model X.prog X.w) X.A X.xe use Qc (.ref s2.heap.objs.size) s3.heap.objs.size) s4 := by
    rintro s4 rfl
    refine compLoop_go (fun n s' => ∃ i ys H', Inv (cxC X N' sc fp s3 H3) [] (none :: capS js σ) H' s' ∧ tn i s'.heap ∧ (∀ b ∈ fp, H' b = none) ∧ W i n ys H') ?_ m0 ⟨0, [], H3, I4, st4, fun b hb => (f3 b hb).1, w0⟩
    rintro n s5 ⟨i, ys, H5, I5, st5, fr5, w5⟩
    rcases turn i n ys H5 w5 with ⟨stop, qn⟩ | ⟨go, step⟩
    · refine thn (T.done (cxC X N' sc fp s3 H3) rfl rfl rfl hc i [] s5 _ H5 (fun _ _ => False) I5 (stat fr5) st5 stop) fun r s6 ⟨hr, I6⟩ => ?_
      subst hr
      exact out I6 qn
    · refine thn (T.item (cxC X N' sc fp s3 H3) rfl rfl rfl hc i [] s5 _ H5 (fun _ _ => False) I5 (stat fr5) st5 go) fun r s6 ⟨u, hr, q6⟩ => ?_
      subst hr
      refine thn q6 fun _ s7 ⟨y, H7, I7, r7, y7, st7, fr7⟩ => ?_
      have I7' := I7.pinned (stat fr7) (T.obj _ _ st7)
      have hg : PG (cxC X N' sc fp s3 H3) (.Name x px) (gName 0) := pg_name nd h0 lx (.inr (lookup_relabel_local hx))
      refine thn (hg _ s7 _ H7 y u (fun σ' H' => σ' = some y :: capS js σ ∧ H' = H7) I7' r7 ⟨rfl, rfl⟩) fun _ s8 ⟨σ8, H8, I8, e8, e8'⟩ => ?_
      subst e8 e8'
      refine thn (he fp s3 H3 _ s8 _ _ _ I8 (step y _ y7)) fun z s9 ⟨vz, H9, I9, r9, ha, hz, m', hm, w9⟩ => ?_
      refine thn (mt_append (X := cxC X N' sc fp s3 H3) _ s9 _ H9 (.ref s2.heap.objs.size) [vz] (.ref s2.heap.objs.size) [z] (fun _ H' => H' = upd H9 s2.heap.objs.size (.lst (ys ++ [vz]))) I9 rfl (.cons r9 .nil) ⟨_, ys, vz, rfl, rfl, ha, hz, rfl⟩) fun _ s10 ⟨_, H10, I10, _, e10⟩ => ?_
      subst e10
      refine ⟨m', hm, i + 1, ys ++ [vz], _, (I10.unpinned).weak rfl fun k v e => ?_, T.keep _ _ _ st7 fun b hb o e => (I10.pin (b, o) (List.mem_append_right _ (List.mem_append_right _ (mem_pinsAt hb e)))).1, fun b hb => ?_, w9⟩
      · cases k with
        | zero => simp at e
        | succ k => simpa using e
      · obtain ⟨o, e, d⟩ := T.obj _ _ st7 b hb
        exact (I10.pin (b, o) (List.mem_append_right _ (List.mem_append_right _ (mem_pinsAt hb e)))).2.1
  exact codeAny_compStart_list (loop _ rfl) (T.self X.A 0 _ _ _ st4 (loop _ rfl))

theorem ps_comp {X : Cx} {elt iter : Expr} {x y : Str} {px py pos spos : Pos} {sc : Scope} {wi : TI} {te : TE} {N' : List Str} {js : List Nat} {i : Nat} (hN : X.N.Nodup) (hi' : X.N[i]? = some y) (hy : Loc X.env.scope y) (hc : X.calm = true) (hi : PI X (.Name x px) iter wi) (S : CSc X N' js sc) (h0 : N'[0]? = some x) (nd : N'.Nodup)
    (hx : sc.names.lookup x = some .local) (he : ∀ fp s H, PE (cxC X N' sc fp s H) elt te) (hs : ∀ x, foldedSetIterable iter X.env x = pure x := by intro _; rfl) (hw : swapsWith (.ListComp elt [⟨.Name x px, iter, [], 0⟩] sc pos) (some (.Name y py)) spos.line X.env = pure true := by rfl)
    (hf : X.fn y = true ∨ X.env.scope.names.lookup y = some .local := by first | exact .inl rfl | exact .inr rfl | assumption) :
    PS X (.Assign [.Name y py] (.ListComp elt [⟨.Name x px, iter, [], 0⟩] sc pos) spos) (tAsg (tComp js wi te) (gName i)) := by
  refine .mk ?_
  intro pins s σ H D I h
  rw [exec_Assign_Name_used _ _ _ _ hw]
  refine wpAny_bind (wpAny_standAt (wpAny_bind ?_))
  refine wpAny_bind (comp_core hc hi S h0 nd hx he hs I h fun acc C H' s' I5 fc ⟨m, hn⟩ q => ?_)
  have ho : ∀ b ∈ [C], ∃ o, s'.heap.get? b = some o ∧ ∀ v, o.data ≠ .cell v := fun b hb => by
    rw [List.mem_singleton.mp hb]
    obtain ⟨o, es, n, e, ed, _⟩ := hn
    exact ⟨o, e, fun v z => by rw [ed] at z; cases z⟩
  have I6 := I5.pinned (fp := [C]) (fun b hb => by rw [List.mem_singleton.mp hb]; exact fc) ho
  have hg : PG X (.Name y py) (gName i) := pg_name hN hi' hy hf
  show wpAny _ _ (assign (.Name y py) X.env (.ref acc)) (fun _ s'' => ∃ m, s''.heap.Ns C m ∧ ∀ h', Heap.SameBut C s''.heap h' → _) _ s'
  refine thn (hg _ s' _ H' (.ref acc) (.ref acc) _ I6 rfl q) fun _ s7 ⟨σ7, H7, I7, q7⟩ => ?_
  have pc : ∀ o, s'.heap.get? C = some o → s7.heap.get? C = some o ∧ H7 C = none := fun o e => by
    have := I7.pin (C, o) (List.mem_append_right _ (List.mem_append_right _ (mem_pinsAt (by simp) e)))
    exact ⟨this.1, this.2.1⟩
  refine ⟨m, hn.at fun o e => (pc o e).1, fun h' sb => wpAny_pure (wpAny_pure ⟨σ7, H7, ?_, q7⟩)⟩
  have fr : H7 C = none := by
    obtain ⟨o, es, n, e, ed, _⟩ := hn
    exact (pc o e).2
  exact I7.unpinned.turned (it := C) (t' := s7.toks) (fun b o hb e => sb.extBut b o hb e) fr fc.2.1 fc.2.2.2.1 fc.2.2.2.2.1 fc.2.2.2.2.2
end L2
namespace L2
open PySem PySem.Spec PyProof.Rows
section
variable {X : Cx} {pos : Pos}
/-- a, b, c = x, y, z with plain local names -/
def tPar3 (i j l : Nat) (ta : TA) : TS := fun D σ H => ta σ H fun vs H1 => ∃ v w z, vs = [v, w, z] ∧ D.nx (((σ.set l (some z)).set j (some w)).set i (some v)) H1
theorem ps_par3 {i j l : Nat} {x y z : Str} {a b c : Expr} {ta : TA} {px py pz pt : Pos} {kt k2 pt2} (hc : X.calm = true) (hN : X.N.Nodup) (hi : X.N[i]? = some x) (hj : X.N[j]? = some y) (hl : X.N[l]? = some z)
    (hx : X.env.scope.names.lookup x = some .local) (hy : X.env.scope.names.lookup y = some .local) (hz : X.env.scope.names.lookup z = some .local) (ha : PA X [a, b, c] ta)
    (hw : swappedStores [.Tuple [.Name x px, .Name y py, .Name z pz] kt pt] (.Tuple [a, b, c] k2 pt2) X.env = pure (some [x, y, z]))
    (hs : swapsWithSole [.Tuple [.Name x px, .Name y py, .Name z pz] kt pt] (.Tuple [a, b, c] k2 pt2) pos.line X.env = pure false := by rfl) :
    PS X (.Assign [.Tuple [.Name x px, .Name y py, .Name z pz] kt pt] (.Tuple [a, b, c] k2 pt2) pos) (tPar3 i j l ta) := by
  refine .mk ?_
  intro pins s σ H D I h
  rw [exec_Assign_arm, hs]
  refine wpAny_bind (wpAny_standAt (wpAny_bind (wpAny_pure ?_)))
  rw [if_neg (by decide)]
  refine wpAny_bind (Tuple_ (thn (ha _ pins s σ H _ I h) fun us s1 ⟨vs, H1, I1, r1, v, w, t, e1, q1⟩ => ?_))
  subst e1
  obtain ⟨u1, u2, u3, rfl, rv, rw', rt⟩ := vals_three r1
  refine wpAny_newObj_type ?_ (by show 3 ≤ sizeLine; decide)
  have I2 : Inv X pins σ H1 { s1 with heap := s1.heap.push { cls := .type "tuple", data := .seq [u1, u2, u3].toArray } } := I1.kept (t' := s1.toks) fun b o e => Heap.get?_push_of_some _ e
  rw [hw]
  refine wpAny_bind (wpAny_pure ?_)
  show wpAny (model X.prog X.w) X.A (do rule "assign.swapped-stores"; let items ← unpackItems (.ref s1.heap.objs.size) 3 none; assignInOrder [fun v => bindName X.env z v, fun v => bindName X.env y v, fun v => bindName X.env x v] items.reverse; pure Flow.next) _ _ _
  refine wpAny_bind (wpAny_rule (wpAny_bind (unpackItems_tuple (items := #[u1, u2, u3]) (I.ok.hd hc) (IsTup.new s1.heap _) fun h' hx' => ?_)))
  have I3 := I2.kept (h' := h') (t' := s1.toks) fun b o e => hx' b o (Nat.ne_of_lt (Heap.lt_size e)) e
  show wpAny _ _ (assignInOrder [fun v => bindName X.env z v, fun v => bindName X.env y v, fun v => bindName X.env x v] [u3, u2, u1] >>= fun _ => pure Flow.next) _ _ _
  refine wpAny_bind (assignInOrder_cons (wpAny_bindName (store_ok I3 hN hl (.inl hz) rt (fun s2 I4 => ?_) (.inr hz))))
  refine assignInOrder_cons (wpAny_bindName (store_ok I4 hN hj (.inl hy) rw' (fun s3 I5 => ?_) (.inr hy)))
  exact assignInOrder_cons (wpAny_bindName (store_ok I5 hN hi (.inl hx) rv (fun s4 I6 => assignInOrder_nil (wpAny_pure ⟨_, H1, I6, q1⟩)) (.inr hx)))
end
end L2
namespace L2
open PySem PySem.Spec PyProof.Rows
/-! ### enumerate over a list -/
theorem Inv.turned2 {X : Cx} {pins : List (Addr × Obj)} {σ : St} {H : Hp} {s : Shared} {h' : Heap} {t' : Nat} {e it : Addr} (I : Inv X pins σ H s) (k : ∀ b o, b ≠ e → b ≠ it → s.heap.get? b = some o → h'.get? b = some o) (fe : FpOk X pins H e) (fi : FpOk X pins H it) :
    Inv X pins σ H { s with heap := h', toks := t' } := by
  have k2 : ∀ b o, b ∉ [e, it] → s.heap.get? b = some o → h'.get? b = some o := fun b o hb q => k b o (fun z => hb (by simp [z])) (fun z => hb (by simp [z])) q
  have fp : ∀ b ∈ [e, it], FpOk X pins H b := fun b hb => by
    rcases List.mem_cons.mp hb with z | z
    · rw [z]; exact fe
    · rw [List.mem_singleton.mp z]; exact fi
  have ni : ∀ b u, H b = some u → b ∉ [e, it] := fun b u q hb => by rw [(fp b hb).1] at q; cases q
  refine I.step (g' := s.gens) (d' := s.drawn) (ch := [e, it]) (fun b hb => ?_) (fun b o _ _ hc q _ => k2 b o hc q) (fun b o _ _ hc q _ => ⟨o.slots, k2 b o hc q⟩) (fun _ _ _ _ n => n) (fun b o hc q => ⟨o, k2 b o hc q⟩) (fun _ _ q => q) (fun _ _ _ q => q)
    (fun b ps q => ⟨#[], by rw [q]; simp⟩) (fun m hm => ?_) (fun b u q => ?_) I.bare
  · obtain ⟨_, f1, _, f3, f4, f5⟩ := fp b hb
    exact ⟨f3, f1, f4, f5⟩
  · obtain ⟨o, es, ep, ho, r⟩ := hm
    refine ⟨o, es, ep, k2 _ o (fun hb => (fp _ hb).2.1 rfl) ho, r⟩
  · refine (I.hok b u q).stay (fun c v hc z => k2 c v ?_ z) (fun _ z => z) fun _ _ z => z
    rcases hc with z | z
    · rw [z]; exact ni b u q
    · exact ni c _ z
def Ite (K : PySem.W.Frag) (a : Addr) : It :=
  ⟨fun i H => ∃ xs x, SqL K H a xs ∧ xs[i]? = some x, fun i H x H' => ∃ p y, H p = none ∧ x = .ref p ∧ H' = upd H p (.tup [.int i, y]) ∧ ∀ xs, SqL K H a xs → xs[i]? = some y, fun i H => ∃ xs, SqL K H a xs ∧ xs.length ≤ i⟩
theorem turn_enum {P : Program} {w : World} {K : PySem.W.Frag} {elts : List Expr} {x1} {tp : Pos} (a e it : Addr) (hne : e ≠ it) : Turn P w K (.Tuple elts x1 tp) (Ite K a) [e, it] e (fun i h => (∃ old, IsEnum h e it (i : Nat) old) ∧ h.IsListIter it a i) where
  mem := by simp
  obj := fun i h st b hb => by
    obtain ⟨⟨old, he⟩, o, ho, c, d⟩ := st
    rcases List.mem_cons.mp hb with z | z
    · rw [z]; exact ⟨_, he, fun v q => by cases q⟩
    · rw [List.mem_singleton.mp z]; exact ⟨o, ho, fun v q => by rw [d] at q; cases q⟩
  keep := fun i h h' st k => by
    obtain ⟨⟨old, he⟩, hi⟩ := st
    exact ⟨⟨old, k e (by simp) _ he⟩, hi.at fun o q => k it (by simp) o q⟩
  item := by
    intro X hP hw hK hc i pins s σ H E I hf st hg
    subst hP hw hK
    obtain ⟨⟨old, he⟩, hi⟩ := st
    obtain ⟨xs, x, hq, hx⟩ := hg
    obtain ⟨its, rv, p, hz⟩ := I.list hq
    obtain ⟨u, hu, ru⟩ := rv.get hx
    have fe := hf e (by simp)
    have fi := hf it (by simp)
    refine wpAny_pyNext_enum_item he hi p.isList (x := u) (by simpa using hu) hne fun h' eo hi' ht hsz kk => ?_
    have fr : H s.heap.objs.size = none := I.hok.fresh (Nat.le_refl _)
    have I1 : Inv X pins σ (upd H s.heap.objs.size (.tup [.int i, x])) { s with heap := s.heap.push { cls := .type "tuple", data := .seq #[.int i s.toks, u] }, toks := s.toks } :=
      I.laid (t' := s.toks) (fun b v q => Heap.get?_push_of_some _ q) (Nat.le_refl _) ⟨(by show 2 ≤ sizeLine; decide), [.int i s.toks, u], .cons ⟨_, rfl⟩ (.cons ru .nil), ⟨_, Heap.get?_push_size _ rfl, rfl, _, rfl⟩⟩
    have ee : e < s.heap.objs.size := Heap.lt_size he
    have ei : it < s.heap.objs.size := by obtain ⟨o, ho, _⟩ := hi; exact Heap.lt_size ho
    have fe1 : FpOk X pins (upd H s.heap.objs.size (.tup [.int i, x])) e := ⟨by rw [upd_ne (Nat.ne_of_lt ee)]; exact fe.1, fe.2⟩
    have fi1 : FpOk X pins (upd H s.heap.objs.size (.tup [.int i, x])) it := ⟨by rw [upd_ne (Nat.ne_of_lt ei)]; exact fi.1, fi.2⟩
    have I2 : Inv X pins σ (upd H s.heap.objs.size (.tup [.int i, x])) { s with heap := h', toks := s.toks + 1 } := I1.turned2 (t' := s.toks + 1) (fun b o h1 h2 q => by
      by_cases z : b = s.heap.objs.size
      · subst z
        rw [Heap.get?_push_size _ rfl] at q
        cases q
        exact ht
      · rcases Heap.get?_push_cases q with w | w
        · exact absurd w.1 z
        · exact kk b o h1 h2 w) fe1 fi1
    refine ⟨_, rfl, wpAny_letOwnedTupleGo_enum eo fun h'' en sb => ⟨.ref s.heap.objs.size, _, I2.turned (it := e) (t' := s.toks + 1) (fun b o hb q => sb.extBut b o hb q) fe1.1 fe1.2.1 fe1.2.2.2.1 fe1.2.2.2.2.1 fe1.2.2.2.2.2, rfl, ⟨_, x, fr, rfl, rfl, fun ys hy => by rw [I.list_inj hy hq]; exact hx⟩, ⟨⟨_, en⟩, ?_⟩, fun b hb => ?_⟩⟩
    · exact hi'.at fun o q => sb.extBut it o (Ne.symm hne) q
    · rcases List.mem_cons.mp hb with z | z
      · rw [z]; exact fe1.1
      · rw [List.mem_singleton.mp z]; exact fi1.1
  done := by
    intro X hP hw hK hc i pins s σ H E I hf st hg
    subst hP hw hK
    obtain ⟨⟨old, he⟩, hi⟩ := st
    obtain ⟨xs, hq, hx⟩ := hg
    obtain ⟨its, rv, p, hz⟩ := I.list hq
    have hl := rv.length
    obtain ⟨f0, f1, f2, f3, f4, f5⟩ := hf it (by simp)
    exact wpAny_pyNext_enum_end (I.ok.hd hc) he hi p.isList (by simp; omega) fun h' eb => ⟨rfl, I.turned (t' := s.toks) (fun b o hb q => eb b o hb q) f0 f1 f3 f4 f5⟩
  self := fun _ _ _ _ _ st h => by
    obtain ⟨⟨old, he⟩, _⟩ := st
    exact wpAny_pyIter_enum he h
section
variable {X : Cx}
def iEnum (K : PySem.W.Frag) (ta : TA) : TI := fun σ H R => ta σ H fun vs H1 => ∃ a, vs = [.ref a] ∧ (∃ xs, SqL K H1 a xs) ∧ R (Ite K a) H1
theorem pi_enum {K : PySem.W.Frag} {e : Expr} {elts : List Expr} {x1} {tp p pos : Pos} {ta : TA} (hK : X.K = K) (hm : X.mg "enumerate" = none) (ha : PA X [e] ta) (hg : Gl X "enumerate" := by rfl) (h1 : plainE e = true := by rfl) :
    PI X (.Tuple elts x1 tp) (.Call (.Name "enumerate" p) [e] [] pos) (iEnum K ta) := by
  subst hK
  refine .mk ?_
  intro pins s σ H R I h
  refine wpAny_Call_Name_kw (ld_blt I hg hm bt_enumerate ?_ (by decide) (by decide))
  refine PyProof.Rows.callWith_type1 (thn (ha pos pins s σ H _ I h) fun us s1 ⟨vs, H1, I1, r1, q1⟩ => ?_) (star_one h1) (star_none (es := []) rfl)
  obtain ⟨a, rfl, ⟨xs, hq⟩, q⟩ := q1
  obtain ⟨u, rfl, ru⟩ := r1.one
  cases ru
  obtain ⟨its, rv, pl, hz⟩ := I1.list hq
  refine call_enumerate_list pl.isList fun h' he hi hsz kk => ?_
  have I2 : Inv X pins σ H1 { s1 with heap := h' } := I1.kept (t' := s1.toks) kk
  have f1 : H1 (s1.heap.objs.size + 1) = none := I1.hok.fresh (Nat.le_succ _)
  have f0 : H1 s1.heap.objs.size = none := I1.hok.fresh (Nat.le_refl _)
  refine wpAny_pyIter_enum he ⟨s1.heap.objs.size + 1, _, _, Ite X.K a, H1, rfl, I2, turn_enum a (s1.heap.objs.size + 1) s1.heap.objs.size (Nat.succ_ne_self _), ⟨⟨_, he⟩, hi⟩, fun b hb => ?_, q⟩
  rcases List.mem_cons.mp hb with z | z
  · rw [z]; exact I1.fpOk (Nat.le_succ _) f1
  · rw [List.mem_singleton.mp z]; exact I1.fpOk (Nat.le_refl _) f0
/-- for k, x in enumerate(list), the list as it stands -/
def EK (K : PySem.W.Frag) (g : TG) (tb : TS) (D : Ends) (σ : St) (vs : List V) (H1 : Hp) : Prop := ∃ a, vs = [.ref a] ∧ (∃ xs, SqL K H1 a xs) ∧ ∃ W : Nat → Nat → St → Hp → Prop, (∃ m, W 0 m σ H1) ∧ ∀ i m σ H, W i m σ H →
  ((Ite K a).stop i H ∧ D.nx σ H) ∨ ((Ite K a).go i H ∧ ∃ N : St → Hp → Prop, (∀ σ' H', N σ' H' → ∃ m', m' < m ∧ W (i + 1) m' σ' H') ∧ ∀ x H', (Ite K a).yld i H x H' → g x σ H' fun σ2 H2 => tb { D with nx := N, ct := N, bk := D.nx } σ2 H2)
theorem tFor_enum {K : PySem.W.Frag} {ta : TA} {g : TG} {tb : TS} {D : Ends} {σ : St} {H : Hp} : tFor (iEnum K ta) g tb D σ H = ta σ H (EK K g tb D σ) := rfl
theorem EK.of {K : PySem.W.Frag} {g : TG} {tb : TS} {D : Ends} {σ : St} {H : Hp} {a : Addr} {xs : List V} (ha : H a = some (.lst xs)) (Pv : Nat → St → Hp → Prop) (h0 : Pv 0 σ H) (hl : ∀ i σ H', i ≤ xs.length → Pv i σ H' → H' a = some (.lst xs))
    (hs : ∀ i x σ H p, xs[i]? = some x → Pv i σ H → H p = none → g (.ref p) σ (upd H p (.tup [.int (i : Nat), x])) fun σ2 H2 => tb { D with nx := Pv (i + 1), ct := Pv (i + 1), bk := D.nx } σ2 H2) (hd : ∀ σ H, Pv xs.length σ H → D.nx σ H) : EK K g tb D σ [.ref a] H := by
  refine ⟨a, rfl, ⟨xs, SqL.of ha⟩, fun i m σ H => m = xs.length - i ∧ i ≤ xs.length ∧ Pv i σ H, ⟨_, rfl, Nat.zero_le _, h0⟩, ?_⟩
  rintro i m σ H ⟨rfl, hi, p⟩
  have q : SqL K H a xs := SqL.of (hl i σ H hi p)
  by_cases hlt : i < xs.length
  · refine .inr ⟨⟨xs, xs[i], q, List.getElem?_eq_getElem hlt⟩, Pv (i + 1), fun σ' H' p' => ⟨xs.length - (i + 1), by omega, rfl, hlt, p'⟩, fun x H' y => ?_⟩
    obtain ⟨t, z, ht, rfl, rfl, hz⟩ := y
    exact hs i z σ H t (hz xs q) p ht
  · have e : i = xs.length := by omega
    subst e
    exact .inl ⟨⟨xs, q, Nat.le_refl _⟩, hd σ H p⟩
end
end L2
namespace L2
open PySem PySem.Spec PyProof.Rows
/-! ### max of a list of numbers, at least one; a list of a list -/
theorem maxI_snoc : ∀ (l : List Int) (b x : Int), maxI b (l ++ [x]) = if x > maxI b l then x else maxI b l
  | [], b, x => rfl
  | y :: l, b, x => by
    show maxI (if y > b then y else b) (l ++ [x]) = _
    rw [maxI_snoc l]; rfl
theorem arg_max (val : Nat → Int) : ∀ k, val (argBest (fun i j => decide (val i > val j)) k) = maxI (val 0) ((List.range k).map fun i => val (i + 1))
  | 0 => rfl
  | k + 1 => by
    have ih := arg_max val k
    rw [List.range_succ, List.map_append]
    show val (if decide (val (k + 1) > val (argBest _ k)) = true then k + 1 else argBest _ k) = maxI (val 0) (_ ++ [val (k + 1)])
    rw [maxI_snoc, ← ih]
    by_cases h : val (k + 1) > val (argBest (fun i j => decide (val i > val j)) k)
    · rw [if_pos (decide_eq_true h), if_pos h]
    · rw [if_neg (by rw [decide_eq_false h]; decide), if_neg h]
def pairOf : Value → Int × Tok
  | .int i t => (i, t)
  | _ => (0, 0)
theorem ints_items : ∀ {ns : List Int} {us : List Value}, Vals (ns.map V.int) us → us.toArray = intItems (us.map pairOf).toArray ∧ us.map (fun u => (pairOf u).1) = ns
  | [], _, .nil => ⟨by simp [intItems], rfl⟩
  | n :: ns, _, .cons r t => by
    obtain ⟨tk, rfl⟩ := (r : ∃ tk, _ = Value.int n tk)
    obtain ⟨h1, h2⟩ := ints_items t
    refine ⟨?_, by rw [List.map_cons, h2]; rfl⟩
    have h1' := congrArg Array.toList h1
    unfold intItems at h1' ⊢
    apply Array.ext'
    simp at h1' ⊢
    exact ⟨⟨rfl, rfl⟩, h1'⟩
section
variable {X : Cx}
theorem call_maxL (hc : X.calm = true) : CallR X (.builtin "max") (fun vs H Q => ∃ (p : Addr) (b : Int) (r : List Int), vs = [.ref p] ∧ H p = some (.lst ((b :: r).map V.int)) ∧ Q (.int (maxI b r)) H) := by
  refine .mk ?_
  intro pins s σ H vs us Q I r h
  obtain ⟨p, b, rs, rfl, hp, q⟩ := h
  obtain ⟨u, rfl, ru⟩ := r.one
  cases ru
  obtain ⟨_, its, n, rv, e⟩ := I.hok p _ hp
  obtain ⟨e1, e2⟩ := ints_items rv
  have hl : s.heap.IsList p (intItems (its.map pairOf).toArray) := by rw [← e1]; exact ⟨_, e, rfl, n, rfl⟩
  have hlen := rv.length
  rw [List.length_map] at hlen
  have na : ∀ i, numAt (its.map pairOf).toArray i = (b :: rs).getD i 0 := fun i => by
    unfold numAt
    rw [← e2, List.getD_eq_getElem?_getD]
    simp
    rfl
  refine max_intList (I.ok.hd hc) hl (by simp; rw [← hlen]; simp) fun v h' tk hv k => ?_
  obtain ⟨t, rfl⟩ := intItems_at hv
  refine ⟨.int (maxI b rs), H, I.kept (t' := tk) k, ⟨t, ?_⟩, q⟩
  have := arg_max (numAt (its.map pairOf).toArray) ((its.map pairOf).toArray.size - 1)
  rw [this]
  congr 1
  have sz : (its.map pairOf).toArray.size - 1 = rs.length := by simp; rw [← hlen]; simp
  rw [sz, na 0]
  show maxI b _ = _
  congr 1
  apply List.ext_getElem
  · simp
  · intro i h1 h2
    simp at h1 h2
    rw [List.getElem_map, List.getElem_range, na (i + 1)]
    simp [List.getD_eq_getElem?_getD, h2]
theorem call_lstL : CallR X (.type "list") (fun vs H Q => ∃ (p : Addr) (ys : List V), vs = [.ref p] ∧ H p = some (.lst ys) ∧ ∀ l, H l = none → Q (.ref l) (upd H l (.lst ys))) := by
  refine .mk ?_
  intro pins s σ H vs us Q I r h
  obtain ⟨p, ys, e, hp, q⟩ := h
  exact call_list_of pins s σ H vs us Q I r ⟨p, ys, e, .inl (SqL.of hp), q⟩
end
end L2
namespace L2
open PySem PySem.Spec PyProof.Rows
/-! ### for k in reversed(range(n)) -/
theorem sub_ri_rev : isSubtype (.type "range_iterator") (.type "reversed") = pure false := by rw [isSubtype_type]; kernel_rfl
section
variable {prog : Program} {w : World} {A : Around} {E : Value → Shared → Prop} {s : Shared}
def rrObj (n : Int) : Obj := { cls := .type "range_iterator", data := .fields #[rawInt (n - 1), rawInt n, rawInt (-1)] }
theorem call_range_rev {r : Addr} {n : Int} {t u v : Tok} {Q : Value → Shared → Prop} (hr : IsRange s.heap r 0 n 1 t u v) (h0 : 0 ≤ n) (h1 : n < 2 ^ 62) (h : Q (.ref s.heap.objs.size) { s with heap := s.heap.push (rrObj n) }) :
    wpAny (model prog w) A (call (.builtin "range.__reversed__") [.ref r]) Q E s := by
  have hT : s.TypeIs (.ref r) "range" := ⟨_, hr, rfl⟩
  refine wpAny_call_entry PySem.F.slot_range_reversed hT PySem.F.entry_range_reversed ?_ (PySem.F.args_range_reversed_1 _)
  unfold Builtin.«range.__reversed__»
  refine wpAny_bind (wpAny_of_eq (a := Value.ref r) rfl ?_)
  have rf : ∀ {R : Int × Int × Int → Shared → Prop}, R (0, n, 1) s → wpAny (model prog w) A.in1 (Builtin.Range.rangeFields (.ref r)) R E s := fun {R} hR => by
    unfold Builtin.Range.rangeFields
    refine wpAny_bind (wpAny_field hr rfl (x := .int 0 t) rfl (wpAny_bind (wpAny_of_eq (a := some (0 : Int)) rfl ?_)))
    refine wpAny_bind (wpAny_field hr rfl (x := .int n u) rfl (wpAny_bind (wpAny_of_eq (a := some n) rfl ?_)))
    exact wpAny_bind (wpAny_field hr rfl (x := .int 1 v) rfl (wpAny_bind (wpAny_of_eq (a := some (1 : Int)) rfl (wpAny_pure hR))))
  refine wpAny_bind (rf ?_)
  dsimp only
  have sz : Builtin.Range.rangeSize 0 n 1 = n := by rw [rangeSize_one]; split <;> omega
  rw [sz]
  have sm : (Builtin.Range.rangeFitsLong 0 && Builtin.Range.rangeFitsLong n && Builtin.Range.rangeFitsLong 1 && Builtin.Range.rangeFitsLong (-1) && Builtin.Range.rangeFitsLong (0 - 1) && Builtin.Range.rangeFitsLong n) = true := by
    have : Builtin.Range.rangeFitsLong n = true := by simp only [Builtin.Range.rangeFitsLong, Bool.and_eq_true, decide_eq_true_eq]; omega
    rw [this]; decide
  rw [sm]
  simp only [Bool.not_true, Bool.false_eq_true, if_false, if_true]
  have e1 : (0 + (n - 1) * 1 : Int) = n - 1 := by omega
  rw [e1]
  exact wpAny_bind (wpAny_newObj_type (wpAny_pure ⟨_, rfl, h⟩))
theorem code_rev_range {r : Addr} {n : Int} {t u v : Tok} {Q : Value → Shared → Prop} (hr : IsRange s.heap r 0 n 1 t u v) (h0 : 0 ≤ n) (h1 : n < 2 ^ 62) (h : Q (.ref s.heap.objs.size) { s with heap := s.heap.push (rrObj n) }) :
    codeAny (model prog w) A (.call (.builtin "reversed.__new__") ⟨[.type "reversed", .ref r], []⟩) (wants Q E) s := by
  have hT : s.TypeIs (.ref r) "range" := ⟨_, hr, rfl⟩
  refine codeAny_of_tree ?_
  show wpAny _ A.in1 (do checkBuiltinCall "reversed.__new__" ⟨[.type "reversed", .ref r], []⟩; again (.builtin "reversed.__new__" ⟨[.type "reversed", .ref r], []⟩)) _ _ s
  refine wpAny_bind (wpAny_of_eq (F.newCall_reversed_1 (.ref r)) (wpAny_pure ⟨plainId_quiet F.plain_reversed_new _, codeAny_builtin F.entry_reversed_new ?_⟩))
  rw [Around.under_plainId F.plain_reversed_new _]
  unfold Builtin.«reversed.__new__»
  refine wpAny_bind (wpAny_of_eq (newClass_reversed (.ref r)) ?_); (try dsimp only)
  refine wpAny_bind (wpAny_of_eq (a := ()) rfl (wpAny_bind (wpAny_of_eq (a := ()) rfl ?_)))
  refine wpAny_bind (wpAny_specialOf hT PySem.F.slot_range_reversed.lookup ?_); (try dsimp only)
  refine wpAny_bind (wpAny_of_eq (PySem.F.slot_range_reversed.bind _) ?_); (try dsimp only)
  rw [if_neg (show ¬ ((Value.builtin "range.__reversed__" == Value.none) = true) from Bool.false_ne_true)]
  refine wpAny_bind (wpAny_rule (wpAny_bind (m := runValue (.call (.builtin "range.__reversed__") ⟨[.ref r], []⟩)) (show wpAny _ _ (call (.builtin "range.__reversed__") [.ref r]) _ _ _ from call_range_rev hr h0 h1 ?_)))
  first
    | exact wpAny_pure h
    | exact wpAny_bind (wpAny_pure (wpAny_pure h))
theorem call_rev_range {r : Addr} {n : Int} {t u v : Tok} {Q : Value → Shared → Prop} (hr : IsRange s.heap r 0 n 1 t u v) (h0 : 0 ≤ n) (h1 : n < 2 ^ 62) (h : Q (.ref s.heap.objs.size) { s with heap := s.heap.push (rrObj n) }) :
    wpAny (model prog w) A (call (.type "reversed") [.ref r]) Q E s := by
  refine callType_other (U := "range_iterator") (Q₁ := fun obj z => obj = .ref s.heap.objs.size ∧ z = { s with heap := s.heap.push (rrObj n) }) (by decide +kernel) F.create_reversed ⟨_, _, F.mro_reversed⟩ F.made_reversed sub_ri_rev (F.typeCall_reversed_1 _) (code_rev_range hr h0 h1 ⟨rfl, rfl⟩) ?_
  rintro obj z ⟨rfl, rfl⟩
  exact ⟨⟨_, Heap.get?_push_size _ rfl, rfl⟩, h⟩
end
/-- n - 1, n - 2, .., 0 -/
def Itv (n : Nat) : It := ⟨fun i _ => i < n, fun i H x H' => H' = H ∧ x = .int ((n : Int) - 1 - i), fun i _ => n ≤ i⟩
theorem turn_rev {P : Program} {w : World} {K : PySem.W.Frag} {tg : Expr} (it : Addr) (n : Nat) : Turn P w K tg (Itv n) [it] it (fun i h => IsRangeIter h it ((n : Int) - 1 + (i : Nat) * (-1)) ((n : Int) - (i : Nat)) (-1)) where
  mem := by simp
  obj := fun i h st b hb => by
    rw [List.mem_singleton.mp hb]
    exact ⟨_, st, fun v z => by
      have z' : Data.fields _ = Data.cell v := z
      cases z'⟩
  keep := fun i h h' st k => k it (by simp) _ st
  item := by
    intro X hP hw hK hc i pins s σ H E I hf st hg
    subst hP hw hK
    obtain ⟨f0, f1, f2, f3, f4, f5⟩ := hf it (by simp)
    have W := Walks.range (prog := X.prog) (w := X.w) (I.ok.hd hc) it ((n : Int) - 1) (-1) n
    refine W.item i s _ _ hg st fun v h' tk hv st' kk => ?_
    obtain ⟨t, rfl⟩ := hv
    have I1 : Inv X pins σ H { s with heap := h', toks := tk } := I.turned (fun b o hb e => kk b o (by simpa using hb) e) f0 f1 f3 f4 f5
    refine ⟨_, rfl, go_of (s := { s with heap := h', toks := tk }) (n := "range_iterator") st' rfl rfl (by decide) ⟨.int ((n : Int) - 1 - i), H, I1, ⟨t, ?_⟩, ⟨rfl, rfl⟩, st', fun b hb => (hf b hb).1⟩⟩
    congr 1
    omega
  done := by
    intro X hP hw hK hc i pins s σ H E I hf st hg
    subst hP hw hK
    obtain ⟨f0, f1, f2, f3, f4, f5⟩ := hf it (by simp)
    exact wpAny_pyNext_range_end (I.ok.hd hc) st (by have : n ≤ i := hg; omega) fun h' eb => ⟨rfl, I.turned (t' := s.toks) (fun b o hb e => eb b o hb e) f0 f1 f3 f4 f5⟩
  self := fun _ _ _ _ _ st h => wpAny_pyIter_rangeiter st h
section
variable {X : Cx}
theorem bt_reversed : bootBuiltins "reversed" = some (.type "reversed") := by decide +kernel
def iRev (ta : TA) : TI := fun σ H R => ta σ H fun vs H1 => ∃ n : Nat, vs = [.int n] ∧ n ≤ 1000000 ∧ R (Itv n) H1
theorem pi_rev {tg a : Expr} {p p2 pos pos2 : Pos} {ta : TA} (hm : X.mg "reversed" = none) (hm2 : X.mg "range" = none) (ha : PA X [a] ta) (hg : Gl X "reversed" := by rfl) (hg2 : Gl X "range" := by rfl) (h1 : plainE a = true := by rfl) :
    PI X tg (.Call (.Name "reversed" p) [.Call (.Name "range" p2) [a] [] pos2] [] pos) (iRev ta) := by
  refine .mk ?_
  intro pins s σ H R I h
  refine wpAny_Call_Name_kw (ld_blt I hg hm bt_reversed ?_ (by decide) (by decide))
  refine PyProof.Rows.callWith_type1 ?_ (star_one rfl) (star_none (es := []) rfl)
  rw [star_one (e := .Call (.Name "range" p2) [a] [] pos2) rfl]
  show wpAny _ _ (spliced ((false, eval (.Call (.Name "range" p2) [a] [] pos2) X.env) :: backTo pos (starEach [] X.env))) _ _ s
  refine Calls.spliced_cons ?_
  refine wpAny_Call_Name_kw (ld_blt I hg2 hm2 bt_range ?_ (by decide) (by decide))
  refine PyProof.Rows.callWith_type1 (thn (ha pos2 pins s σ H _ I h) fun us s1 ⟨vs, H1, I1, r1, n, e, hn, q⟩ => ?_) (star_one h1) (star_none (es := []) rfl)
  subst e
  obtain ⟨u, rfl, t, rfl⟩ := r1.one
  refine call_range_1 ?_
  refine Calls.spliced_nil ?_
  refine call_rev_range (IsRange.new ..) (by omega) (by omega) ?_
  have k2 : ∀ b o, s1.heap.get? b = some o → ((s1.heap.push { cls := .type "range", data := .fields #[.int 0 s1.toks, .int (n : Int) t, .int 1 (s1.toks + 1)] }).push (rrObj n)).get? b = some o := fun b o e => Heap.get?_push_of_some _ (Heap.get?_push_of_some _ e)
  have I2 := I1.kept (t' := s1.toks + 1 + 1) k2
  generalize hh : s1.heap.push { cls := .type "range", data := .fields #[.int 0 s1.toks, .int (n : Int) t, .int 1 (s1.toks + 1)] } = h1' at I2 ⊢
  have sz : s1.heap.objs.size ≤ h1'.objs.size := by rw [← hh, Heap.size_push]; exact Nat.le_succ _
  have st : IsRangeIter (h1'.push (rrObj n)) h1'.objs.size ((n : Int) - 1 + ((0 : Nat) : Int) * (-1)) ((n : Int) - ((0 : Nat) : Int)) (-1) := by
    have e1 : (n : Int) - 1 + ((0 : Nat) : Int) * (-1) = (n : Int) - 1 := by simp
    have e2 : (n : Int) - ((0 : Nat) : Int) = n := by simp
    rw [e1, e2]
    exact Heap.get?_push_size _ rfl
  refine wpAny_pyIter_rangeiter (s := { s1 with heap := h1'.push (rrObj n), toks := s1.toks + 1 + 1 }) (by exact st) ⟨h1'.objs.size, [h1'.objs.size], _, Itv n, H1, rfl, I2, turn_rev _ n, st, fun b hb => ?_, q⟩
  rw [List.mem_singleton.mp hb]
  exact I1.fpOk sz (I1.hok.fresh sz)
/-- for k in reversed(range(n)), by an invariant -/
def VK' (g : TG) (tb : TS) (D : Ends) (σ : St) (vs : List V) (H1 : Hp) : Prop := ∃ n : Nat, vs = [.int n] ∧ n ≤ 1000000 ∧ ∃ W : Nat → Nat → St → Hp → Prop, (∃ m, W 0 m σ H1) ∧ ∀ i m σ H, W i m σ H →
  ((Itv n).stop i H ∧ D.nx σ H) ∨ ((Itv n).go i H ∧ ∃ N : St → Hp → Prop, (∀ σ' H', N σ' H' → ∃ m', m' < m ∧ W (i + 1) m' σ' H') ∧ ∀ x H', (Itv n).yld i H x H' → g x σ H' fun σ2 H2 => tb { D with nx := N, ct := N, bk := D.nx } σ2 H2)
theorem tFor_rev {ta : TA} {g : TG} {tb : TS} {D : Ends} {σ : St} {H : Hp} : tFor (iRev ta) g tb D σ H = ta σ H (VK' g tb D σ) := rfl
theorem VK'.of {g : TG} {tb : TS} {D : Ends} {σ : St} {H : Hp} {n : Nat} {i : Int} (ei : i = n) (hn : n ≤ 1000000) (Pv : Nat → St → Hp → Prop) (h0 : Pv 0 σ H)
    (hs : ∀ i σ H, i < n → Pv i σ H → g (.int ((n : Int) - 1 - (i : Nat))) σ H fun σ2 H2 => tb { D with nx := Pv (i + 1), ct := Pv (i + 1), bk := D.nx } σ2 H2) (hd : ∀ σ H, Pv n σ H → D.nx σ H) : VK' g tb D σ [.int i] H := by
  subst ei
  refine ⟨n, rfl, hn, fun i m σ H => m = n - i ∧ i ≤ n ∧ Pv i σ H, ⟨n, rfl, Nat.zero_le _, h0⟩, ?_⟩
  rintro i m σ H ⟨rfl, hi, p⟩
  by_cases hlt : i < n
  · refine .inr ⟨hlt, Pv (i + 1), fun σ' H' p' => ⟨n - (i + 1), by omega, rfl, hlt, p'⟩, fun x H' y => ?_⟩
    obtain ⟨e1, e2⟩ := y
    subst e1 e2
    exact hs i σ _ hlt p
  · have e : i = n := by omega
    subst e
    exact .inl ⟨Nat.le_refl _, hd σ H p⟩
end
end L2
namespace L2
open PySem PySem.Spec PyProof.Rows
/-! ### a def whose last parameter has a number as its default -/
structure FunD (K : PySem.W.Frag) (x qual : Str) (st : Stmt) (f : Addr) (fd : FuncData) (T : Addr) (i : Int) (t : Tok) : Prop where
  ex : ∃ (oc : Value) (od : Option Addr) (kV doc pm : Value) (an : Option Addr) (cdv ct : Value) (osl : Array (Option Value)),
    fd = PySem.W.fnOf x qual (defArgs st) (defBody st) (defScope st) (.ref T) kV doc pm an cdv ct ∧ K.lookup f = some ⟨oc, od, .func fd, osl⟩ ∧ PySem.W.codeIn K cdv qual = true
  kp : PySem.W.keepIn K (.ref f) = true
  df : ∃ o n, K.lookup T = some o ∧ o.data = .seq #[.int i t] n
section
variable {P : Program} {w : World} {K : PySem.W.Frag} {mg : Str → Option Value} {base : Heap}
theorem FunD.ok {x qual : Str} {st : Stmt} {f T : Addr} {i : Int} {t : Tok} {fd : FuncData} {N ps : List Str} {k : Nat} {sp : Sp} (F : FunD K x qual st f fd T i t) (S : FnScope N ps (defScope st)) (len : ∀ vs H Q E, sp vs H Q E → vs.length = ps.length)
    (hb : ∀ (cdv : Value) (A : Around) (outer : List Env) (s : Shared) (H : Hp) (vs : List V) (Q : VK) (E : XK), Room k (A.deeper (envOfC qual (defScope st) s.heap.objs.size f cdv)) → sp vs H Q E →
      ∃ t, PSs (cxOf CX0 P w K mg base N qual (defScope st) f cdv A outer s H E).nox (defBody st) t ∧ t { nx := fun _ H' => Q .non H', rt := Q } (start N vs) H) : FnOk P w K mg base CX0 (k + 1) f fd ps sp := by
  obtain ⟨oc, od, kV, doc, pm, an, cdv, ct, osl, rfl, lk, hcd⟩ := F.ex
  exact fn_of lk hcd S len fun A outer s H vs Q E hr hsp => let ⟨t, h, q⟩ := hb cdv A outer s H vs Q E hr hsp; ⟨t, h.nox, q⟩
theorem FunD.binds {x qual : Str} {st : Stmt} {f T : Addr} {i : Int} {t : Tok} {fd : FuncData} {ps : List Str} {ds : List Value} (F : FunD K x qual st f fd T i t)
    (h : ∀ (kV doc pm : Value) (an : Option Addr) (cdv ct : Value) (us : List Value), (us ++ ds).length = ps.length → ∃ k, bindArgs (PySem.W.fnOf x qual (defArgs st) (defBody st) (defScope st) (.ref T) kV doc pm an cdv ct) ⟨us, []⟩ = seqItems? (.ref T) >>= k ∧ k (some #[.int i t]) = pure (ps.zip (us ++ ds))) : Binds K fd ps ds := by
  obtain ⟨oc, od, kV, doc, pm, an, cdv, ct, osl, rfl, lk, hcd⟩ := F.ex
  obtain ⟨o, n, ho, hd⟩ := F.df
  intro s us KX hl
  obtain ⟨k, h1, h2⟩ := h kV doc pm an cdv ct us hl
  exact BindsTo.of_defaults rfl (KX _ _ ho) hd h1 h2
end
/-- a callee with a default -/
structure CtD (P : Program) (w : World) (K : PySem.W.Frag) (mg : Str → Option Value) (base : Heap) (k : Nat) (x : Str) (ps : List Str) (i : Int) (sp : Sp) where
  f : Addr
  fd : FuncData
  t : Tok
  G : FnOk P w K mg base CX0 k f fd ps sp
  kp : PySem.W.keepIn K (.ref f) = true
  b : Binds K fd ps []
  bd : Binds K fd ps [.int i t]
  m : mg x = some (.ref f)
def CtD.mono {P : Program} {w : World} {K : PySem.W.Frag} {mg : Str → Option Value} {base : Heap} {j k : Nat} {x : Str} {ps : List Str} {i : Int} {sp : Sp} (c : CtD P w K mg base j x ps i sp) (h : j ≤ k) : CtD P w K mg base k x ps i sp := { c with G := c.G.mono h }
section
variable {X : Cx} {x : Str} {p pos : Pos} {e : Expr} {es : List Expr} {t : TA}
theorem pfd {k : Nat} {ps : List Str} {i : Int} {sp : Sp} (c : CtD X.prog X.w X.K X.mg X.base k x ps i sp) (hr : Room k X.A) (ha : PA X (e :: es) t) (hg : Gl X x := by rfl) (hdb : (x == ("__debug__" : Str)) = false := by decide) (h1 : plainE e = true := by rfl) (h2 : es.all plainE = true := by rfl) :
    PE X (.Call (.Name x p) (e :: es) [] pos) (tCall sp [.int i] E0 t) := pe_call c.G hr hg c.m c.kp c.bd (.cons ⟨_, rfl⟩ .nil) pass0 ha hdb (star_one h1) (star_none h2)
end
end L2
namespace L2
open PySem PySem.Spec PyProof.Rows
section
variable {X : Cx}
end
/-- for x in a list, reckoned with a change of the heap -/
def LK (K : PySem.W.Frag) (g : TG) (tb : TS) (D : Ends) (σ : St) (x : V) (H1 : Hp) : Prop := ∃ a, x = .ref a ∧ (∃ xs, SqL K H1 a xs) ∧ ∃ W : Nat → Nat → St → Hp → Prop, (∃ m, W 0 m σ H1) ∧ ∀ i m σ H, W i m σ H →
  ((Itl K a).stop i H ∧ D.nx σ H) ∨ ((Itl K a).go i H ∧ ∃ N : St → Hp → Prop, (∀ σ' H', N σ' H' → ∃ m', m' < m ∧ W (i + 1) m' σ' H') ∧ ∀ x H', (Itl K a).yld i H x H' → g x σ H' fun σ2 H2 => tb { D with nx := N, ct := N, bk := D.nx } σ2 H2)
theorem tFor_lst {K : PySem.W.Frag} {tl : TE} {g : TG} {tb : TS} {D : Ends} {σ : St} {H : Hp} : tFor (iList K tl) g tb D σ H = tl σ H (LK K g tb D σ) := rfl
theorem LK.of {K : PySem.W.Frag} {g : TG} {tb : TS} {D : Ends} {σ : St} {H : Hp} {a : Addr} {xs : List V} (ha : H a = some (.lst xs)) (Pv : Nat → St → Hp → Prop) (h0 : Pv 0 σ H) (hl : ∀ i σ H', i ≤ xs.length → Pv i σ H' → H' a = some (.lst xs))
    (hs : ∀ i x σ H, xs[i]? = some x → Pv i σ H → g x σ H fun σ2 H2 => tb { D with nx := Pv (i + 1), ct := Pv (i + 1), bk := D.nx } σ2 H2) (hd : ∀ σ H, Pv xs.length σ H → D.nx σ H) : LK K g tb D σ (.ref a) H :=
  ⟨a, rfl, ⟨xs, SqL.of ha⟩, for_list (xs := xs) Pv h0 (fun i σ H' hi p => SqL.of (hl i σ H' hi p)) hs hd⟩
end L2
namespace L2
open PySem
mutual
def noL : PyData → Bool
  | .tuple ds => noLAll ds
  | .list _ => false
  | .dict _ => false
  | .none => true
  | .bool _ => true
  | .int _ => true
  | .str _ => true
def noLAll : List PyData → Bool
  | [] => true
  | d :: ds => noL d && noLAll ds
end
theorem noLAll_iff : ∀ {ds : List PyData}, noLAll ds = true ↔ ∀ d ∈ ds, noL d = true
  | [] => by simp [noLAll]
  | d :: ds => by
    have ih := noLAll_iff (ds := ds)
    simp only [noLAll, Bool.and_eq_true, ih, List.mem_cons, forall_eq_or_imp]
mutual
theorem At.hidL {G : Hp} {p : Addr} {xs : List V} (hp : G p = some (.lst xs)) : ∀ (d : PyData) (v : V), noL d = true → At G d v → At (hid p G) d v
  | .none, _, _, h => by unfold At at h ⊢; exact h
  | .bool _, _, _, h => by unfold At at h ⊢; exact h
  | .int _, _, _, h => by unfold At at h ⊢; exact h
  | .str _, _, _, h => by unfold At at h ⊢; exact h
  | .tuple ds, v, n, h => by
    unfold At at h ⊢
    obtain ⟨a, ys, e, h1, h2⟩ := h
    refine ⟨a, ys, e, ?_, AtAll.hidL hp ds ys (by simpa [noL] using n) h2⟩
    rw [hid_ne (fun z => by subst z; rw [hp] at h1; cases h1)]; exact h1
  | .list _, _, n, _ => by simp [noL] at n
  | .dict _, _, n, _ => by simp [noL] at n
theorem AtAll.hidL {G : Hp} {p : Addr} {xs : List V} (hp : G p = some (.lst xs)) : ∀ (ds : List PyData) (ys : List V), noLAll ds = true → AtAll G ds ys → AtAll (hid p G) ds ys
  | [], _, _, h => by unfold AtAll at h ⊢; exact h
  | d :: ds, ys, n, h => by
    unfold AtAll at h ⊢
    obtain ⟨x, r, e, h1, h2⟩ := h
    have n' : noL d = true ∧ noLAll ds = true := by simpa [noLAll] using n
    exact ⟨x, r, e, At.hidL hp d x n'.1 h1, AtAll.hidL hp ds r n'.2 h2⟩
end
theorem sum_nn : ∀ l : List Int, (∀ c ∈ l, 0 ≤ c) → 0 ≤ l.sum
  | [], _ => by simp
  | x :: l, h => by rw [List.sum_cons]; have := sum_nn l fun c hc => h c (List.mem_cons_of_mem _ hc); have := h x List.mem_cons_self; omega
theorem nice_ints {b : Nat} : ∀ {cs : List Int}, (∀ c ∈ cs, c.natAbs ≤ b) → NiceAll b 0 (502 * cs.length) (cs.map PyData.int)
  | [], _ => nice_nil
  | c :: cs, h => by
    have := (NiceAll.one (nice_int (h c List.mem_cons_self))).append (nice_ints fun x hx => h x (List.mem_cons_of_mem _ hx))
    exact this.mono (Nat.le_refl _) (Nat.le_refl _) (by rw [List.length_cons]; omega)
theorem ints_data : ∀ ws : List Int, PyData.hasDictAll (ws.map .int) = false ∧ PyData.canLayAll0 (ws.map .int) = true ∧ PyData.depthAll (ws.map .int) = 0
  | [] => ⟨rfl, rfl, rfl⟩
  | w :: ws => by
    obtain ⟨h1, h2, h3⟩ := ints_data ws
    refine ⟨?_, ?_, ?_⟩
    · show (PyData.hasDict (.int w) || PyData.hasDictAll (ws.map .int)) = false
      rw [h1]; rfl
    · show (PyData.canLay0 (.int w) && PyData.canLayAll0 (ws.map .int)) = true
      rw [h2]; rfl
    · show max (PyData.depth (.int w)) (PyData.depthAll (ws.map .int)) = 0
      rw [h3]; rfl
theorem lst_cat {xs ys : List V} {p q : Addr} {H : Hp} {Q : VK} (e : H p = some (.lst xs)) (e2 : H q = some (.tup ys)) (z : xs.length + ys.length ≤ sizeLine) (k : ∀ r H', Same H H' → H' r = some (.lst (xs ++ ys)) → Q (.ref r) H') :
    ∃ p_2 ys', [V.ref q] = [V.ref p_2] ∧ H p_2 = some (.tup ys') ∧ ∀ l, H l = none → rCat (.ref p) (.ref l) (upd H l (.lst ys')) Q := by
  refine ⟨q, ys, rfl, e2, fun l hl => ?_⟩
  have s1 := same_new hl (HO.lst ys)
  refine ⟨p, l, xs, ys, rfl, rfl, s1 _ _ e, upd_same, z, fun r hr => ?_⟩
  exact k r _ (s1.trans (same_new hr _)) upd_same
theorem take_snoc {α : Type} {l : List α} {i : Nat} {c : α} (h : l[i]? = some c) : l.take (i + 1) = l.take i ++ [c] := by
  obtain ⟨hi, e⟩ := List.getElem?_eq_some_iff.mp h
  rw [List.take_succ_eq_append_getElem hi, e]
theorem SX.same {p : Addr} {H H' : Hp} (hp : H p = none) (s : SX p H H') : Same H H' := fun b o h => by
  have hb : b ≠ p := fun z => by rw [z, hp] at h; cases h
  exact s.get hb h
theorem pick_strs {ts : List Str} {i : Int} (h0 : 0 ≤ i) (h1 : i < ts.length) : ∃ t, t ∈ ts ∧ atI (ts.map V.str) i = some (.str t) := by
  have hi : i.toNat < ts.length := by omega
  refine ⟨ts[i.toNat], List.getElem_mem hi, ?_⟩
  have := atI_nat (xs := ts.map V.str) (j := i.toNat) (v := .str ts[i.toNat]) (by rw [List.getElem?_map, List.getElem?_eq_getElem hi]; rfl)
  rwa [show ((i.toNat : Nat) : Int) = i by omega] at this
theorem pick_ints {ts : List Int} {i : Int} (h0 : 0 ≤ i) (h1 : i < ts.length) : ∃ t, t ∈ ts ∧ atI (ts.map V.int) i = some (.int t) := by
  have hi : i.toNat < ts.length := by omega
  refine ⟨ts[i.toNat], List.getElem_mem hi, ?_⟩
  have := atI_nat (xs := ts.map V.int) (j := i.toNat) (v := .int ts[i.toNat]) (by rw [List.getElem?_map, List.getElem?_eq_getElem hi]; rfl)
  rwa [show ((i.toNat : Nat) : Int) = i by omega] at this

def tSeqO (a b : TS) : TS := tSeq a b
theorem seqOa (i : Nat) {e : TE} {b : TS} : tSeq (tAsg e (gName i)) b = tSeqO (tAsg e (gName i)) b := rfl
theorem seqOi {c : TT} {x y b : TS} : tSeq (tIfS c x y) b = tSeqO (tIfS c x y) b := rfl
theorem tSeqO.of {a b : TS} {D : Ends} {σ : St} {H : Hp} (R : St → Hp → Prop) (hR : ∀ σ' H', R σ' H' → b D σ' H') (h : ∀ N : St → Hp → Prop, (∀ σ' H', R σ' H' → N σ' H') → a { D with nx := N } σ H) : tSeqO a b D σ H := h _ hR
theorem tSeqO.on {a b : TS} {D : Ends} {σ : St} {H : Hp} (hR : ∀ H', Same H H' → b D σ H') (h : ∀ N : St → Hp → Prop, (∀ H', Same H H' → N σ H') → a { D with nx := N } σ H) : tSeqO a b D σ H :=
  tSeqO.of (fun σ' H' => σ' = σ ∧ Same H H') (fun σ' H' z => by rw [z.1]; exact hR H' z.2) fun N hN => h N fun H' s => hN _ _ ⟨rfl, s⟩
theorem len5 {α : Type} {l : List α} (h : l.length = 5) : ∃ a b c d e, l = [a, b, c, d, e] := by
  match l, h with
  | [a, b, c, d, e], _ => exact ⟨a, b, c, d, e, rfl⟩
theorem Same.updN {H H' : Hp} {p : Addr} {o : HO} (s : Same H H') (hp : H p = none) : Same H (upd H' p o) := fun b u h => by rw [upd_ne (ne_of_none h hp)]; exact s _ _ h
def isLst : PyData → Bool
  | .list _ => true
  | _ => false
theorem kit_lst (K : PySem.W.Frag) (d : PyData) : PySem.W.kitOne K (.type (tyD d)) (.type "list") = some (isLst d) := by cases d <;> kernel_rfl
theorem isi_lst {X : Cx} : CallR X (.builtin "isinstance") (rIsi "list" isLst) := isi_of kit_lst
theorem noLAll_get {ds : List PyData} (h : noLAll ds = true) {i : Nat} {d : PyData} (e : ds[i]? = some d) : noL d = true := noLAll_iff.mp h d (List.mem_of_getElem? e)
/-- a comprehension over a list, each of its things told a thing without lists -/
theorem comp_LV {K : PySem.W.Frag} {js : List Nat} {a : Addr} {xs : List V} {es : List PyData} {tl te : TE} {σ : St} {H : Hp} {Q : VK} (hl : ∀ R : VK, R (.ref a) H → tl σ H R) (ha : H a = some (.lst xs)) (hn : es.length = xs.length) (hz : es.length ≤ sizeLine) (hL : noLAll es = true)
    (step : ∀ (i : Nat) x e H', xs[i]? = some x → es[i]? = some e → Same H H' → ∀ R : VK, (∀ v H'', Same H' H'' → At H'' e v → R v H'') → te (some x :: capS js σ) H' R)
    (fin : ∀ acc ys H', Same H H' → H acc = none → H' acc = some (.lst ys) → AtAll (hid acc H') es ys → Q (.ref acc) H') : tComp js (iList K tl) te σ H Q := by
  refine hl _ ⟨a, rfl, ⟨xs, SqL.of ha⟩, fun acc hacc => ?_⟩
  refine ⟨fun i m ys H2 => m = es.length - i ∧ i ≤ es.length ∧ AtAll (hid acc H2) (es.take i) ys ∧ Same H H2 ∧ H2 acc = some (.lst ys), ⟨_, rfl, Nat.zero_le _, AtAll.nil, same_new hacc _, upd_same⟩, ?_⟩
  rintro i m ys H2 ⟨rfl, hi, hA, sm, hy⟩
  have ht : SqL K H2 a xs := SqL.of (sm _ _ ha)
  by_cases hlt : i < es.length
  · refine .inr ⟨⟨xs, xs[i]'(by omega), ht, List.getElem?_eq_getElem (by omega)⟩, fun x H3 y => ?_⟩
    obtain ⟨e, y⟩ := y
    subst e
    have e1 : es[i]? = some es[i] := List.getElem?_eq_getElem hlt
    refine step i x _ _ (y xs ht) e1 sm _ fun v H4 s4 a4 => ⟨s4 _ _ hy, ?_, es.length - (i + 1), by omega, rfl, hlt, ?_, ?_, upd_same⟩
    · rw [hA.length, List.length_take]; omega
    · rw [hid_upd, List.take_succ, e1]
      exact AtAll.append (hA.mono (Same.hid s4)) (AtAll.cons (At.hidL (s4 _ _ hy) _ _ (noLAll_get hL e1) a4) AtAll.nil)
    · refine fun b o q => ?_
      have nb : b ≠ acc := ne_of_none q hacc
      rw [upd_ne nb]
      exact s4 _ _ (sm _ _ q)
  · have e : i = es.length := by omega
    subst e
    rw [List.take_length] at hA
    exact .inl ⟨⟨xs, ht, by omega⟩, fin _ _ _ sm hacc hy hA⟩
end L2
namespace L2
open PySem PySem.Spec PyProof.Rows
/-! ### min of a list of numbers, at least one -/
def minI : Int → List Int → Int
  | b, [] => b
  | b, x :: l => minI (if x < b then x else b) l
theorem minI_snoc : ∀ (l : List Int) (b x : Int), minI b (l ++ [x]) = if x < minI b l then x else minI b l
  | [], b, x => rfl
  | y :: l, b, x => by
    show minI (if y < b then y else b) (l ++ [x]) = _
    rw [minI_snoc l]; rfl
theorem arg_min (val : Nat → Int) : ∀ k, val (argBest (fun i j => decide (val i < val j)) k) = minI (val 0) ((List.range k).map fun i => val (i + 1))
  | 0 => rfl
  | k + 1 => by
    have ih := arg_min val k
    rw [List.range_succ, List.map_append]
    show val (if decide (val (k + 1) < val (argBest _ k)) = true then k + 1 else argBest _ k) = minI (val 0) (_ ++ [val (k + 1)])
    rw [minI_snoc, ← ih]
    by_cases h : val (k + 1) < val (argBest (fun i j => decide (val i < val j)) k)
    · rw [if_pos (decide_eq_true h), if_pos h]
    · rw [if_neg (by rw [decide_eq_false h]; decide), if_neg h]
theorem minI_ge : ∀ {l : List Int} {b m : Int}, m ≤ b → (∀ x ∈ l, m ≤ x) → m ≤ minI b l
  | [], _, _, h, _ => h
  | x :: l, b, m, h, h2 => minI_ge (l := l) (by have := h2 x List.mem_cons_self; split <;> omega) fun y hy => h2 y (List.mem_cons_of_mem _ hy)
section
variable {X : Cx}
theorem call_minL (hc : X.calm = true) : CallR X (.builtin "min") (fun vs H Q => ∃ (p : Addr) (b : Int) (r : List Int), vs = [.ref p] ∧ H p = some (.lst ((b :: r).map V.int)) ∧ Q (.int (minI b r)) H) := by
  refine .mk ?_
  intro pins s σ H vs us Q I r h
  obtain ⟨p, b, rs, rfl, hp, q⟩ := h
  obtain ⟨u, rfl, ru⟩ := r.one
  cases ru
  obtain ⟨_, its, n, rv, e⟩ := I.hok p _ hp
  obtain ⟨e1, e2⟩ := ints_items rv
  have hl : s.heap.IsList p (intItems (its.map pairOf).toArray) := by rw [← e1]; exact ⟨_, e, rfl, n, rfl⟩
  have hlen := rv.length
  rw [List.length_map] at hlen
  have na : ∀ i, numAt (its.map pairOf).toArray i = (b :: rs).getD i 0 := fun i => by
    unfold numAt
    rw [← e2, List.getD_eq_getElem?_getD]
    simp
    rfl
  refine min_intList (I.ok.hd hc) hl (by simp; rw [← hlen]; simp) fun v h' tk hv k => ?_
  obtain ⟨t, rfl⟩ := intItems_at hv
  refine ⟨.int (minI b rs), H, I.kept (t' := tk) k, ⟨t, ?_⟩, q⟩
  have := arg_min (numAt (its.map pairOf).toArray) ((its.map pairOf).toArray.size - 1)
  rw [this]
  congr 1
  have sz : (its.map pairOf).toArray.size - 1 = rs.length := by simp; rw [← hlen]; simp
  rw [sz, na 0]
  show minI b _ = _
  congr 1
  apply List.ext_getElem
  · simp
  · intro i h1 h2
    simp at h1 h2
    rw [List.getElem_map, List.getElem_range, na (i + 1)]
    simp [List.getD_eq_getElem?_getD, h2]
end
end L2
namespace L2
open PySem PySem.Spec PyProof.Rows
/-! ### a comprehension of one clause: any target, at most one test -/
structure CScG (X : Cx) (nt : Nat) (N' : List Str) (js : List Nat) (sc : Scope) : Prop where
  kind : sc.kind = .function
  nocell : ∀ y ∈ sc.names, y.2 ≠ .cell
  names : ∀ y ∈ sc.names, y.2 = .local → sc.names.lookup y.1 = some .local
  clos : closureFor sc X.env = pure (clOf sc X.env)
  all : (sc.names.all fun y => y.2 != .free || (X.env.cells.lookup y.1).isSome) = true
  len : N'.length = nt + js.length
  cap : ∀ (i j : Nat), js[i]? = some j → N'[nt + i]? = X.N[j]?
  capk : ∀ y ∈ N'.drop nt, X.env.kindOf y = some .cell ∧ sc.names.lookup y = some .free
theorem inv_compG {X : Cx} {pins : List (Addr × Obj)} {σ : St} {H : Hp} {s : Shared} {fp : List Addr} {N' : List Str} {js : List Nat} {sc : Scope} {nt : Nat} {h1 : Heap} {tk : Nat} (I : Inv X pins σ H s) (hf : ∀ b ∈ fp, FpOk X pins H b) (hlt : ∀ b ∈ fp, b < s.heap.objs.size)
    (S : CScG X nt N' js sc) (hn : h1.Ns s.heap.objs.size fun _ => none) (hk : ∀ b o, s.heap.get? b = some o → h1.get? b = some o) : Inv (cxC X N' sc fp s H) [] (List.replicate nt none ++ capS js σ) H { s with heap := h1, toks := tk } := by
  refine ⟨⟨I.ok.mod, S.kind, I.ok.glob, I.ok.blt, Nat.le_refl _, fun x y c e1 e2 => I.ok.inj x y c (clOf_sound e1) (clOf_sound e2), fun x hx => ?_, fun x c e => absurd e (by show ¬ (false = true); simp), I.ok.hd, I.ok.frames, .inl rfl, fun b hb => ⟨Nat.ne_of_lt (hlt b hb), fun x c e => (hf b hb).2.2.2.2.1 x c (clOf_sound e)⟩, I.bs,
    Nat.le_trans I.ok.bsz I.sz, fun b o e hb => ?_, fun b hb z => ?_, I.stack, I.stkFree⟩, rfl, I.bare, Un.kept hk, ⟨fun _ => none, hn, fun i x v e1 e2 e3 => ?_⟩, fun x c e => ?_, I.hok.fresh (Nat.le_refl _), fun x c e => I.freeC x c (clOf_sound e), fun p hp => absurd (show p ∈ ([] : List (Addr × Obj)) from hp) (by simp), I.hok.kept hk, ?_⟩
  · have hx' : (relabel sc X.env).names.lookup x = some .cell ∨ (relabel sc X.env).names.lookup x = some .free := hx
    have key : (x, NameKind.free) ∈ sc.names := by
      rcases hx' with q | q
      · obtain ⟨k, hm, e | ⟨e, _⟩⟩ := relabel_mem q
        · exact absurd e.symm (S.nocell _ hm)
        · rw [← e]; exact hm
      · obtain ⟨k, hm, e | ⟨e, _⟩⟩ := relabel_mem q
        · rw [e]; exact hm
        · rw [← e]; exact hm
    have a := List.all_eq_true.mp S.all _ key
    have a' : (X.env.cells.lookup x).isSome = true := by simpa using a
    obtain ⟨c, hc⟩ := Option.isSome_iff_exists.mp a'
    exact ⟨c, cl_has hc sc.names [] key⟩
  · rcases (hf b hb).2.2.2.1 with z | z
    · exact I.ok.noex b o e z
    · exact absurd (Nat.lt_of_lt_of_le (Heap.lt_size e) (Nat.le_trans I.ok.bsz z)) (Nat.lt_irrefl _)
  · rcases List.mem_cons.mp (I.stkSub b z) with q | q
    · exact (hf b hb).2.1 q
    · exact (hf b hb).2.2.1 q
  · by_cases hlt : i < nt
    · rw [List.getElem?_append_left (by rw [List.length_replicate]; exact hlt), List.getElem?_replicate, if_pos hlt] at e2
      cases e2
    · obtain ⟨i', rfl⟩ : ∃ i', i = nt + i' := ⟨i - nt, by omega⟩
      rw [List.getElem?_append_right (by rw [List.length_replicate]; omega), List.length_replicate, Nat.add_sub_cancel_left] at e2
      have e2' : (capS js σ)[i']? = some (some v) := e2
      unfold capS at e2'
      rw [List.getElem?_map] at e2'
      cases hj : js[i']? with
      | none => rw [hj] at e2'; simp at e2'
      | some j =>
        rw [hj] at e2'
        have e4 : (σ[j]?).join = some v := by simpa using e2'
        have e5 : σ[j]? = some (some v) := by
          cases q : σ[j]? with
          | none => rw [q] at e4; simp at e4
          | some z => rw [q] at e4; simp at e4; rw [e4]
        have e6 : X.N[j]? = some x := by rw [← S.cap i' j hj]; exact e1
        have mem : x ∈ N'.drop nt := by
          have e1' : N'[nt + i']? = some x := e1
          exact List.mem_of_getElem? (i := i') (by rw [List.getElem?_drop]; exact e1')
        obtain ⟨k1, k2⟩ := S.capk x mem
        obtain ⟨m, _, hl⟩ := I.loc
        obtain ⟨u, r, l⟩ := hl j x v e6 e5 (.inr (.inl k1))
        refine ⟨u, r, .inr ⟨.inl (relabel_free I.ok.kind k1 sc.names k2), ?_⟩⟩
        rcases l with ⟨z, _⟩ | ⟨_, c, hc, hcell⟩
        · rw [k1] at z; cases z
        · obtain ⟨o, ho, hd⟩ := hcell
          exact ⟨c, cl_has hc sc.names [] (PySem.mem_of_lookup k2), o, hk c o ho, hd⟩
  · obtain ⟨v, o, ho, hd⟩ := I.cell x c (clOf_sound e)
    exact ⟨v, o, hk c o ho, hd⟩
  · show (List.replicate nt none ++ capS js σ).length = N'.length
    rw [S.len]; simp [capS]


/-- the tests of a clause -/
structure IfsR (X : Cx) (ifs : List Expr) (t : TT) : Prop where
  mk ::
  go : ∀ (pins : List (Addr × Obj)) (s : Shared) (σ : St) (H : Hp) (Q : Bool → Hp → Prop), Inv X pins σ H s → t σ H Q → wpAny (model X.prog X.w) X.A (forIn ifs true fun c r => if r = true then do let ok ← isTrue c X.env (eval c X.env); pure (ForInStep.yield ok) else pure (ForInStep.yield r)) (TP X pins σ Q) X.xe s
instance {X : Cx} {ifs : List Expr} {t : TT} : CoeFun (IfsR X ifs t) (fun _ =>
  ∀ (pins : List (Addr × Obj)) (s : Shared) (σ : St) (H : Hp) (Q : Bool → Hp → Prop), Inv X pins σ H s → t σ H Q → wpAny (model X.prog X.w) X.A (forIn ifs true fun c r => if r = true then do let ok ← isTrue c X.env (eval c X.env); pure (ForInStep.yield ok) else pure (ForInStep.yield r)) (TP X pins σ Q) X.xe s) := ⟨IfsR.go⟩
def tAll : TT := fun _ H Q => Q true H
theorem ifs_nil {X : Cx} : IfsR X [] tAll := .mk fun pins s σ H Q I h => wpAny_tests_nil ⟨H, I, h⟩
theorem ifs_one {X : Cx} {c : Expr} {t : TT} (h : PT X c t) : IfsR X [c] t := .mk fun pins s σ H Q I q => wpAny_tests_one (h pins s σ H Q I q)
/-- the reading: W the invariant, by the turn, a measure, what is made so far -/
def tCompG (nt : Nat) (js : List Nat) (wi : TI) (g : TG) (tc : TT) (te : TE) : TE := fun σ H Q => wi σ H fun J H1 => ∀ acc, H1 acc = none → ∃ W : Nat → Nat → List V → Hp → Prop, (∃ m, W 0 m [] (upd H1 acc (.lst []))) ∧ ∀ i m ys H2, W i m ys H2 →
  (J.stop i H2 ∧ Q (.ref acc) H2) ∨ (J.go i H2 ∧ ∀ x H3, J.yld i H2 x H3 → g x (List.replicate nt none ++ capS js σ) H3 fun σ' H' => (σ'.drop nt = capS js σ ∧ σ'.length = (List.replicate nt (none : Option V) ++ capS js σ).length) ∧ tc σ' H' fun b H'' =>
    if b = true then te σ' H'' fun y H4 => H4 acc = some (.lst ys) ∧ ys.length < sizeLine ∧ ∃ m', m' < m ∧ W (i + 1) m' (ys ++ [y]) (upd H4 acc (.lst (ys ++ [y]))) else ∃ m', m' < m ∧ W (i + 1) m' ys H'')
theorem compLoop_goG {prog : Program} {w : World} {A : Around} {R : Result → Shared → Prop} {s : Shared} {elt target iter : Expr} {ifs : List Expr} {sc : Scope} {pos : Pos} {it acc : Value} {env : Env} (Iv : Nat → Shared → Prop)
    (turn : ∀ n s, Iv n s → wpAny (model prog w) A (pyNext it) (fun r s1 => match r with
      | none => R (.ok .next) s1
      | some v => wpAny (model prog w) A (letOwnedTupleGo target it v) (fun _ s2 => wpAny (model prog w) A (assign target env v) (fun _ s3 =>
          wpAny (model prog w) A (forIn ifs true fun c r => if r = true then do let ok ← isTrue c env (eval c env); pure (ForInStep.yield ok) else pure (ForInStep.yield r)) (fun ok s3' =>
          if ok = true then wpAny (model prog w) A (eval elt env) (fun x s4 =>
          wpAny (model prog w) A (call (.builtin "list.append") [acc, x]) (fun _ s5 => ∃ m, m < n ∧ Iv m s5) (fun _ _ => False) s4) (fun _ _ => False) s3' else ∃ m, m < n ∧ Iv m s3') (fun _ _ => False) s3) (fun _ _ => False) s2) (fun _ _ => False) s1) (fun _ _ => False) s)
    (n : Nat) (h : Iv n s) : codeAny (model prog w) A (.compLoop (.ListComp elt [⟨target, iter, ifs, 0⟩] sc pos) 0 it acc env) R s := by
  refine codeAny_loop rfl Iv (fun n s hI => ?_) n h
  show wpAny _ _ ((compTurn (.ListComp elt [⟨target, iter, ifs, 0⟩] sc pos) 0 it acc env).onRaise (fun x => do noteFrame x env; theTreesLotGoes x)) _ _ s
  refine wpAny_noted ?_
  rw [compTurn_list]
  refine wpAny_bind (wpAny_standAt (wpAny_bind (wpAny_mono (turn n s hI) (fun r s1 q1 => ?_) fun _ _ f => f.elim)))
  cases r with
  | none => exact wpAny_pure q1
  | some v =>
    refine wpAny_bind (wpAny_mono q1 (fun _ s2 q2 => ?_) fun _ _ f => f.elim)
    refine wpAny_bind (wpAny_mono q2 (fun _ s3 q3 => wpAny_bind (wpAny_mono q3 (fun ok s3' q3' => ?_) fun _ _ f => f.elim)) fun _ _ f => f.elim)
    cases ok with
    | false => exact wpAny_pure ⟨rfl, q3'⟩
    | true => exact wpAny_bind (wpAny_bind (wpAny_mono q3' (fun x s4 q4 => wpAny_bind (wpAny_mono q4 (fun _ s5 q5 => wpAny_pure (wpAny_pure ⟨rfl, q5⟩)) fun _ _ f => f.elim)) fun _ _ f => f.elim))
theorem comp_coreG {X : Cx} {elt iter : Expr} {tg : Expr} {ifs : List Expr} {g : TG} {tc : TT} {nt : Nat} {pos : Pos} {sc : Scope} {wi : TI} {te : TE} {N' : List Str} {js : List Nat} {use : Option (Value → Sem Unit)} {Qc : Value → Shared → Prop} {pins : List (Addr × Obj)} {s : Shared} {σ : St} {H : Hp} {Q : VK} {kp : Pos} (hc : X.calm = true) (hi : PI X tg iter wi) (S : CScG X nt N' js sc)
    (hgt : ∀ fp s H, PG (cxC X N' sc fp s H) tg g) (hif : ∀ fp s H, IfsR (cxC X N' sc fp s H) ifs tc) (he : ∀ fp s H, PE (cxC X N' sc fp s H) elt te) (hs : ∀ x, foldedSetIterable iter X.env x = pure x) (I : Inv X pins σ H s) (h : tCompG nt js wi g tc te σ H Q)
    (fin : ∀ (acc C : Addr) (H' : Hp) (s' : Shared), Inv X pins σ H' s' → FpOk X pins H' C → (∃ m, s'.heap.Ns C m) → Q (.ref acc) H' → compPost (model X.prog X.w) X.A X.xe use Qc (.ref acc) C (.ok .next) s') :
    wpAny (model X.prog X.w) X.A (comprehension (.ListComp elt [⟨tg, iter, ifs, 0⟩] sc pos) sc X.env kp (newList []) false (eval iter X.env) use) Qc X.xe s := by
  refine wpAny_comprehension_free (use := use) rfl hs S.clos S.kind S.names ?_
  refine thn (hi pins s σ H _ I h) fun v s1 q1 => thn q1 fun itv s2 q2 => ?_
  obtain ⟨it, fp, tn, J, H2, e, I2, T, st2, f2, q3⟩ := q2
  subst e
  refine wpAny_newObj_type ?_
  obtain ⟨W, ⟨m0, w0⟩, turn⟩ := q3 s2.heap.objs.size I2.fresh
  have I3 := I2.lnew (ys := []) (its := []) (t' := s2.toks) .nil (Nat.zero_le _)
  have lt2 : ∀ b ∈ fp, b < s2.heap.objs.size := fun b hb => by
    obtain ⟨o, ho, _⟩ := T.obj 0 _ st2 b hb
    exact Heap.lt_size ho
  generalize e3 : ({ s2 with heap := s2.heap.push { cls := .type "list", data := .seq ([] : List Value).toArray }, toks := s2.toks } : Shared) = s3 at I3
  have e3' : ({ s2 with heap := s2.heap.push { cls := .type "list", dict := none, data := .seq ([] : List Value).toArray } } : Shared) = s3 := e3
  have sz3 : s3.heap.objs.size = s2.heap.objs.size + 1 := by rw [← e3]; exact Heap.size_push ..
  have st3 : tn 0 s3.heap := T.keep 0 _ _ st2 fun b hb o ho => by rw [← e3]; exact Heap.get?_push_of_some _ ho
  have lt3 : ∀ b ∈ fp, b < s3.heap.objs.size := fun b hb => by rw [sz3]; exact Nat.lt_succ_of_lt (lt2 b hb)
  have f3 : ∀ b ∈ fp, FpOk X pins (upd H2 s2.heap.objs.size (.lst [])) b := fun b hb => ⟨by rw [upd_ne (Nat.ne_of_lt (lt2 b hb))]; exact (f2 b hb).1, (f2 b hb).2⟩
  generalize hH3 : upd H2 s2.heap.objs.size (.lst []) = H3 at I3 f3 w0
  refine wpAny_newFunctionEnv S.nocell (by intro y hy; simp at hy) (fun h1 hns hsb => ?_) S.kind
  have hk : ∀ b o, s3.heap.get? b = some o → h1.get? b = some o := fun b o q => hsb.extBut b o (Nat.ne_of_lt (Heap.lt_size q)) (Heap.get?_push_of_some _ q)
  have hns' : h1.Ns s3.heap.objs.size fun _ => none := hns
  have I4 : Inv (cxC X N' sc fp s3 H3) [] (List.replicate nt none ++ capS js σ) H3 { s3 with heap := h1, toks := s3.toks + ([] : List (Str × Value)).length } := inv_compG I3 f3 lt3 S hns' hk
  have st4 : tn 0 h1 := T.keep 0 _ _ st3 fun b hb o ho => hk b o ho
  have stat : ∀ {H' : Hp}, (∀ b ∈ fp, H' b = none) → ∀ b ∈ fp, FpOk (cxC X N' sc fp s3 H3) [] H' b := fun hn b hb => ⟨hn b hb, Nat.ne_of_lt (lt3 b hb), I4.ok.exfs b hb, .inl hb, (I4.ok.exf b hb).2, fun p hp => absurd (show p ∈ ([] : List (Addr × Obj)) from hp) (by simp)⟩
  -- the way out
  have out : ∀ {σ' : St} {H' : Hp} {s' : Shared}, Inv (cxC X N' sc fp s3 H3) [] σ' H' s' → Q (.ref s2.heap.objs.size) H' → compPost (model X.prog X.w) X.A X.xe use Qc (.ref s2.heap.objs.size) s3.heap.objs.size (.ok .next) s' := by
    intro σ' H' s' I' q'
    obtain ⟨m, hn, _⟩ := id I'.loc
    have I5 : Inv X pins σ H' s' := I3.call' I'.os I'.base I'.hok I'.bare fun b hb => ⟨(f3 b hb).2.2.2.1, (f3 b hb).2.1, (f3 b hb).2.2.2.2.1, (f3 b hb).2.2.2.2.2⟩
    exact fin _ _ H' s' I5 (I3.fpOk (Nat.le_refl _) I'.free) ⟨m, hn⟩ q'
  have loop : ∀ s4 : Shared, s4 = { s3 with heap := h1, toks := s3.toks + ([] : List (Str × Value)).length } → codeAny (model X.prog X.w) X.A (.compLoop (.ListComp elt [⟨tg, iter, ifs, 0⟩] sc pos) 0 (.ref it) (.ref s2.heap.objs.size) (compEnvC sc (clOf sc X.env) s3.heap.objs.size X.env))
      (compPost (model X.prog X.w) X.A X.xe use Qc (.ref s2.heap.objs.size) s3.heap.objs.size) s4 := by
    rintro s4 rfl
    refine compLoop_goG (fun n s' => ∃ i ys H', Inv (cxC X N' sc fp s3 H3) [] (List.replicate nt none ++ capS js σ) H' s' ∧ tn i s'.heap ∧ (∀ b ∈ fp, H' b = none) ∧ W i n ys H') ?_ m0 ⟨0, [], H3, I4, st4, fun b hb => (f3 b hb).1, w0⟩
    rintro n s5 ⟨i, ys, H5, I5, st5, fr5, w5⟩
    rcases turn i n ys H5 w5 with ⟨stop, qn⟩ | ⟨go, step⟩
    · refine thn (T.done (cxC X N' sc fp s3 H3) rfl rfl rfl hc i [] s5 _ H5 (fun _ _ => False) I5 (stat fr5) st5 stop) fun r s6 ⟨hr, I6⟩ => ?_
      subst hr
      exact out I6 qn
    · refine thn (T.item (cxC X N' sc fp s3 H3) rfl rfl rfl hc i [] s5 _ H5 (fun _ _ => False) I5 (stat fr5) st5 go) fun r s6 ⟨u, hr, q6⟩ => ?_
      subst hr
      refine thn q6 fun _ s7 ⟨y, H7, I7, r7, y7, st7, fr7⟩ => ?_
      have I7' := I7.pinned (stat fr7) (T.obj _ _ st7)
      refine thn (hgt fp s3 H3 _ s7 _ H7 y u _ I7' r7 (step y _ y7)) fun _ s8 ⟨σ8, H8, I8, hsh, q8⟩ => ?_
      refine thn (hif fp s3 H3 _ s8 _ _ _ I8 q8) fun b s8' ⟨H8', I8', q8'⟩ => ?_
      have wk : ∀ k v, (List.replicate nt none ++ capS js σ)[k]? = some (some v) → σ8[k]? = some (some v) := fun k v e => by
        by_cases hlt : k < nt
        · rw [List.getElem?_append_left (by rw [List.length_replicate]; exact hlt), List.getElem?_replicate, if_pos hlt] at e
          cases e
        · rw [List.getElem?_append_right (by rw [List.length_replicate]; omega), List.length_replicate, ← hsh.1, List.getElem?_drop] at e
          rw [show nt + (k - nt) = k by omega] at e
          exact e
      cases b with
      | true =>
        rw [if_pos rfl] at q8' ⊢
        refine thn (he fp s3 H3 _ s8' _ _ _ I8' q8') fun z s9 ⟨vz, H9, I9, r9, ha, hz, m', hm, w9⟩ => ?_
        refine thn (mt_append (X := cxC X N' sc fp s3 H3) _ s9 _ H9 (.ref s2.heap.objs.size) [vz] (.ref s2.heap.objs.size) [z] (fun _ H' => H' = upd H9 s2.heap.objs.size (.lst (ys ++ [vz]))) I9 rfl (.cons r9 .nil) ⟨_, ys, vz, rfl, rfl, ha, hz, rfl⟩) fun _ s10 ⟨_, H10, I10, _, e10⟩ => ?_
        subst e10
        refine ⟨m', hm, i + 1, ys ++ [vz], _, (I10.unpinned).weak hsh.2.symm wk, T.keep _ _ _ st7 fun b hb o e => (I10.pin (b, o) (List.mem_append_right _ (List.mem_append_right _ (mem_pinsAt hb e)))).1, fun b hb => ?_, w9⟩
        obtain ⟨o, e, d⟩ := T.obj _ _ st7 b hb
        exact (I10.pin (b, o) (List.mem_append_right _ (List.mem_append_right _ (mem_pinsAt hb e)))).2.1
      | false =>
        rw [if_neg (by decide)] at q8' ⊢
        obtain ⟨m', hm, w9⟩ := q8'
        refine ⟨m', hm, i + 1, ys, _, (I8'.unpinned).weak hsh.2.symm wk, T.keep _ _ _ st7 fun b hb o e => (I8'.pin (b, o) (List.mem_append_right _ (List.mem_append_right _ (mem_pinsAt hb e)))).1, fun b hb => ?_, w9⟩
        obtain ⟨o, e, d⟩ := T.obj _ _ st7 b hb
        exact (I8'.pin (b, o) (List.mem_append_right _ (List.mem_append_right _ (mem_pinsAt hb e)))).2.1
  exact codeAny_compStart_list (loop _ rfl) (T.self X.A 0 _ _ _ st4 (loop _ rfl))

theorem ps_compG {X : Cx} {elt iter : Expr} {tg : Expr} {ifs : List Expr} {g : TG} {tc : TT} {nt : Nat} {y : Str} {py pos spos : Pos} {sc : Scope} {wi : TI} {te : TE} {N' : List Str} {js : List Nat} {i : Nat} (hN : X.N.Nodup) (hi' : X.N[i]? = some y) (hy : Loc X.env.scope y) (hc : X.calm = true) (hi : PI X tg iter wi) (S : CScG X nt N' js sc)
    (hgt : ∀ fp s H, PG (cxC X N' sc fp s H) tg g) (hif : ∀ fp s H, IfsR (cxC X N' sc fp s H) ifs tc) (he : ∀ fp s H, PE (cxC X N' sc fp s H) elt te) (hs : ∀ x, foldedSetIterable iter X.env x = pure x := by intro _; rfl) (hw : swapsWith (.ListComp elt [⟨tg, iter, ifs, 0⟩] sc pos) (some (.Name y py)) spos.line X.env = pure true := by rfl)
    (hf : X.fn y = true ∨ X.env.scope.names.lookup y = some .local := by first | exact .inl rfl | exact .inr rfl | assumption) :
    PS X (.Assign [.Name y py] (.ListComp elt [⟨tg, iter, ifs, 0⟩] sc pos) spos) (tAsg (tCompG nt js wi g tc te) (gName i)) := by
  refine .mk ?_
  intro pins s σ H D I h
  rw [exec_Assign_Name_used _ _ _ _ hw]
  refine wpAny_bind (wpAny_standAt (wpAny_bind ?_))
  refine wpAny_bind (comp_coreG hc hi S hgt hif he hs I h fun acc C H' s' I5 fc ⟨m, hn⟩ q => ?_)
  have ho : ∀ b ∈ [C], ∃ o, s'.heap.get? b = some o ∧ ∀ v, o.data ≠ .cell v := fun b hb => by
    rw [List.mem_singleton.mp hb]
    obtain ⟨o, es, n, e, ed, _⟩ := hn
    exact ⟨o, e, fun v z => by rw [ed] at z; cases z⟩
  have I6 := I5.pinned (fp := [C]) (fun b hb => by rw [List.mem_singleton.mp hb]; exact fc) ho
  have hg : PG X (.Name y py) (gName i) := pg_name hN hi' hy hf
  show wpAny _ _ (assign (.Name y py) X.env (.ref acc)) (fun _ s'' => ∃ m, s''.heap.Ns C m ∧ ∀ h', Heap.SameBut C s''.heap h' → _) _ s'
  refine thn (hg _ s' _ H' (.ref acc) (.ref acc) _ I6 rfl q) fun _ s7 ⟨σ7, H7, I7, q7⟩ => ?_
  have pc : ∀ o, s'.heap.get? C = some o → s7.heap.get? C = some o ∧ H7 C = none := fun o e => by
    have := I7.pin (C, o) (List.mem_append_right _ (List.mem_append_right _ (mem_pinsAt (by simp) e)))
    exact ⟨this.1, this.2.1⟩
  refine ⟨m, hn.at fun o e => (pc o e).1, fun h' sb => wpAny_pure (wpAny_pure ⟨σ7, H7, ?_, q7⟩)⟩
  have fr : H7 C = none := by
    obtain ⟨o, es, n, e, ed, _⟩ := hn
    exact (pc o e).2
  exact I7.unpinned.turned (it := C) (t' := s7.toks) (fun b o hb e => sb.extBut b o hb e) fr fc.2.1 fc.2.2.2.1 fc.2.2.2.2.1 fc.2.2.2.2.2
theorem pe_compG {X : Cx} {elt iter tg : Expr} {ifs : List Expr} {g : TG} {tc : TT} {nt : Nat} {pos : Pos} {sc : Scope} {wi : TI} {te : TE} {N' : List Str} {js : List Nat} (hc : X.calm = true) (hi : PI X tg iter wi) (S : CScG X nt N' js sc)
    (hgt : ∀ fp s H, PG (cxC X N' sc fp s H) tg g) (hif : ∀ fp s H, IfsR (cxC X N' sc fp s H) ifs tc) (he : ∀ fp s H, PE (cxC X N' sc fp s H) elt te) (hs : ∀ x, foldedSetIterable iter X.env x = pure x := by intro _; rfl) : PE X (.ListComp elt [⟨tg, iter, ifs, 0⟩] sc pos) (tCompG nt js wi g tc te) := by
  refine .mk ?_
  intro pins s σ H Q I h
  rw [eval_ListComp]
  refine comp_coreG (use := none) hc hi S hgt hif he hs I h fun acc C H' s' I5 fc ⟨m, hn⟩ q => ?_
  refine ⟨m, hn, fun h' sb => ?_⟩
  exact ⟨.ref acc, H', I5.turned (it := C) (t' := s'.toks) (fun b o hb q => sb.extBut b o hb q) fc.1 fc.2.1 fc.2.2.2.1 fc.2.2.2.2.1 fc.2.2.2.2.2, rfl, q⟩
theorem CScG.of {X : Cx} {nt : Nat} {N' : List Str} {js : List Nat} {sc : Scope} (k : sc.kind = .function := by rfl) (n : (sc.names.all fun y => y.2 != .cell) = true := by decide +kernel)
    (l : (sc.names.all fun y => y.2 != .local || sc.names.lookup y.1 == some .local) = true := by decide +kernel) (al : (sc.names.all fun y => y.2 != .free || (X.env.cells.lookup y.1).isSome) = true := by rfl)
    (ln : N'.length = nt + js.length := by rfl) (cp : (N'.drop nt).map some = js.map (fun j => X.N[j]?) := by rfl) (ck : ((N'.drop nt).all fun y => X.env.kindOf y == some .cell && sc.names.lookup y == some .free) = true := by rfl) : CScG X nt N' js sc := by
  have n' : ∀ y ∈ sc.names, y.2 ≠ .cell := fun y hy => by have := List.all_eq_true.mp n y hy; simpa using this
  refine ⟨k, n', names_ok l, closure_is al, al, ln, fun i j h => ?_, fun y h => ?_⟩
  · have := congrArg (fun l => l[i]?) cp
    simp only [List.getElem?_map, List.getElem?_drop, h, Option.map_some] at this
    cases e : N'[nt + i]? with
    | none => rw [e] at this; cases this
    | some y => rw [e] at this; exact Option.some.inj this
  · have := List.all_eq_true.mp ck y h
    simpa using this
/-- a comprehension over a list that is reckoned with a change of the heap -/
def LCK (K : PySem.W.Frag) (js : List Nat) (te : TE) (σ : St) (Q : VK) (x : V) (H1 : Hp) : Prop := tComp js (iList K fun _ H R => R x H) te σ H1 Q
theorem tComp_lst {K : PySem.W.Frag} {js : List Nat} {tl te : TE} {σ : St} {H : Hp} {Q : VK} : tComp js (iList K tl) te σ H Q = tl σ H (LCK K js te σ Q) := rfl
theorem LCK.of {K : PySem.W.Frag} {js : List Nat} {a : Addr} {xs : List V} {es : List PyData} {te : TE} {σ : St} {H : Hp} {Q : VK} (ha : H a = some (.lst xs)) (hn : es.length = xs.length) (hz : es.length ≤ sizeLine) (hL : noLAll es = true)
    (step : ∀ (i : Nat) x e H', xs[i]? = some x → es[i]? = some e → Same H H' → ∀ R : VK, (∀ v H'', Same H' H'' → At H'' e v → R v H'') → te (some x :: capS js σ) H' R)
    (fin : ∀ acc ys H', Same H H' → H acc = none → H' acc = some (.lst ys) → AtAll (hid acc H') es ys → Q (.ref acc) H') : LCK K js te σ Q (.ref a) H := comp_LV (fun R h => h) ha hn hz hL step fin
/-- the same over a tuple -/
theorem comp_TV {K : PySem.W.Frag} {js : List Nat} {a : Addr} {xs : List V} {es : List PyData} {tl te : TE} {σ : St} {H : Hp} {Q : VK} (hl : ∀ R : VK, R (.ref a) H → tl σ H R) (ha : H a = some (.tup xs)) (hn : es.length = xs.length) (hz : es.length ≤ sizeLine) (hL : noLAll es = true)
    (step : ∀ (i : Nat) x e H', xs[i]? = some x → es[i]? = some e → Same H H' → ∀ R : VK, (∀ v H'', Same H' H'' → At H'' e v → R v H'') → te (some x :: capS js σ) H' R)
    (fin : ∀ acc ys H', Same H H' → H acc = none → H' acc = some (.lst ys) → AtAll (hid acc H') es ys → Q (.ref acc) H') : tComp js (iTup K tl) te σ H Q := by
  refine hl _ ⟨a, rfl, ⟨xs, SqT.of ha⟩, fun acc hacc => ?_⟩
  refine ⟨fun i m ys H2 => m = es.length - i ∧ i ≤ es.length ∧ AtAll (hid acc H2) (es.take i) ys ∧ Same H H2 ∧ H2 acc = some (.lst ys), ⟨_, rfl, Nat.zero_le _, AtAll.nil, same_new hacc _, upd_same⟩, ?_⟩
  rintro i m ys H2 ⟨rfl, hi, hA, sm, hy⟩
  have ht : SqT K H2 a xs := SqT.of (sm _ _ ha)
  by_cases hlt : i < es.length
  · refine .inr ⟨⟨xs, xs[i]'(by omega), ht, List.getElem?_eq_getElem (by omega)⟩, fun x H3 y => ?_⟩
    obtain ⟨e, y⟩ := y
    subst e
    have e1 : es[i]? = some es[i] := List.getElem?_eq_getElem hlt
    refine step i x _ _ (y xs ht) e1 sm _ fun v H4 s4 a4 => ⟨s4 _ _ hy, ?_, es.length - (i + 1), by omega, rfl, hlt, ?_, ?_, upd_same⟩
    · rw [hA.length, List.length_take]; omega
    · rw [hid_upd, List.take_succ, e1]
      exact AtAll.append (hA.mono (Same.hid s4)) (AtAll.cons (At.hidL (s4 _ _ hy) _ _ (noLAll_get hL e1) a4) AtAll.nil)
    · refine fun b o q => ?_
      have nb : b ≠ acc := ne_of_none q hacc
      rw [upd_ne nb]
      exact s4 _ _ (sm _ _ q)
  · have e : i = es.length := by omega
    subst e
    rw [List.take_length] at hA
    exact .inl ⟨⟨xs, ht, by omega⟩, fin _ _ _ sm hacc hy hA⟩
/-- a comprehension of a list with a test, nothing new being made -/
theorem filt_snoc (kp : Nat → Bool) (f : Nat → V) (i : Nat) : ((List.range (i + 1)).filter kp).map f = ((List.range i).filter kp).map f ++ (if kp i = true then [f i] else []) := by
  rw [List.range_succ, List.filter_append, List.map_append]
  cases h : kp i <;> simp [h]
theorem filt_len (kp : Nat → Bool) (f : Nat → V) (i : Nat) : (((List.range i).filter kp).map f).length ≤ i := by
  rw [List.length_map]
  exact Nat.le_trans (List.length_filter_le _ _) (by rw [List.length_range]; exact Nat.le_refl _)
theorem compF_core {js : List Nat} {J : It} {tc : TT} {te : TE} {σ : St} {H : Hp} {Q : VK} {acc : Addr} {n : Nat} (xv : Nat → V) (kp : Nat → Bool) (f : Nat → V) (hn : n ≤ 1000) (hacc : H acc = none)
    (go : ∀ i H', i < n → Same H H' → J.go i H') (yl : ∀ i H' x H'', i < n → Same H H' → J.yld i H' x H'' → x = xv i ∧ H'' = H') (st : ∀ H', Same H H' → J.stop n H')
    (test : ∀ i H', i < n → Same H H' → ∀ R : Bool → Hp → Prop, R (kp i) H' → tc (some (xv i) :: capS js σ) H' R)
    (val : ∀ i H', i < n → kp i = true → Same H H' → ∀ R : VK, R (f i) H' → te (some (xv i) :: capS js σ) H' R)
    (fin : ∀ H', Same H H' → H' acc = some (.lst (((List.range n).filter kp).map f)) → Q (.ref acc) H') :
    ∃ W : Nat → Nat → List V → Hp → Prop, (∃ m, W 0 m [] (upd H acc (.lst []))) ∧ ∀ i m ys H2, W i m ys H2 →
      (J.stop i H2 ∧ Q (.ref acc) H2) ∨ (J.go i H2 ∧ ∀ x H3, J.yld i H2 x H3 → gName 0 x (List.replicate 1 none ++ capS js σ) H3 fun σ' H' => (σ'.drop 1 = capS js σ ∧ σ'.length = (List.replicate 1 (none : Option V) ++ capS js σ).length) ∧ tc σ' H' fun b H'' =>
        if b = true then te σ' H'' fun y H4 => H4 acc = some (.lst ys) ∧ ys.length < sizeLine ∧ ∃ m', m' < m ∧ W (i + 1) m' (ys ++ [y]) (upd H4 acc (.lst (ys ++ [y]))) else ∃ m', m' < m ∧ W (i + 1) m' ys H'') := by
  refine ⟨fun i m ys H2 => m = n - i ∧ i ≤ n ∧ ys = ((List.range i).filter kp).map f ∧ Same H H2 ∧ H2 acc = some (.lst ys), ⟨_, rfl, Nat.zero_le _, rfl, same_new hacc _, upd_same⟩, ?_⟩
  rintro i m ys H2 ⟨rfl, hi, rfl, sm, hy⟩
  by_cases hlt : i < n
  · refine .inr ⟨go i H2 hlt sm, fun x H3 y => ?_⟩
    obtain ⟨rfl, rfl⟩ := yl i H2 x H3 hlt sm y
    refine ⟨⟨rfl, by simp⟩, ?_⟩
    refine test i _ hlt sm _ ?_
    have hs := filt_snoc kp f i
    cases h : kp i with
    | true =>
      rw [if_pos rfl]
      rw [h, if_pos rfl] at hs
      refine val i _ hlt h sm _ ⟨hy, small1000 (by have := filt_len kp f i; omega), n - (i + 1), by omega, rfl, hlt, hs.symm, sm.updN hacc, upd_same⟩
    | false =>
      rw [if_neg (by decide)]
      rw [h, if_neg (by decide), List.append_nil] at hs
      exact ⟨n - (i + 1), by omega, rfl, hlt, hs.symm, sm, hy⟩
  · have e : i = n := by omega
    subst e
    exact .inl ⟨st _ sm, fin _ sm hy⟩
theorem compF_L {K : PySem.W.Frag} {js : List Nat} {a : Addr} {xs : List V} {tl : TE} {tc : TT} {te : TE} {σ : St} {H : Hp} {Q : VK} (kp : Nat → Bool) (f : Nat → V) (hl : ∀ R : VK, R (.ref a) H → tl σ H R) (ha : H a = some (.lst xs)) (hn : xs.length ≤ 1000)
    (test : ∀ i x H', xs[i]? = some x → Same H H' → ∀ R : Bool → Hp → Prop, R (kp i) H' → tc (some x :: capS js σ) H' R)
    (val : ∀ i x H', xs[i]? = some x → kp i = true → Same H H' → ∀ R : VK, R (f i) H' → te (some x :: capS js σ) H' R)
    (fin : ∀ acc H', Same H H' → H acc = none → H' acc = some (.lst (((List.range xs.length).filter kp).map f)) → Q (.ref acc) H') : tCompG 1 js (iList K tl) (gName 0) tc te σ H Q := by
  refine hl _ ⟨a, rfl, ⟨xs, SqL.of ha⟩, fun acc hacc => ?_⟩
  have ht : ∀ H', Same H H' → SqL K H' a xs := fun H' s => SqL.of (s _ _ ha)
  have gx : ∀ i, i < xs.length → xs[i]? = some (xs.getD i .non) := fun i hi => by rw [List.getD_eq_getElem?_getD, List.getElem?_eq_getElem hi]; rfl
  exact compF_core (n := xs.length) (fun i => xs.getD i .non) kp f hn hacc (fun i H' hi s => ⟨xs, _, ht H' s, gx i hi⟩) (fun i H' x H'' hi s y => by
      obtain ⟨e, y⟩ := y
      have := y xs (ht H' s)
      rw [gx i hi] at this
      exact ⟨(Option.some.inj this).symm, e⟩) (fun H' s => ⟨xs, ht H' s, Nat.le_refl _⟩)
    (fun i H' hi s R hR => test i _ H' (gx i hi) s R hR) (fun i H' hi hk s R hR => val i _ H' (gx i hi) hk s R hR) fun H' s h => fin acc H' s hacc h
theorem compF_R {js : List Nat} {ta : TA} {tc : TT} {te : TE} {σ : St} {H : Hp} {Q : VK} {n : Nat} (kp : Nat → Bool) (f : Nat → V) (hl : ∀ R : List V → Hp → Prop, R [.int n] H → ta σ H R) (hn : n ≤ 1000)
    (test : ∀ i H', i < n → Same H H' → ∀ R : Bool → Hp → Prop, R (kp i) H' → tc (some (.int (0 + (i : Nat))) :: capS js σ) H' R)
    (val : ∀ i H', i < n → kp i = true → Same H H' → ∀ R : VK, R (f i) H' → te (some (.int (0 + (i : Nat))) :: capS js σ) H' R)
    (fin : ∀ acc H', Same H H' → H acc = none → H' acc = some (.lst (((List.range n).filter kp).map f)) → Q (.ref acc) H') : tCompG 1 js (iRng1 ta) (gName 0) tc te σ H Q := by
  refine hl _ ⟨n, rfl, by omega, by omega, fun acc hacc => ?_⟩
  have en : ((n : Int)).toNat = n := Int.toNat_natCast n
  rw [en]
  exact compF_core (n := n) (fun i => .int (0 + (i : Nat))) kp f hn hacc (fun i H' hi s => hi) (fun i H' x H'' hi s y => ⟨y.2, y.1⟩) (fun H' s => Nat.le_refl _) test val fun H' s h => fin acc H' s hacc h
end L2
namespace L2
open PySem PySem.Spec PyProof.Rows
section
variable {prog : Program} {w : World} {A : Around} {E : Value → Shared → Prop} {s : Shared}
theorem _root_.PySem.Heap.ExtBut.trans' {b : Addr} {h h1 h2 : Heap} (x : Heap.ExtBut b h h1) (y : ∀ c o, h1.get? c = some o → h2.get? c = some o) : Heap.ExtBut b h h2 := fun c o n e => y c o (x c o n e)
/-- StopIteration, made and raised: all that was stays -/
theorem stop_made {α : Type} {Q : α → Shared → Prop} (hh : A.handled = none) (q : ∀ h' x, (∀ c o, s.heap.get? c = some o → h'.get? c = some o) → (∃ o, h'.get? x = some o ∧ o.cls = .type "StopIteration") → E (.ref x) { s with heap := h' }) :
    wpAny (model prog w) A (Builtin.SmallTypes.stopIteration (α := α)) Q E s := by
  unfold Builtin.SmallTypes.stopIteration
  refine wpAny_bind ?_
  simp only [newExc, newTuple]
  refine wpAny_bind (wpAny_newObj_type ?_ (by size_fits)); refine wpAny_bind (m := firstArgMember _ _) (wpAny_of_eq (a := Value.none) (by rfl) ?_)
  refine wpAny_newObj_type ?_ (by size_fits); simp only [raiseNew]
  refine wpAny_bind (wpAny_handled ?_); rw [hh]
  refine wpAny_bind (wpAny_pure (wpAny_throw ?_)); refine q _ _ (fun c o e => ?_) ⟨_, Heap.get?_push_size _ rfl, rfl⟩
  exact Heap.get?_push_of_some _ (Heap.get?_push_of_some _ e)
/-- a tuple's iterator gives its next thing -/
theorem nx_tup {it t : Addr} {i : Nat} {its : Array Value} {u : Value} {Q : Value → Shared → Prop} (hi : s.heap.IsTupleIter it t i) (ht : s.heap.IsTuple t its) (hu : its[i]? = some u)
    (q : ∀ h', h'.IsTupleIter it t (i + 1) → Heap.SameBut it s.heap h' → Q u { s with heap := h' }) : wpAny (model prog w) A (Builtin.SmallTypes.nextOf (.ref it)) Q E s := by
  obtain ⟨oi, gi, ci, di⟩ := id hi
  obtain ⟨ot, gt, _, nt, dt⟩ := ht
  have ty := hi.typeIs
  have nn : ¬ ((Value.ref t == Value.none) = true) := fun z => Bool.noConfusion (show false = true from z)
  unfold Builtin.SmallTypes.nextOf
  refine wpAny_bind (wpAny_callSpecial?_slot (name := Str.ofString "__next__") ty F.slot_tuple_iterator_next (wpAny_call_entry F.slot_tuple_iterator_next ty F.entry_tuple_iterator_next ?_ (F.args_tuple_iterator_next_1 _)))
  show wpAny _ _ (field (.ref it) 0 >>= _) _ _ s; refine wpAny_bind (wpAny_field gi di (x := .ref t) rfl ?_)
  show wpAny _ _ (if (Value.ref t == Value.none) = true then _ else _) _ _ s; rw [if_neg nn]
  show wpAny _ _ (field (.ref it) 1 >>= _) _ _ s; refine wpAny_bind (wpAny_field gi di (x := .int i 0) rfl ?_)
  show wpAny _ _ (seqItems? (.ref t) >>= _) _ _ s; refine wpAny_bind (wpAny_seqItems gt dt ?_)
  simp only [Int.toNat_natCast, hu]
  have fin : ∀ h', (∃ o, h'.get? it = some o ∧ o.cls = .type "tuple_iterator" ∧ o.data = .fields #[.ref t, .int ((i + 1 : Nat) : Int) 0]) → Heap.SameBut it s.heap h' → Q u { s with heap := h' } := fun h' z sb => q h' z sb
  refine wpAny_bind (wpAny_setField gi di (by simp) (wpAny_pure ⟨u, rfl, wpAny_pure (fin _ ?_ (Heap.SameBut.update ..))⟩))
  refine ⟨_, Heap.get?_update_self _ gi (Obj.isFreed_of_fields (Obj.data_mapFields di _)), (Obj.cls_mapFields ..).trans ci, ?_⟩
  rw [Obj.data_mapFields di]
  simp [rawInt]
/-- at its end it raises StopIteration -/
theorem nx_tupE {it t : Addr} {i : Nat} {its : Array Value} {Q : Value → Shared → Prop} (hh : A.handled = none) (hi : s.heap.IsTupleIter it t i) (ht : s.heap.IsTuple t its) (hu : its[i]? = none)
    (q : ∀ h' x, Heap.ExtBut it s.heap h' → (∃ o, h'.get? x = some o ∧ o.cls = .type "StopIteration") → E (.ref x) { s with heap := h' }) : wpAny (model prog w) A (Builtin.SmallTypes.nextOf (.ref it)) Q E s := by
  obtain ⟨oi, gi, ci, di⟩ := id hi
  obtain ⟨ot, gt, _, nt, dt⟩ := ht
  have ty := hi.typeIs
  have nn : ¬ ((Value.ref t == Value.none) = true) := fun z => Bool.noConfusion (show false = true from z)
  unfold Builtin.SmallTypes.nextOf
  refine wpAny_bind (wpAny_callSpecial?_slot (name := Str.ofString "__next__") ty F.slot_tuple_iterator_next (wpAny_call_entry F.slot_tuple_iterator_next ty F.entry_tuple_iterator_next ?_ (F.args_tuple_iterator_next_1 _)))
  show wpAny _ _ (field (.ref it) 0 >>= _) _ _ s; refine wpAny_bind (wpAny_field gi di (x := .ref t) rfl ?_)
  show wpAny _ _ (if (Value.ref t == Value.none) = true then _ else _) _ _ s; rw [if_neg nn]
  show wpAny _ _ (field (.ref it) 1 >>= _) _ _ s; refine wpAny_bind (wpAny_field gi di (x := .int i 0) rfl ?_)
  show wpAny _ _ (seqItems? (.ref t) >>= _) _ _ s; refine wpAny_bind (wpAny_seqItems gt dt ?_)
  simp only [Int.toNat_natCast, hu]
  refine wpAny_bind (wpAny_rule (wpAny_bind (wpAny_setField gi di (by simp) ?_)))
  exact stop_made (A := A.in1) hh fun h' x k z => q h' x ((Heap.SameBut.update ..).extBut.trans' k) z
end
theorem draws_tup {prog : Program} {w : World} {A : Around} (hh : A.handled = none) {it t : Addr} (ne : t ≠ it) (its : Array Value) : Draws prog w A it [it, t] its.size (fun i v => its[i]? = some v) (fun i h => h.IsTupleIter it t i ∧ h.IsTuple t its) where
  live := fun i h z => let ⟨⟨o, e, _⟩, _⟩ := z; ⟨o, e⟩
  frame := fun i h h' z k => ⟨z.1.at fun o e => k it List.mem_cons_self o e, z.2.at fun o e => k t (List.mem_cons_of_mem _ List.mem_cons_self) o e⟩
  item := fun i s Q E hi z q => by
    refine nx_tup z.1 z.2 (u := its[i]) (Array.getElem?_eq_getElem hi) fun h' z' sb => ?_
    exact q _ h' s.toks (Array.getElem?_eq_getElem hi) ⟨z', z.2.extBut sb.extBut ne⟩ sb
  done := fun s Q E z q => nx_tupE hh z.1 z.2 (by simp) q
/-! ### enumerate of a tuple -/
abbrev tiH (h : Heap) (t : Addr) : Heap := h.push { cls := .type "tuple_iterator", data := .fields #[.ref t, .int 0 0] }
section
variable {X : Cx}
end
end L2
namespace L2
open PySem PySem.Spec PyProof.Rows
/-! ### zip of two things, whatever they are drawn from -/
structure Zap (z TI TO i1 i2 : Addr) (f1 f2 : List Addr) : Prop where
  a1 : TI ≠ z
  a2 : TO ≠ z
  a3 : TI ≠ TO
  a4 : i1 ≠ z
  a5 : i2 ≠ z
  a6 : TO ≠ i1
  a7 : TO ≠ i2
  a8 : i1 ≠ i2
  b1 : z ∉ f1
  b2 : z ∉ f2
  b3 : TO ∉ f1
  b4 : TO ∉ f2
  b5 : i1 ∉ f2
  b6 : i2 ∉ f1
section
variable {prog : Program} {w : World} {A : Around} {E : Value → Shared → Prop} {s : Shared}
theorem stB {b : Addr} {h h' : Heap} {f : List Addr} (sb : Heap.SameBut b h h') (hb : b ∉ f) : ∀ c ∈ f, ∀ o, h.get? c = some o → h'.get? c = some o := fun c hc o e => sb.extBut c o (fun z => hb (z ▸ hc)) e
theorem zip_draw {z TI TO i1 i2 : Addr} {f1 f2 : List Addr} {n1 n2 k : Nat} {P1 P2 : Nat → Value → Prop} {S1 S2 : Nat → Heap → Prop} {a b : Value} {Q : Value → Shared → Prop} (Z : Zap z TI TO i1 i2 f1 f2) (D1 : Draws prog w A i1 f1 n1 P1 S1) (D2 : Draws prog w A i2 f2 n2 P2 S2)
    (hz : IsZip s.heap z TI TO .none) (hi : IsPair s.heap TI (.ref i1) (.ref i2)) (ho : IsPair s.heap TO a b) (s1 : S1 k s.heap) (s2 : S2 k s.heap) (k1 : k < n1) (k2 : k < n2)
    (q : ∀ x y h' tk, P1 k x → P2 k y → IsZip h' z TI TO (rawInt s.heap.objs.size) → IsPair h' TO x y → S1 (k + 1) h' → S2 (k + 1) h' → IsPair h' s.heap.objs.size x y → h'.objs.size = s.heap.objs.size + 1 → (∀ c o, c ≠ z → c ≠ TO → c ≠ i1 → c ≠ i2 → s.heap.get? c = some o → h'.get? c = some o) → Q (.ref s.heap.objs.size) { s with heap := h', toks := tk }) :
    wpAny (model prog w) A (Builtin.«zip.__next__» ⟨[.ref z], []⟩) (fun fin s' => ∃ v, fin = .done (.ret v) ∧ Q v s') E s := by
  show wpAny _ _ (field (.ref z) 2 >>= _) _ _ _; refine wpAny_bind (wpAny_field hz rfl (x := .bool false) rfl ?_)
  show wpAny _ _ (field (.ref z) 3 >>= _) _ _ _; refine wpAny_bind (wpAny_field hz rfl (x := .ref TI) rfl (wpAny_bind (wpAny_seqItems hi rfl ?_)))
  show wpAny _ _ (Builtin.SmallTypes.ownedTupleIsFree (.ref z) >>= _) _ _ _; unfold Builtin.SmallTypes.ownedTupleIsFree
  refine wpAny_bind (wpAny_bind (wpAny_field hz rfl (x := .none) rfl (wpAny_pure ?_))); simp only [if_true]
  refine wpAny_bind (wpAny_rule (wpAny_bind (wpAny_field hz rfl (x := .ref TO) rfl (wpAny_bind (wpAny_setField_rec hz (by simp) fun hA zA sA => ?_)))))
  replace zA : IsZip hA z TI TO .ellipsis := zA
  refine wpAny_bind ?_; simp only [List.zipIdx_cons, List.zipIdx_nil, List.forIn_cons, List.forIn_nil]
  refine wpAny_bind (wpAny_bind (wpAny_onRaise ?_)); show wpAny _ _ (Builtin.SmallTypes.nextOf (.ref i1) >>= _) _ _ _
  refine wpAny_bind (D1.item k _ _ _ k1 (D1.frame _ _ _ s1 (stB sA Z.b1)) fun x hB tB pB stb sB => wpAny_pure ?_)
  have oB : IsPair hB TO a b := sB.extBut _ _ Z.a6 (sA.extBut _ _ Z.a2 ho)
  have uB : S2 k hB := D2.frame _ _ _ (D2.frame _ _ _ s2 (stB sA Z.b2)) (stB sB Z.b5)
  refine wpAny_bind (wpAny_seqItems oB rfl (wpAny_bind (wpAny_updateSeq_pair oB fun hC oC sC => ?_)))
  replace oC : IsPair hC TO x b := oC
  refine wpAny_bind (wpAny_letGo (wpAny_pure (wpAny_bind (wpAny_bind (wpAny_onRaise ?_))))); show wpAny _ _ (Builtin.SmallTypes.nextOf (.ref i2) >>= _) _ _ _
  refine wpAny_bind (D2.item k _ _ _ k2 (D2.frame _ _ _ uB (stB sC Z.b4)) fun y hD tD pD std sD => wpAny_pure ?_)
  have oD : IsPair hD TO x b := sD.extBut _ _ Z.a7 oC
  refine wpAny_bind (wpAny_seqItems oD rfl (wpAny_bind (wpAny_updateSeq_pair oD fun hF oF sF => ?_)))
  replace oF : IsPair hF TO x y := oF
  refine wpAny_bind (wpAny_letGo (wpAny_pure (wpAny_pure (wpAny_bind (wpAny_seqItems oF rfl (wpAny_bind (wpAny_newTuple ?_)))))))
  have zF : IsZip hF z TI TO .ellipsis := sF.extBut _ _ Z.a2.symm (sD.extBut _ _ Z.a5.symm (sC.extBut _ _ Z.a2.symm (sB.extBut _ _ Z.a4.symm zA)))
  have size : hF.objs.size = s.heap.objs.size := by rw [sF.1, sD.1, sC.1, sB.1, sA.1]
  have lz : z < hF.objs.size := Heap.lt_size zF
  show wpAny _ _ (Builtin.SmallTypes.ownedTupleHandOut (.ref z) (.ref hF.objs.size) >>= _) _ _ _; unfold Builtin.SmallTypes.ownedTupleHandOut
  have zG : IsZip (hF.push { cls := .type "tuple", data := .seq #[x, y] }) z TI TO .ellipsis := Heap.get?_push_of_some _ zF
  refine wpAny_bind (wpAny_bind (wpAny_setField_rec zG (by simp) fun hI zI sI => ?_))
  replace zI : IsZip hI z TI TO (rawInt hF.objs.size) := zI
  refine wpAny_setField_rec zI (by simp) fun hJ zJ sJ => wpAny_pure ⟨_, rfl, ?_⟩
  replace zJ : IsZip hJ z TI TO (rawInt hF.objs.size) := zJ
  have up : ∀ c o, c ≠ z → hF.get? c = some o → hJ.get? c = some o := fun c o n e => sJ.extBut _ _ n (sI.extBut _ _ n (Heap.get?_push_of_some _ e))
  have tJ : IsPair hJ hF.objs.size x y := sJ.extBut _ _ (Nat.ne_of_gt lz) (sI.extBut _ _ (Nat.ne_of_gt lz) (Heap.get?_push_size _ rfl))
  have szJ : hJ.objs.size = hF.objs.size + 1 := by rw [sJ.1, sI.1, Heap.size_push]
  have kB : ∀ c o, c ≠ z → c ≠ TO → c ≠ i1 → c ≠ i2 → s.heap.get? c = some o → hF.get? c = some o := fun c o n1 n2 n3 n4 e => sF.extBut _ _ n2 (sD.extBut _ _ n4 (sC.extBut _ _ n2 (sB.extBut _ _ n3 (sA.extBut _ _ n1 e))))
  have u1 : S1 (k + 1) hF := D1.frame _ _ _ (D1.frame _ _ _ (D1.frame _ _ _ stb (stB sC Z.b3)) (stB sD Z.b6)) (stB sF Z.b3)
  have u2 : S2 (k + 1) hF := D2.frame _ _ _ std (stB sF Z.b4)
  show Q (.ref hF.objs.size) _
  rw [size] at zJ tJ szJ ⊢
  exact q x y hJ tD pB pD zJ (up _ _ Z.a2 oF) (D1.frame _ _ _ u1 fun c hc o e => up c o (fun z' => Z.b1 (z' ▸ hc)) e) (D2.frame _ _ _ u2 fun c hc o e => up c o (fun z' => Z.b2 (z' ▸ hc)) e) tJ szJ fun c o n1 n2 n3 n4 e => up c o n1 (kB c o n1 n2 n3 n4 e)
/-- one of the two has come to its end -/
theorem zip_drawE {z TI TO i1 i2 : Addr} {f1 f2 : List Addr} {n1 n2 k : Nat} {P1 P2 : Nat → Value → Prop} {S1 S2 : Nat → Heap → Prop} {a b : Value} {Q : Fin → Shared → Prop} (Z : Zap z TI TO i1 i2 f1 f2) (D1 : Draws prog w A i1 f1 n1 P1 S1) (D2 : Draws prog w A i2 f2 n2 P2 S2)
    (hz : IsZip s.heap z TI TO .none) (hi : IsPair s.heap TI (.ref i1) (.ref i2)) (ho : IsPair s.heap TO a b) (s1 : S1 k s.heap) (s2 : S2 k s.heap) (kk : k = n1 ∨ (k < n1 ∧ k = n2))
    (q : ∀ h' e, (∀ c o, c ≠ z → c ≠ TO → c ≠ i1 → c ≠ i2 → s.heap.get? c = some o → h'.get? c = some o) → (∃ o, h'.get? e = some o ∧ o.cls = .type "StopIteration") → ∀ tk, E (.ref e) { s with heap := h', toks := tk }) :
    wpAny (model prog w) A (Builtin.«zip.__next__» ⟨[.ref z], []⟩) Q E s := by
  show wpAny _ _ (field (.ref z) 2 >>= _) _ _ _; refine wpAny_bind (wpAny_field hz rfl (x := .bool false) rfl ?_)
  show wpAny _ _ (field (.ref z) 3 >>= _) _ _ _; refine wpAny_bind (wpAny_field hz rfl (x := .ref TI) rfl (wpAny_bind (wpAny_seqItems hi rfl ?_)))
  show wpAny _ _ (Builtin.SmallTypes.ownedTupleIsFree (.ref z) >>= _) _ _ _; unfold Builtin.SmallTypes.ownedTupleIsFree
  refine wpAny_bind (wpAny_bind (wpAny_field hz rfl (x := .none) rfl (wpAny_pure ?_))); simp only [if_true]
  refine wpAny_bind (wpAny_rule (wpAny_bind (wpAny_field hz rfl (x := .ref TO) rfl (wpAny_bind (wpAny_setField_rec hz (by simp) fun hA zA sA => ?_)))))
  replace zA : IsZip hA z TI TO .ellipsis := zA
  refine wpAny_bind ?_; simp only [List.zipIdx_cons, List.zipIdx_nil, List.forIn_cons, List.forIn_nil]
  refine wpAny_bind (wpAny_bind (wpAny_onRaise ?_)); show wpAny _ _ (Builtin.SmallTypes.nextOf (.ref i1) >>= _) _ _ _
  rcases kk with e1 | ⟨k1, e2⟩
  · have s1' := s1
    rw [e1] at s1'
    refine wpAny_bind (D1.done _ _ _ (D1.frame _ _ _ s1' (stB sA Z.b1)) fun hB x sB hx => ?_)
    obtain ⟨ox, gx, cx⟩ := hx
    have zB : IsZip hB z TI TO .ellipsis := sB _ _ Z.a4.symm zA
    have nx : x ≠ z := fun y => by subst y; rw [zB] at gx; cases gx; exact absurd (show Value.type "zip" = Value.type "StopIteration" from cx) (by decide)
    refine wpAny_setField_rec zB (by simp) fun hC _ sC => q hC x (fun c o m1 _ m3 _ e => sC.extBut _ _ m1 (sB _ _ m3 (sA.extBut _ _ m1 e))) ⟨ox, sC.extBut _ _ nx gx, cx⟩ _
  · refine wpAny_bind (D1.item k _ _ _ k1 (D1.frame _ _ _ s1 (stB sA Z.b1)) fun x hB tB pB stb sB => wpAny_pure ?_)
    have oB : IsPair hB TO a b := sB.extBut _ _ Z.a6 (sA.extBut _ _ Z.a2 ho)
    have uB : S2 k hB := D2.frame _ _ _ (D2.frame _ _ _ s2 (stB sA Z.b2)) (stB sB Z.b5)
    refine wpAny_bind (wpAny_seqItems oB rfl (wpAny_bind (wpAny_updateSeq_pair oB fun hC oC sC => ?_)))
    refine wpAny_bind (wpAny_letGo (wpAny_pure (wpAny_bind (wpAny_bind (wpAny_onRaise ?_))))); show wpAny _ _ (Builtin.SmallTypes.nextOf (.ref i2) >>= _) _ _ _
    have uC : S2 n2 hC := by rw [← e2]; exact D2.frame _ _ _ uB (stB sC Z.b4)
    refine wpAny_bind (D2.done _ _ _ uC fun hD v sD hx => ?_)
    obtain ⟨ox, gx, cx⟩ := hx
    have zD : IsZip hD z TI TO .ellipsis := sD _ _ Z.a5.symm (sC.extBut _ _ Z.a2.symm (sB.extBut _ _ Z.a4.symm zA))
    have nx : v ≠ z := fun y => by subst y; rw [zD] at gx; cases gx; exact absurd (show Value.type "zip" = Value.type "StopIteration" from cx) (by decide)
    refine wpAny_setField_rec zD (by simp) fun hF _ sF => q hF v (fun c o m1 m2 m3 m4 e => sF.extBut _ _ m1 (sD _ _ m4 (sC.extBut _ _ m2 (sB.extBut _ _ m3 (sA.extBut _ _ m1 e))))) ⟨ox, sF.extBut _ _ nx gx, cx⟩ _
theorem zip_go {z TI TO i1 i2 : Addr} {f1 f2 : List Addr} {n1 n2 k : Nat} {P1 P2 : Nat → Value → Prop} {S1 S2 : Nat → Heap → Prop} {a b : Value} {Q : Option Value → Shared → Prop} (Z : Zap z TI TO i1 i2 f1 f2) (D1 : Draws prog w A.in1 i1 f1 n1 P1 S1) (D2 : Draws prog w A.in1 i2 f2 n2 P2 S2)
    (hz : IsZip s.heap z TI TO .none) (hi : IsPair s.heap TI (.ref i1) (.ref i2)) (ho : IsPair s.heap TO a b) (s1 : S1 k s.heap) (s2 : S2 k s.heap) (k1 : k < n1) (k2 : k < n2)
    (q : ∀ x y h' tk, P1 k x → P2 k y → IsZip h' z TI TO (rawInt s.heap.objs.size) → IsPair h' TO x y → S1 (k + 1) h' → S2 (k + 1) h' → IsPair h' s.heap.objs.size x y → h'.objs.size = s.heap.objs.size + 1 → (∀ c o, c ≠ z → c ≠ TO → c ≠ i1 → c ≠ i2 → s.heap.get? c = some o → h'.get? c = some o) → Q (some (.ref s.heap.objs.size)) { s with heap := h', toks := tk }) :
    wpAny (model prog w) A (pyNext (.ref z)) Q E s := by
  have ty : s.TypeIs (.ref z) "zip" := ⟨_, hz, rfl⟩
  unfold pyNext
  refine wpAny_bind (wpAny_attempt (wpAny_callSpecial?_slot (name := Str.ofString "__next__") ty F.slot_zip_next (wpAny_call_entry F.slot_zip_next ty F.entry_zip_next ?_ (F.args_zip_next_1 _))))
  exact zip_draw Z D1 D2 hz hi ho s1 s2 k1 k2 fun x y h' tk p1 p2 v1 v2 v3 v4 v5 v6 v7 => wpAny_pure (q x y h' tk p1 p2 v1 v2 v3 v4 v5 v6 v7)
theorem zip_out {z TI TO i1 i2 : Addr} {f1 f2 : List Addr} {n1 n2 k : Nat} {P1 P2 : Nat → Value → Prop} {S1 S2 : Nat → Heap → Prop} {a b : Value} {Q : Option Value → Shared → Prop} (Z : Zap z TI TO i1 i2 f1 f2) (D1 : Draws prog w A.in1 i1 f1 n1 P1 S1) (D2 : Draws prog w A.in1 i2 f2 n2 P2 S2)
    (hz : IsZip s.heap z TI TO .none) (hi : IsPair s.heap TI (.ref i1) (.ref i2)) (ho : IsPair s.heap TO a b) (s1 : S1 k s.heap) (s2 : S2 k s.heap) (kk : k = n1 ∨ (k < n1 ∧ k = n2))
    (q : ∀ h' tk, (∀ c o, c ≠ z → c ≠ TO → c ≠ i1 → c ≠ i2 → s.heap.get? c = some o → h'.get? c = some o) → Q none { s with heap := h', toks := tk }) : wpAny (model prog w) A (pyNext (.ref z)) Q E s := by
  have ty : s.TypeIs (.ref z) "zip" := ⟨_, hz, rfl⟩
  unfold pyNext
  refine wpAny_bind (wpAny_attempt (wpAny_callSpecial?_slot (name := Str.ofString "__next__") ty F.slot_zip_next (wpAny_call_entry F.slot_zip_next ty F.entry_zip_next ?_ (F.args_zip_next_1 _))))
  refine zip_drawE Z D1 D2 hz hi ho s1 s2 kk fun h' e k hx tk => ?_
  obtain ⟨o, g, c⟩ := hx
  exact wpAny_bind (wpAny_isInstance (T := "StopIteration") (b := true) ⟨o, g, c⟩ isSubtype_stop (wpAny_pure (q _ tk k)))
end
/-! ### zip of two tuples, made -/
abbrev zA2 (h : Heap) (t1 t2 : Addr) : Heap := tiH (tiH h t1) t2
abbrev zA3 (h : Heap) (t1 t2 : Addr) : Heap := (zA2 h t1 t2).push { cls := .type "tuple", data := .seq #[.ref h.objs.size, .ref (tiH h t1).objs.size] }
abbrev zA4 (h : Heap) (t1 t2 : Addr) : Heap := (zA3 h t1 t2).push { cls := .type "tuple", data := .seq #[.none, .none] }
abbrev zA5 (h : Heap) (t1 t2 : Addr) : Heap := (zA4 h t1 t2).push { cls := .type "zip", data := .fields #[.none, .bool false, .bool false, .ref (zA2 h t1 t2).objs.size, .ref (zA3 h t1 t2).objs.size] }
theorem mk_zipT (t1 t2 : Addr) (xs ys : Array Value) : Meets (Builtin.«zip.__new__» ⟨[.type "zip", .ref t1, .ref t2], []⟩) (fun _ R s => s.heap.IsTuple t1 xs ∧ s.heap.IsTuple t2 ys ∧ R (.ok (.ret (.ref (zA4 s.heap t1 t2).objs.size))) { s with heap := zA5 s.heap t1 t2 }) :=
  .of_wp fun prog w A R s z => by
    obtain ⟨hp, g, d, tk, os⟩ := s
    obtain ⟨hx, hy, z⟩ := z
    have sub := sub_zip
    have hX : Heap.IsTuple (Shared.heap ⟨hp, g, d, tk, os⟩) t1 xs := hx
    have hY : Heap.IsTuple (Shared.heap ⟨tiH hp t1, g, d, tk, os⟩) t2 ys := hy.push _
    wp_walk using wpAny_pyIter_tuple hX, wpAny_pyIter_tuple hY
    exact ⟨_, rfl, z⟩
theorem call_zipT {prog : Program} {w : World} {A : Around} {E : Value → Shared → Prop} {s : Shared} {t1 t2 : Addr} {xs ys : Array Value} {Q : Value → Shared → Prop} (hx : s.heap.IsTuple t1 xs) (hy : s.heap.IsTuple t2 ys)
    (q : ∀ h', IsZip h' (s.heap.objs.size + 4) (s.heap.objs.size + 2) (s.heap.objs.size + 3) .none → IsPair h' (s.heap.objs.size + 2) (.ref s.heap.objs.size) (.ref (s.heap.objs.size + 1)) → IsPair h' (s.heap.objs.size + 3) .none .none →
      h'.IsTupleIter s.heap.objs.size t1 0 → h'.IsTupleIter (s.heap.objs.size + 1) t2 0 → (∀ c o, s.heap.get? c = some o → h'.get? c = some o) → Q (.ref (s.heap.objs.size + 4)) { s with heap := h' }) :
    wpAny (model prog w) A (call (.type "zip") [.ref t1, .ref t2]) Q E s := by
  have n1 : (tiH s.heap t1).objs.size = s.heap.objs.size + 1 := Heap.size_push ..
  have n2 : (zA2 s.heap t1 t2).objs.size = s.heap.objs.size + 2 := by rw [Heap.size_push, n1]
  have n3 : (zA3 s.heap t1 t2).objs.size = s.heap.objs.size + 3 := by rw [Heap.size_push, n2]
  have n4 : (zA4 s.heap t1 t2).objs.size = s.heap.objs.size + 4 := by rw [Heap.size_push, n3]
  have up : ∀ c o, s.heap.get? c = some o → (zA5 s.heap t1 t2).get? c = some o := fun c o e => Heap.get?_push_of_some _ (Heap.get?_push_of_some _ (Heap.get?_push_of_some _ (Heap.get?_push_of_some _ (Heap.get?_push_of_some _ e))))
  have v5 : (zA5 s.heap t1 t2).get? (zA4 s.heap t1 t2).objs.size = some _ := Heap.get?_push_size _ rfl
  have v4 : (zA5 s.heap t1 t2).get? (zA3 s.heap t1 t2).objs.size = some _ := Heap.get?_push_of_some _ (Heap.get?_push_size _ rfl)
  have v3 : (zA5 s.heap t1 t2).get? (zA2 s.heap t1 t2).objs.size = some _ := Heap.get?_push_of_some _ (Heap.get?_push_of_some _ (Heap.get?_push_size _ rfl))
  have v2 : (zA5 s.heap t1 t2).get? (tiH s.heap t1).objs.size = some _ := Heap.get?_push_of_some _ (Heap.get?_push_of_some _ (Heap.get?_push_of_some _ (Heap.get?_push_size _ rfl)))
  have v1 : (zA5 s.heap t1 t2).get? s.heap.objs.size = some _ := Heap.get?_push_of_some _ (Heap.get?_push_of_some _ (Heap.get?_push_of_some _ (Heap.get?_push_of_some _ (Heap.get?_push_size _ rfl))))
  refine callType_new F.called_zip (by decide) (F.typeCall_zip_2 _ _) (F.newCall_zip_2 _ _) (fun x => F.args_object_init_3 x _ _) F.entry_zip_new (mk_zipT t1 t2 xs ys) ⟨hx, hy, ?_⟩
  show _ ∧ _
  rw [n2, n3, n4] at v5
  rw [n1, n2] at v3
  rw [n3] at v4
  rw [n1] at v2
  rw [n4]
  exact ⟨⟨_, v5, rfl⟩, q _ v5 v3 v4 ⟨_, v1, rfl, rfl⟩ ⟨_, v2, rfl, rfl⟩ up⟩
end L2
namespace L2
open PySem PySem.Spec PyProof.Rows
theorem Inv.turnedL {X : Cx} {pins : List (Addr × Obj)} {σ : St} {H : Hp} {s : Shared} {h' : Heap} {t' : Nat} {fp : List Addr} (I : Inv X pins σ H s) (k : ∀ b o, b ∉ fp → s.heap.get? b = some o → h'.get? b = some o) (hf : ∀ b ∈ fp, FpOk X pins H b) :
    Inv X pins σ H { s with heap := h', toks := t' } := by
  have ni : ∀ b u, H b = some u → b ∉ fp := fun b u q hb => by rw [(hf b hb).1] at q; cases q
  refine I.step (g' := s.gens) (d' := s.drawn) (ch := fp) (fun b hb => ?_) (fun b o _ _ hc q _ => k b o hc q) (fun b o _ _ hc q _ => ⟨o.slots, k b o hc q⟩) (fun _ _ _ _ n => n) (fun b o hc q => ⟨o, k b o hc q⟩) (fun _ _ q => q) (fun _ _ _ q => q)
    (fun b ps q => ⟨#[], by rw [q]; simp⟩) (fun m hm => ?_) (fun b u q => ?_) I.bare
  · obtain ⟨_, f1, _, f3, f4, f5⟩ := hf b hb
    exact ⟨f3, (hf b hb).2.1, f4, f5⟩
  · obtain ⟨o, es, ep, ho, r⟩ := hm
    exact ⟨o, es, ep, k _ o (fun hb => (hf _ hb).2.1 rfl) ho, r⟩
  · refine (I.hok b u q).stay (fun c v hc z => k c v ?_ z) (fun _ z => z) fun _ _ z => z
    rcases hc with z | z
    · rw [z]; exact ni b u q
    · exact ni c _ z
theorem sq_ne {X : Cx} {pins : List (Addr × Obj)} {σ : St} {H : Hp} {s : Shared} {a b : Addr} {xs : List V} (I : Inv X pins σ H s) (hq : SqT X.K H a xs) (hf : FpOk X pins H b) : a ≠ b := fun z => by
  rcases hq with h | ⟨o, its, n, hk, _⟩
  · rcases h with h | ⟨o, h⟩ <;> (rw [z, hf.1] at h; cases h)
  · have e : X.base.get? a = some o := I.ok.mod.kin a o hk
    rcases hf.2.2.2.1 with y | y
    · exact I.ok.noex a o e (z ▸ y)
    · have l := Heap.lt_size e
      have m := I.ok.bsz
      rw [z] at l
      exact absurd (Nat.lt_of_lt_of_le l (Nat.le_trans m y)) (Nat.lt_irrefl _)
def ItzT (K : PySem.W.Frag) (a b : Addr) : It :=
  ⟨fun i H => ∃ xs ys x y, SqT K H a xs ∧ SqT K H b ys ∧ xs[i]? = some x ∧ ys[i]? = some y, fun i H v H' => ∃ p x y, H p = none ∧ v = .ref p ∧ H' = upd H p (.tup [x, y]) ∧ (∀ xs, SqT K H a xs → xs[i]? = some x) ∧ ∀ ys, SqT K H b ys → ys[i]? = some y,
    fun i H => ∃ xs ys, SqT K H a xs ∧ SqT K H b ys ∧ (i = xs.length ∨ (i < xs.length ∧ i = ys.length))⟩
structure Zst (z TI TO i1 i2 a b : Addr) (i : Nat) (h : Heap) : Prop where
  z : IsZip h z TI TO .none
  p : IsPair h TI (.ref i1) (.ref i2)
  o : ∃ x y, IsPair h TO x y
  l : h.IsTupleIter i1 a i
  r : h.IsTupleIter i2 b i
theorem turn_zipT {P : Program} {w : World} {K : PySem.W.Frag} {elts : List Expr} {x1} {tp : Pos} (a b z TI TO i1 i2 : Addr) (n1 : TI ≠ z) (n2 : TO ≠ z) (n3 : TI ≠ TO) (n4 : i1 ≠ z) (n5 : i2 ≠ z) (n6 : TO ≠ i1) (n7 : TO ≠ i2) (n8 : i1 ≠ i2) (n9 : TI ≠ i1) (n10 : TI ≠ i2) :
    Turn P w K (.Tuple elts x1 tp) (ItzT K a b) [z, TI, TO, i1, i2] z (Zst z TI TO i1 i2 a b) where
  mem := by simp
  obj := fun i h st c hc => by
    obtain ⟨g1, g2, ⟨x, y, g3⟩, ⟨o4, g4, _, d4⟩, ⟨o5, g5, _, d5⟩⟩ := st
    simp only [List.mem_cons, List.not_mem_nil, or_false] at hc
    rcases hc with rfl | rfl | rfl | rfl | rfl
    · exact ⟨_, g1, fun v q => by cases q⟩
    · exact ⟨_, g2, fun v q => by cases q⟩
    · exact ⟨_, g3, fun v q => by cases q⟩
    · exact ⟨o4, g4, fun v q => by rw [d4] at q; cases q⟩
    · exact ⟨o5, g5, fun v q => by rw [d5] at q; cases q⟩
  keep := fun i h h' st k => by
    obtain ⟨g1, g2, ⟨x, y, g3⟩, g4, g5⟩ := st
    exact ⟨k z (by simp) _ g1, k TI (by simp) _ g2, ⟨x, y, k TO (by simp) _ g3⟩, g4.at fun o e => k i1 (by simp) o e, g5.at fun o e => k i2 (by simp) o e⟩
  item := by
    intro X hP hw hK hc i pins s σ H E I hf st hg
    subst hP hw hK
    obtain ⟨g1, g2, ⟨xo, yo, g3⟩, g4, g5⟩ := st
    obtain ⟨xs, ys, x, y, hx, hy, ex, ey⟩ := hg
    obtain ⟨us, ru, pu, _⟩ := I.tuple hx
    obtain ⟨vs, rv, pv, _⟩ := I.tuple hy
    obtain ⟨u, hu, ru'⟩ := ru.get ex
    obtain ⟨v, hv, rv'⟩ := rv.get ey
    have ha : ∀ c ∈ [z, TI, TO, i1, i2], a ≠ c := fun c hc => sq_ne I hx (hf c hc)
    have hb : ∀ c ∈ [z, TI, TO, i1, i2], b ≠ c := fun c hc => sq_ne I hy (hf c hc)
    have hh : X.A.in1.handled = none := I.ok.hd hc
    have Z : Zap z TI TO i1 i2 [i1, a] [i2, b] := ⟨n1, n2, n3, n4, n5, n6, n7, n8, by simp; exact ⟨n4.symm, (ha z (by simp)).symm⟩, by simp; exact ⟨n5.symm, (hb z (by simp)).symm⟩, by simp; exact ⟨n6, (ha TO (by simp)).symm⟩, by simp; exact ⟨n7, (hb TO (by simp)).symm⟩, by simp; exact ⟨n8, (hb i1 (by simp)).symm⟩, by simp; exact ⟨n8.symm, (ha i2 (by simp)).symm⟩⟩
    refine zip_go Z (draws_tup hh (ha i1 (by simp)) us.toArray) (draws_tup hh (hb i2 (by simp)) vs.toArray) g1 g2 g3 (show _ ∧ _ from ⟨g4, pu⟩) (show _ ∧ _ from ⟨g5, pv⟩) (by have := (List.getElem?_eq_some_iff.mp hu).1; simpa using this) (by have := (List.getElem?_eq_some_iff.mp hv).1; simpa using this)
      fun u' v' h' tk hu' hv' z1 z2 z3 z4 z5 z6 kk => ?_
    have eu : u' = u := by
      have : us[i]? = some u' := by simpa using hu'
      rw [hu] at this; exact (Option.some.inj this).symm
    have ev : v' = v := by
      have : vs[i]? = some v' := by simpa using hv'
      rw [hv] at this; exact (Option.some.inj this).symm
    subst eu ev
    have fr : H s.heap.objs.size = none := I.hok.fresh (Nat.le_refl _)
    have I1 : Inv X pins σ (upd H s.heap.objs.size (.tup [x, y])) { s with heap := s.heap.push { cls := .type "tuple", data := .seq #[u', v'] }, toks := tk } :=
      I.laid (t' := tk) (fun b v z => Heap.get?_push_of_some _ z) (Nat.le_refl _) ⟨(by show 2 ≤ sizeLine; decide), [u', v'], .cons ru' (.cons rv' .nil), ⟨_, Heap.get?_push_size _ rfl, rfl, _, rfl⟩⟩
    have lt : ∀ c ∈ [z, TI, TO, i1, i2], c < s.heap.objs.size := fun c hc => by
      simp only [List.mem_cons, List.not_mem_nil, or_false] at hc
      rcases hc with rfl | rfl | rfl | rfl | rfl
      · exact Heap.lt_size g1
      · exact Heap.lt_size g2
      · exact Heap.lt_size g3
      · obtain ⟨o, e, _⟩ := g4; exact Heap.lt_size e
      · obtain ⟨o, e, _⟩ := g5; exact Heap.lt_size e
    have f1 : ∀ c ∈ [z, TI, TO, i1, i2], FpOk X pins (upd H s.heap.objs.size (.tup [x, y])) c := fun c hc => ⟨by rw [upd_ne (Nat.ne_of_lt (lt c hc))]; exact (hf c hc).1, (hf c hc).2⟩
    have I2 : Inv X pins σ (upd H s.heap.objs.size (.tup [x, y])) { s with heap := h', toks := tk } := I1.turnedL (t' := tk) (fun c o nc e => by
      have m : ∀ d ∈ [z, TI, TO, i1, i2], c ≠ d := fun d hd y => nc (y ▸ hd)
      by_cases y : c = s.heap.objs.size
      · subst y
        rw [Heap.get?_push_size _ rfl] at e
        cases e
        exact z5
      · rcases Heap.get?_push_cases e with w | w
        · exact absurd w.1 y
        · exact kk c o (m z (by simp)) (m TO (by simp)) (m i1 (by simp)) (m i2 (by simp)) w) f1
    have g2' : IsPair h' TI (.ref i1) (.ref i2) := kk _ _ n1 n3 n9 n10 g2
    refine ⟨_, rfl, wpAny_letOwnedTupleGo_zip z1 fun h2 zz sb => ⟨.ref s.heap.objs.size, _, I2.turnedL (fp := [z, TI, TO, i1, i2]) (t' := tk) (fun c o nc e => sb.extBut c o (fun y => nc (by simp [y])) e) f1, rfl, ⟨_, x, y, fr, rfl, rfl, fun xs' h => by rw [I.tuple_inj h hx]; exact ex, fun ys' h => by rw [I.tuple_inj h hy]; exact ey⟩, ⟨zz, sb.extBut _ _ n1 g2', ⟨_, _, sb.extBut _ _ n2 z2⟩, ?_, ?_⟩, fun c hc => (f1 c hc).1⟩⟩
    · exact z3.1.at fun o e => sb.extBut i1 o n4 e
    · exact z4.1.at fun o e => sb.extBut i2 o n5 e
  done := by
    intro X hP hw hK hc i pins s σ H E I hf st hg
    subst hP hw hK
    obtain ⟨g1, g2, ⟨xo, yo, g3⟩, g4, g5⟩ := st
    obtain ⟨xs, ys, hx, hy, hl⟩ := hg
    obtain ⟨us, ru, pu, _⟩ := I.tuple hx
    obtain ⟨vs, rv, pv, _⟩ := I.tuple hy
    have ha : ∀ c ∈ [z, TI, TO, i1, i2], a ≠ c := fun c hc => sq_ne I hx (hf c hc)
    have hb : ∀ c ∈ [z, TI, TO, i1, i2], b ≠ c := fun c hc => sq_ne I hy (hf c hc)
    have hh : X.A.in1.handled = none := I.ok.hd hc
    have Z : Zap z TI TO i1 i2 [i1, a] [i2, b] := ⟨n1, n2, n3, n4, n5, n6, n7, n8, by simp; exact ⟨n4.symm, (ha z (by simp)).symm⟩, by simp; exact ⟨n5.symm, (hb z (by simp)).symm⟩, by simp; exact ⟨n6, (ha TO (by simp)).symm⟩, by simp; exact ⟨n7, (hb TO (by simp)).symm⟩, by simp; exact ⟨n8, (hb i1 (by simp)).symm⟩, by simp; exact ⟨n8.symm, (ha i2 (by simp)).symm⟩⟩
    have l1 := ru.length
    have l2 := rv.length
    refine zip_out Z (draws_tup hh (ha i1 (by simp)) us.toArray) (draws_tup hh (hb i2 (by simp)) vs.toArray) g1 g2 g3 (show _ ∧ _ from ⟨g4, pu⟩) (show _ ∧ _ from ⟨g5, pv⟩) (by simp; omega) fun h' tk kk => ⟨rfl, I.turnedL (fp := [z, TI, TO, i1, i2]) (t' := tk) (fun c o nc e => ?_) hf⟩
    have m : ∀ d ∈ [z, TI, TO, i1, i2], c ≠ d := fun d hd y => nc (y ▸ hd)
    exact kk c o (m z (by simp)) (m TO (by simp)) (m i1 (by simp)) (m i2 (by simp)) e
  self := fun _ _ _ _ _ st h => wpAny_pyIter_zip st.z h
section
variable {X : Cx}
def iZipT (K : PySem.W.Frag) (ta : TA) : TI := fun σ H R => ta σ H fun vs H1 => ∃ a b, vs = [.ref a, .ref b] ∧ (∃ xs, SqT K H1 a xs) ∧ (∃ ys, SqT K H1 b ys) ∧ R (ItzT K a b) H1
theorem pi_zipT {K : PySem.W.Frag} {e e' : Expr} {elts : List Expr} {x1} {tp p pos : Pos} {ta : TA} (hK : X.K = K) (hm : X.mg "zip" = none) (ha : PA X [e, e'] ta) (hg : Gl X "zip" := by rfl) (h1 : plainE e = true := by rfl) (h2 : plainE e' = true := by rfl) :
    PI X (.Tuple elts x1 tp) (.Call (.Name "zip" p) [e, e'] [] pos) (iZipT K ta) := by
  subst hK
  refine .mk ?_
  intro pins s σ H R I h
  refine wpAny_Call_Name_kw (ld_blt I hg hm bt_zip ?_ (by decide) (by decide))
  refine PyProof.Rows.callWith_type1 (thn (ha pos pins s σ H _ I h) fun us s1 ⟨vs, H1, I1, r1, q1⟩ => ?_) (star_one h1) (star_none (es := [e']) (by simp [h2]))
  obtain ⟨a, b, rfl, ⟨xs, hx⟩, ⟨ys, hy⟩, q⟩ := q1
  obtain ⟨u, v, rfl, ru, rv⟩ := r1.two
  cases ru
  cases rv
  obtain ⟨us, _, pu, _⟩ := I1.tuple hx
  obtain ⟨ws, _, pw, _⟩ := I1.tuple hy
  refine call_zipT (show s1.heap.IsTuple a us.toArray from pu) (show s1.heap.IsTuple b ws.toArray from pw) fun h' hz hp ho h1 h2 kk => ?_
  have I2 : Inv X pins σ H1 { s1 with heap := h' } := I1.kept (t' := s1.toks) kk
  have fr : ∀ n, H1 (s1.heap.objs.size + n) = none := fun n => I1.hok.fresh (Nat.le_add_right _ _)
  have fk : ∀ n, FpOk X pins H1 (s1.heap.objs.size + n) := fun n => I1.fpOk (Nat.le_add_right _ _) (fr n)
  have ne : ∀ i j : Nat, i ≠ j → s1.heap.objs.size + i ≠ s1.heap.objs.size + j := fun i j n e => n (Nat.add_left_cancel e)
  refine wpAny_pyIter_zip hz ⟨s1.heap.objs.size + 4, _, _, ItzT X.K a b, H1, rfl, I2, turn_zipT a b (s1.heap.objs.size + 4) (s1.heap.objs.size + 2) (s1.heap.objs.size + 3) s1.heap.objs.size (s1.heap.objs.size + 1) (ne _ _ (by decide)) (ne _ _ (by decide)) (ne _ _ (by decide)) (ne 0 _ (by decide)) (ne _ _ (by decide)) (ne _ 0 (by decide)) (ne _ _ (by decide)) (ne 0 _ (by decide)) (ne _ 0 (by decide)) (ne _ _ (by decide)), ⟨hz, hp, ⟨_, _, ho⟩, h1, h2⟩, fun c hc => ?_, q⟩
  simp only [List.mem_cons, List.not_mem_nil, or_false] at hc
  rcases hc with rfl | rfl | rfl | rfl | rfl
  · exact fk 4
  · exact fk 2
  · exact fk 3
  · exact fk 0
  · exact fk 1
end
end L2
namespace L2
open PySem PySem.Spec PyProof.Rows
/-! ### a comprehension of two clauses, each over a name, without a test -/
abbrev two (elt t1 i1 t2 i2 : Expr) (sc : Scope) (pos : Pos) : Expr := .ListComp elt [⟨t1, i1, [], 0⟩, ⟨t2, i2, [], 0⟩] sc pos
section
variable {prog : Program} {w : World} {A : Around} {R : Result → Shared → Prop} {s : Shared} {elt t1 i1 t2 i2 : Expr} {sc : Scope} {pos : Pos} {it acc : Value} {env : Env}
end
end L2
namespace L2
open PySem PySem.Spec PyProof.Rows
/-! ### readings: pairs out of zip and enumerate, a tuple at the top of a module, rows of rows -/
theorem pg_tupK {X : Cx} {K : PySem.W.Frag} {pos : Pos} {es : List Expr} {k : Nat} {t : TGs} {n : Nat} (hK : X.K = K) (hc : X.calm = true) (h : PGs X es t)
    (hn : (assignEach es X.env).length = n := by rfl) (hst : (assignEach es X.env).findIdx? (·.1) = none := by rfl) : PG X (.Tuple es k pos) (gTup K n t) := by
  subst hK
  exact pg_tup hc h hn hst
end L2
namespace L2
open PySem PySem.Spec PyProof.Rows
/-! ### isinstance(x, (list, tuple)) -/
section
variable {X : Cx} {pins : List (Addr × Obj)} {σ : St} {H : Hp} {s : Shared} {A : Around} {E : Value → Shared → Prop} {Q : Value → Shared → Prop} {b : Bool}
end
section
variable {X : Cx}
end
/-! ### a comprehension with any target, without a test -/
theorem compQ_core {nt : Nat} {g : TG} {js : List Nat} {J : It} {te : TE} {σ : St} {H : Hp} {Q : VK} {acc : Addr} {es : List PyData} (τ : Nat → St) (hτ : ∀ i, (τ i).length = nt) (hz : es.length ≤ sizeLine) (hL : noLAll es = true) (hacc : H acc = none)
    (go : ∀ i H', i < es.length → Same H H' → J.go i H')
    (yl : ∀ i H' v H'', i < es.length → Same H H' → J.yld i H' v H'' → Same H' H'' ∧ ∀ R : St → Hp → Prop, R (τ i ++ capS js σ) H'' → g v (List.replicate nt none ++ capS js σ) H'' R) (st : ∀ H', Same H H' → J.stop es.length H')
    (val : ∀ (i : Nat) e H', es[i]? = some e → Same H H' → ∀ R : VK, (∀ v H'', Same H' H'' → At H'' e v → R v H'') → te (τ i ++ capS js σ) H' R)
    (fin : ∀ ys H', Same H H' → H' acc = some (.lst ys) → AtAll (hid acc H') es ys → Q (.ref acc) H') :
    ∃ W : Nat → Nat → List V → Hp → Prop, (∃ m, W 0 m [] (upd H acc (.lst []))) ∧ ∀ i m ys H2, W i m ys H2 →
      (J.stop i H2 ∧ Q (.ref acc) H2) ∨ (J.go i H2 ∧ ∀ x H3, J.yld i H2 x H3 → g x (List.replicate nt none ++ capS js σ) H3 fun σ' H' => (σ'.drop nt = capS js σ ∧ σ'.length = (List.replicate nt (none : Option V) ++ capS js σ).length) ∧ tAll σ' H' fun b H'' =>
        if b = true then te σ' H'' fun y H4 => H4 acc = some (.lst ys) ∧ ys.length < sizeLine ∧ ∃ m', m' < m ∧ W (i + 1) m' (ys ++ [y]) (upd H4 acc (.lst (ys ++ [y]))) else ∃ m', m' < m ∧ W (i + 1) m' ys H'') := by
  refine ⟨fun i m ys H2 => m = es.length - i ∧ i ≤ es.length ∧ AtAll (hid acc H2) (es.take i) ys ∧ Same H H2 ∧ H2 acc = some (.lst ys), ⟨_, rfl, Nat.zero_le _, AtAll.nil, same_new hacc _, upd_same⟩, ?_⟩
  rintro i m ys H2 ⟨rfl, hi, hA, sm, hy⟩
  by_cases hlt : i < es.length
  · refine .inr ⟨go i H2 hlt sm, fun x H3 y => ?_⟩
    obtain ⟨s3, gg⟩ := yl i H2 x H3 hlt sm y
    refine gg _ ⟨⟨?_, ?_⟩, ?_⟩
    · rw [List.drop_append_of_le_length (by rw [hτ]; exact Nat.le_refl _), ← hτ i, List.drop_length, List.nil_append]
    · rw [List.length_append, List.length_append, hτ, List.length_replicate]
    unfold tAll
    simp only [if_true]
    have e1 : es[i]? = some es[i] := List.getElem?_eq_getElem hlt
    refine val i _ _ e1 (sm.trans s3) _ fun v H4 s4 a4 => ⟨s4 _ _ (s3 _ _ hy), ?_, es.length - (i + 1), by omega, rfl, hlt, ?_, ?_, upd_same⟩
    · rw [hA.length, List.length_take]; omega
    · rw [hid_upd, List.take_succ, e1]
      exact AtAll.append (hA.mono (Same.hid (s3.trans s4))) (AtAll.cons (At.hidL (s4 _ _ (s3 _ _ hy)) _ _ (noLAll_get hL e1) a4) AtAll.nil)
    · refine fun b o q => ?_
      have nb : b ≠ acc := ne_of_none q hacc
      rw [upd_ne nb]
      exact s4 _ _ (s3 _ _ (sm _ _ q))
  · have e : i = es.length := by omega
    subst e
    rw [List.take_length] at hA
    exact .inl ⟨st _ sm, fin _ _ sm hy hA⟩
/-- over zip of two tuples of one length, any target -/
theorem comp_zipQ {K : PySem.W.Frag} {nt : Nat} {g : TG} {js : List Nat} {a b : Addr} {xs ys : List V} {es : List PyData} {ta : TA} {te : TE} {σ : St} {H : Hp} {Q : VK} (τ : Nat → St) (hτ : ∀ i, (τ i).length = nt) (hl : ∀ R : List V → Hp → Prop, R [.ref a, .ref b] H → ta σ H R) (ha : H a = some (.tup xs)) (hb : H b = some (.tup ys)) (n1 : xs.length = es.length) (n2 : ys.length = es.length) (hz : es.length ≤ sizeLine) (hL : noLAll es = true)
    (tgt : ∀ (i : Nat) x y p H', xs[i]? = some x → ys[i]? = some y → Same H H' → H' p = some (.tup [x, y]) → ∀ R : St → Hp → Prop, R (τ i ++ capS js σ) H' → g (.ref p) (List.replicate nt none ++ capS js σ) H' R)
    (val : ∀ (i : Nat) e H', es[i]? = some e → Same H H' → ∀ R : VK, (∀ v H'', Same H' H'' → At H'' e v → R v H'') → te (τ i ++ capS js σ) H' R)
    (fin : ∀ acc zs H', Same H H' → H acc = none → H' acc = some (.lst zs) → AtAll (hid acc H') es zs → Q (.ref acc) H') : tCompG nt js (iZipT K ta) g tAll te σ H Q := by
  refine hl _ ⟨a, b, rfl, ⟨xs, SqT.of ha⟩, ⟨ys, SqT.of hb⟩, fun acc hacc => ?_⟩
  have gx : ∀ i, i < es.length → xs[i]? = some (xs.getD i .non) := fun i hi => by rw [List.getD_eq_getElem?_getD, List.getElem?_eq_getElem (by omega)]; rfl
  have gy : ∀ i, i < es.length → ys[i]? = some (ys.getD i .non) := fun i hi => by rw [List.getD_eq_getElem?_getD, List.getElem?_eq_getElem (by omega)]; rfl
  refine compQ_core (es := es) τ hτ hz hL hacc (fun i H' hi s => ⟨xs, ys, _, _, SqT.of (s _ _ ha), SqT.of (s _ _ hb), gx i hi, gy i hi⟩) (fun i H' v H'' hi s y => ?_) (fun H' s => ⟨xs, ys, SqT.of (s _ _ ha), SqT.of (s _ _ hb), .inl n1.symm⟩) val fun zs H' s h1 h2 => fin acc zs H' s hacc h1 h2
  obtain ⟨p, x, y, fp, rfl, rfl, h1, h2⟩ := y
  have q1 := h1 xs (SqT.of (s _ _ ha))
  have q2 := h2 ys (SqT.of (s _ _ hb))
  exact ⟨same_new fp _, fun R hR => tgt i x y p _ q1 q2 (s.trans (same_new fp _)) upd_same R hR⟩
/-- over a tuple, any target -/
theorem comp_TQ {K : PySem.W.Frag} {nt : Nat} {g : TG} {js : List Nat} {a : Addr} {xs : List V} {es : List PyData} {tl te : TE} {σ : St} {H : Hp} {Q : VK} (τ : Nat → St) (hτ : ∀ i, (τ i).length = nt) (hl : ∀ R : VK, R (.ref a) H → tl σ H R) (ha : H a = some (.tup xs)) (n1 : xs.length = es.length) (hz : es.length ≤ sizeLine) (hL : noLAll es = true)
    (tgt : ∀ (i : Nat) x H', xs[i]? = some x → Same H H' → ∀ R : St → Hp → Prop, R (τ i ++ capS js σ) H' → g x (List.replicate nt none ++ capS js σ) H' R)
    (val : ∀ (i : Nat) e H', es[i]? = some e → Same H H' → ∀ R : VK, (∀ v H'', Same H' H'' → At H'' e v → R v H'') → te (τ i ++ capS js σ) H' R)
    (fin : ∀ acc zs H', Same H H' → H acc = none → H' acc = some (.lst zs) → AtAll (hid acc H') es zs → Q (.ref acc) H') : tCompG nt js (iTup K tl) g tAll te σ H Q := by
  refine hl _ ⟨a, rfl, ⟨xs, SqT.of ha⟩, fun acc hacc => ?_⟩
  have ht : ∀ H', Same H H' → SqT K H' a xs := fun H' s => SqT.of (s _ _ ha)
  refine compQ_core (es := es) τ hτ hz hL hacc (fun i H' hi s => ⟨xs, xs[i]'(by omega), ht H' s, List.getElem?_eq_getElem (by omega)⟩) (fun i H' v H'' hi s y => ?_) (fun H' s => ⟨xs, ht H' s, by omega⟩) val fun zs H' s h1 h2 => fin acc zs H' s hacc h1 h2
  obtain ⟨e, y⟩ := y
  subst e
  exact ⟨Same.refl _, fun R hR => tgt i v _ (y xs (ht _ s)) s R hR⟩
end L2
namespace L2
open PySem PySem.Spec PyProof.Rows
section
variable {X : Cx}
end
end L2
namespace L2
open PySem PySem.Spec PyProof.Rows
/-! ### an exception passes a frame: what is kept -/
/-- e bears a traceback at T -/
def ExAt (h : Heap) (e : Addr) (cls : Value) (T : Addr) : Prop := ∃ oe vs, h.get? e = some oe ∧ (oe.cls = cls ∧ oe.dict = none) ∧ oe.data = .fields vs ∧ vs[1]? = some (.ref T)
def TbAt (h : Heap) (T : Addr) : Prop := ∃ oT ts, h.get? T = some oT ∧ oT.data = .fields ts ∧ ts[3]? = some .none
structure LeftE (fs : List Addr) (h h' : Heap) (e T : Addr) (cls : Value) : Prop where
  keep : ∀ b o, b ≠ e → b ∉ fs → h.get? b = some o → h'.get? b = some o
  slot : ∀ b o, b ≠ e → h.get? b = some o → ∃ sl, h'.get? b = some { o with slots := sl }
  fresh : h.objs.size ≤ T
  ex : ExAt h' e cls T
  tb : TbAt h' T
section
variable {M : Model} {A : Around} {E : Value → Shared → Prop} {s : Shared}
/-- an exception with a traceback at T0 is noted in a frame that it reaches -/
structure NotedE (fs : List Addr) (h h' : Heap) (e T0 T : Addr) (cls : Value) : Prop where
  keep : ∀ b o, b ≠ e → b ≠ T0 → b ∉ fs → h.get? b = some o → h'.get? b = some o
  slot : ∀ b o, b ≠ e → b ≠ T0 → h.get? b = some o → ∃ sl, h'.get? b = some { o with slots := sl }
  old : ∃ o, h'.get? T0 = some o
  fresh : h.objs.size ≤ T
  ex : ExAt h' e cls T
  tb : TbAt h' T
end
section
variable {P : Program} {w : World} {H H' : Hp} {h h' : Heap} {a : Addr} {o : HO}
theorem ObjOk.there (x : ObjOk P w H h a o) : ∃ u, h.get? a = some u := by
  cases o with
  | lst xs => obtain ⟨_, _, _, _, e⟩ := x; exact ⟨_, e⟩
  | tup xs => obtain ⟨_, _, _, ob, e, _⟩ := x; exact ⟨_, e⟩
  | dK kvs => obtain ⟨_, _, _, _, o, _, _, e, _⟩ := x; exact ⟨_, e⟩
  | dT kvs => obtain ⟨_, _, _, _, o, _, _, e, _⟩ := x; exact ⟨_, e⟩
  | set S n => obtain ⟨o, _, _, _, e, _⟩ := x; exact ⟨_, e⟩
  | ins C dx fs => obtain ⟨_, _, _, e, _⟩ := x; exact ⟨_, e⟩
  | own y => exact x
  | xd fs => obtain ⟨_, ⟨_, _, _, e, _⟩, _⟩ := x; exact ⟨_, e⟩
  | rng lo hi => obtain ⟨_, _, _, e⟩ := x; exact ⟨_, e⟩
  | frz ob u => obtain ⟨e, _⟩ := x; exact ⟨_, e⟩
  | tbl ps => exact ⟨_, (show h.get? a = some _ from x)⟩
  | met f y => exact ⟨_, (show h.get? a = some _ from x)⟩
  | ext φ => obtain ⟨_, e, _⟩ := x; exact e
theorem HOk.none (x : HOk P w H h) (e : h.get? a = none) : H a = none := by
  cases q : H a with
  | none => rfl
  | some u =>
    obtain ⟨v, z⟩ := (x a u q).there
    rw [e] at z; cases z
def ExO (e : Addr) (cls : Value) (T : Addr) : HO := .ext fun h => ExAt h e cls T
def TbO (T : Addr) : HO := .ext fun h => TbAt h T
theorem ExO.at {e T : Addr} {cls : Value} (x : ObjOk P w H h e (ExO e cls T)) : ExAt h e cls T := x.1
theorem TbO.at {T : Addr} (x : ObjOk P w H h T (TbO T)) : TbAt h T := x.1
/-- things are laid or changed that no other thing leans on -/
theorem HOk.ext (x : HOk P w H h) (S : Addr → Prop) (k : ∀ b u v, H b = some u → ¬ S b → h.get? b = some v → h'.get? b = some v) (hs : ∀ b, S b → H b = Option.none ∨ ∃ φ, H b = some (.ext φ))
    (o1 : ∀ b, ¬ S b → H' b = H b) (o2 : ∀ b u, S b → H' b = some u → ObjOk P w H' h' b u) : HOk P w H' h' := fun b u e => by
  by_cases z : S b
  · exact o2 b u z e
  · rw [o1 b z] at e
    refine (x b u e).stay (fun c v q y => ?_) (fun c q => ?_) (fun c xs q => ?_)
    · rcases q with q | q
      · subst q; exact k c u v e z y
      · exact k c _ v q (fun y' => (hs c y').elim (fun n => by rw [n] at q; cases q) fun ⟨φ, n⟩ => by rw [n] at q; cases q) y
    · rw [o1 c fun y' => (hs c y').elim (fun n => by rw [n] at q; cases q) fun ⟨φ, n⟩ => by rw [n] at q; cases q]; exact q
    · rw [o1 c fun y' => (hs c y').elim (fun n => by rw [n] at q; cases q) fun ⟨φ, n⟩ => by rw [n] at q; cases q]; exact q
end
/-- how an exception lies behind a call -/
def CXe (P : Program) (w : World) : CXT := fun outer H s E e s' => ∃ (a T : Addr) (cls : Value) (H' : Hp), e = .ref a ∧ s'.os = s.os ∧ AllBare s'.gens ∧ Un (frs outer) [] H H' s.heap s'.heap ∧ HOk P w H' s'.heap ∧
  H' a = some (ExO a cls T) ∧ H' T = some (TbO T) ∧ T ≠ a ∧ (s.heap.get? a = none ∧ s.heap.get? T = none) ∧ E cls none H'
section
variable {P : Program} {w : World} {K : PySem.W.Frag} {mg : Str → Option Value} {base : Heap} {N : List Str} {qual : Str} {scope : Scope} {f : Addr} {cd : Value} {A : Around} {outer : List Env} {s0 : Shared} {H0 : Hp} {E : XK}
end
/-! ### raise C(text) -/
def veM : List Value := [.type "ValueError", .type "Exception", .type "BaseException", .type "object"]
structure ExC (K : PySem.W.Frag) (mg : Str → Option Value) (x : Str) (C : Addr) : Prop where
  bound : mg x = some (.ref C)
  ok : PySem.W.excIn K C veM "ValueError.__new__" = true
theorem ExC.obj {K : PySem.W.Frag} {C : Addr} {h : Heap} (X : K.In h) (q : PySem.W.excIn K C veM "ValueError.__new__" = true) :
    ∃ bm N nm qn bs hdct sn sub ab col dd k0 k1 k2 k3 k5 mN, h.get? C = some (excClassObj nm qn C N bs bm hdct sn sub ab col dd k0 k1 k2 k3 k5 "ValueError.__new__") ∧ h.Ns N mN ∧ mN "__init__" = none ∧ OwnTail h veM bm := by
  unfold PySem.W.excIn at q
  split at q
  · rename_i dd cd sl ho
    split at q
    · rename_i C' bm k0 k1 k2 k3 n k5 hm hs
      simp only [Bool.and_eq_true, beq_iff_eq, Bool.not_eq_true'] at q
      obtain ⟨⟨⟨⟨⟨rfl, rfl⟩, a1⟩, a2⟩, a3⟩, a4⟩ := q
      cases cd with
      | mk nm bs mro ns qn hd sn sub ab col del =>
        dsimp only at hm a1 a3 a4
        subst hm a1
        obtain ⟨l⟩ := sl
        have e : l = [k0, k1, k2, k3, some (.builtin "ValueError.__new__"), k5] := hs
        subst e
        exact ⟨bm, ns, nm, qn, bs, hd, sn, sub, ab, col, dd, k0, k1, k2, k3, k5, _, X _ _ ho, .of_isNs (PySem.W.isNs_of_in X a3), PySem.W.nsMap_none_of_in X a3 a4, PySem.W.tail_of_in X a2⟩
    · cases q
  · cases q
def tRaise (E : XK) (C : Addr) (ta : TA) : TS := fun _ σ H => ta σ H fun vs H1 => vs.length ≤ sizeLine ∧ ∀ H', Same H1 H' → E (.ref C) none H'
section
variable {P : Program} {w : World} {K : PySem.W.Frag} {mg : Str → Option Value} {base : Heap} {N : List Str} {qual : Str} {scope : Scope} {f : Addr} {cd : Value} {A : Around} {outer : List Env} {s0 : Shared} {H0 : Hp} {E : XK}
end
/-! ### the name of an except clause goes -/
section
variable {X : Cx} {pins : List (Addr × Obj)} {σ : St} {H : Hp} {s : Shared}
end
/-! ### an exception is caught -/
section
variable {X : Cx} {pins : List (Addr × Obj)} {σ : St} {H : Hp} {s : Shared}
/-- tracked things of one's own kind change, or are laid -/
theorem Inv.ext {H' : Hp} {h' : Heap} (I : Inv X pins σ H s) (S : Addr → Prop) (keep : ∀ b o, ¬ S b → b ∉ frs X.stack → s.heap.get? b = some o → h'.get? b = some o) (slot : ∀ b o, ¬ S b → s.heap.get? b = some o → ∃ sl, h'.get? b = some { o with slots := sl })
    (there : ∀ b o, S b → s.heap.get? b = some o → ∃ o', h'.get? b = some o') (hs : ∀ b, S b → (H b = none ∧ s.heap.get? b = none) ∨ ∃ φ, H b = some (.ext φ))
    (o1 : ∀ b, ¬ S b → H' b = H b) (o2 : ∀ b u, S b → H' b = some u → ObjOk X.prog X.w H' h' b u) : Inv X pins σ H' { s with heap := h' } := by
  have un : ∀ b o, s.heap.get? b = some o → H b = none → ¬ S b := fun b o e n z => by
    rcases hs b z with ⟨_, q⟩ | ⟨φ, q⟩
    · rw [e] at q; cases q
    · rw [n] at q; cases q
  have tr : ∀ b u, H b = some u → (∀ φ, u ≠ .ext φ) → H' b = some u := fun b u e n => by
    rw [o1 b fun z => (hs b z).elim (fun q => by rw [q.1] at e; cases e) fun ⟨φ, q⟩ => by rw [q] at e; cases e; exact n φ rfl]
    exact e
  refine I.call (ch := []) (g' := s.gens) (t' := s.toks) (d' := s.drawn) ⟨fun b o e n hb _ => keep b o (un b o e n) hb e, fun b o e n hb _ => slot b o (un b o e n) e, fun b o e n _ => (by rw [o1 b (un b o e n)]; exact n), fun b o e _ => ?_, fun b xs e => tr b _ e (fun φ z => by cases z), fun b o u e => tr b _ e (fun φ z => by cases z), fun b ps e => ⟨#[], (by rw [tr b _ e (fun φ z => by cases z)]; simp)⟩⟩ ?_ I.bare fun b z => nomatch z
  · by_cases z : S b
    · exact there b o z e
    · obtain ⟨sl, q⟩ := slot b o z e; exact ⟨_, q⟩
  · refine I.hok.ext S (fun b u v e z q => ?_) (fun b z => (hs b z).elim (fun q => .inl q.1) .inr) o1 o2
    refine keep b v z (fun hm => ?_) q
    have := I.stkFree b hm
    rw [e] at this; cases this
end
section
variable {X : Cx} {pins : List (Addr × Obj)} {σ : St} {H1 : Hp} {s1 s' : Shared}
end
/-! ### a def that may raise; a call of it in a try -/
section
variable {P : Program} {w : World} {K : PySem.W.Frag} {mg : Str → Option Value} {base : Heap}
/-- a callee that may raise -/
structure CtE (P : Program) (w : World) (K : PySem.W.Frag) (mg : Str → Option Value) (base : Heap) (k : Nat) (x : Str) (ps : List Str) (sp : Sp) where
  f : Addr
  fd : FuncData
  G : FnOk P w K mg base (CXe P w) k f fd ps sp
  kp : PySem.W.keepIn K (.ref f) = true
  b : Binds K fd ps []
  m : mg x = some (.ref f)
def CtE.mono {j k : Nat} {x : Str} {ps : List Str} {sp : Sp} (c : CtE P w K mg base j x ps sp) (h : j ≤ k) : CtE P w K mg base k x ps sp := { c with G := c.G.mono h }
/-- where it does not raise -/
def CtE.calm {k : Nat} {x : Str} {ps : List Str} {sp : Sp} (c : CtE P w K mg base k x ps sp) : Ct P w K mg base k x ps (fun vs H Q _ => sp vs H Q E0) := ⟨c.f, c.fd, ⟨fun vs H Q E h => c.G.len _ _ _ _ h, fun A outer s H args us vs Q E hr he hb hv h => codeAny_mono (c.G.run A outer s H args us vs Q E0 hr he hb hv h) fun r s' z => by
  cases r with
  | error e =>
    obtain ⟨_, _, _, _, _, _, _, _, _, _, _, _, _, q⟩ := z
    exact q.elim
  | ok fl => cases fl <;> exact z⟩, c.kp, c.b, c.m⟩
end
end L2
namespace L2
open PySem PySem.Spec PyProof.Rows
/-! ### isinstance of an exception -/
section
variable {prog : Program} {w : World} {A : Around} {E : Value → Shared → Prop} {s : Shared} {K : PySem.W.Frag} {x D : Addr} {ox : Obj} {od : Option Obj}
/-- what the fragment knows of a class of exceptions -/
structure ExK (K : PySem.W.Frag) (D : Addr) : Prop where
  ga : PySem.W.findIn K (.ref D) "__getattribute__" = some (some (.builtin "BaseException.__getattribute__"))
  gt : PySem.W.findIn K (.ref D) "__getattr__" = some none
  fo : PySem.W.findObj K D none "__class__" = some (.bind (.builtin "getset_descriptor.__get__") (.builtin "object.__class__"))
  sb : PySem.W.subIn K (.ref D) (.type "BaseException") = some true
  ob : PySem.W.mroIn K D (.type "object") = some true
theorem ExK.of (ga : PySem.W.findIn K (.ref D) "__getattribute__" = some (some (.builtin "BaseException.__getattribute__"))) (gt : PySem.W.findIn K (.ref D) "__getattr__" = some none) (fi : PySem.W.findIn K (.ref D) "__class__" = some (some (.builtin "object.__class__")))
    (sp : PySem.W.specialIn K (.builtin "object.__class__") "__get__" = some (some (.builtin "getset_descriptor.__get__"))) (tk : PySem.W.takesIn K (.builtin "object.__class__") = some true) (hd : PySem.W.hasDictIn K D = true)
    (sb : PySem.W.subIn K (.ref D) (.type "BaseException") = some true) (ob : PySem.W.mroIn K D (.type "object") = some true) : ExK K D ∧ (PySem.W.clsIn K D).isSome = true := by
  obtain ⟨cd, hc, _⟩ := PySem.W.any_some hd
  refine ⟨⟨ga, gt, ?_, sb, ob⟩, by rw [hc]; rfl⟩
  unfold PySem.W.findObj
  rw [hc, Option.bind_some, fi, Option.bind_some]
  simp [sp, tk]
end
section
variable {X : Cx}
end
end L2
namespace L2
open PySem PySem.Spec PyProof.Rows
/-! ### an exception of a callee passes a frame -/
section
variable {P : Program} {w : World} {K : PySem.W.Frag} {mg : Str → Option Value} {base : Heap} {N : List Str} {qual : Str} {scope : Scope} {f : Addr} {cd : Value} {A : Around} {outer : List Env} {s0 : Shared} {H0 : Hp} {E : XK}
def tCallE (sp : Sp) (dvs : List V) (E : XK) (t : TA) : TE := fun σ H Q => t σ H fun vs H1 => sp (vs ++ dvs) H1 Q (fun cls _ H2 => ∀ H3, (Same H1 H2 → Same H1 H3) → E cls none H3)
end
end L2
namespace L2
open PySem PySem.Spec PyProof.Rows
/-! ### what may raise, within a try -/
abbrev TX := St → Hp → VK → (Value → Hp → Hp → Prop) → Prop
abbrev TSX := Ends → (Value → St → Hp → Hp → Prop) → St → Hp → Prop
def XL (X : Cx) (pins : List (Addr × Obj)) (σ : St) (EE : Value → Hp → Hp → Prop) : Value → Shared → Prop := fun e s' => ∃ H1 s1 E', Inv X pins σ H1 s1 ∧ CXe X.prog X.w X.stack H1 s1 E' e s' ∧ ∀ cls H2, E' cls none H2 → EE cls H1 H2
def XLs (X : Cx) (pins : List (Addr × Obj)) (EE : Value → St → Hp → Hp → Prop) : Value → Shared → Prop := fun e s' => ∃ σ1 H1 s1 E', Inv X pins σ1 H1 s1 ∧ CXe X.prog X.w X.stack H1 s1 E' e s' ∧ ∀ cls H2, E' cls none H2 → EE cls σ1 H1 H2
structure PX (X : Cx) (e : Expr) (t : TX) : Prop where
  mk ::
  go : ∀ (pins : List (Addr × Obj)) (s : Shared) (σ : St) (H : Hp) (Q : VK) (EE : Value → Hp → Hp → Prop), Inv X pins σ H s → t σ H Q EE → wpAny (model X.prog X.w) X.A (eval e X.env) (EP X pins σ Q) (XL X pins σ EE) s
structure PSX (X : Cx) (st : Stmt) (t : TSX) : Prop where
  mk ::
  go : ∀ (pins : List (Addr × Obj)) (s : Shared) (σ : St) (H : Hp) (D : Ends) (EE : Value → St → Hp → Hp → Prop), Inv X pins σ H s → t D EE σ H → wpAny (model X.prog X.w) X.A (exec st X.env) (SP X pins D) (XLs X pins EE) s
structure PSXs (X : Cx) (st : List Stmt) (t : TSX) : Prop where
  mk ::
  go : ∀ (pins : List (Addr × Obj)) (s : Shared) (σ : St) (H : Hp) (D : Ends) (EE : Value → St → Hp → Hp → Prop), Inv X pins σ H s → t D EE σ H → wpAny (model X.prog X.w) X.A (execs st X.env) (SP X pins D) (XLs X pins EE) s
def xPe (te : TE) : TX := fun σ H Q _ => te σ H Q
def xCall (sp : Sp) (dvs : List V) (ta : TA) : TX := fun σ H Q EE => ta σ H fun vs H1 => sp (vs ++ dvs) H1 Q (fun cls _ H2 => EE cls H1 H2)
def xIf (tc : TT) (a b : TX) : TX := fun σ H Q EE => tc σ H fun d H1 => if d = true then a σ H1 Q EE else b σ H1 Q EE
def xSet (i : Nat) (t : TX) : TSX := fun D EE σ H => t σ H (fun v H' => D.nx (σ.set i (some v)) H') (fun cls H1 H2 => EE cls σ H1 H2)
def xDrop (t : TX) : TSX := fun D EE σ H => t σ H (fun _ H' => D.nx σ H') (fun cls H1 H2 => EE cls σ H1 H2)
def xIfS (tc : TT) (a b : TSX) : TSX := fun D EE σ H => tc σ H fun d H1 => if d = true then a D EE σ H1 else b D EE σ H1
def xPs (t : TS) : TSX := fun D _ σ H => t D σ H
def xSeq (a b : TSX) : TSX := fun D EE σ H => a { D with nx := fun σ' H' => b D EE σ' H' } EE σ H
section
variable {X : Cx}
end
end L2
namespace L2
open PySem PySem.Spec PyProof.Rows
/-! ### f-strings -/
def fmtV : V → Option Str
  | .int i => if i.natAbs.log2 < 1920 then some (Str.ofString (toString i)) else none
  | .str z => some z
  | _ => none
def tFv (te : TE) : TE := fun σ H Q => te σ H fun x H1 => ∃ z, fmtV x = some z ∧ z.length ≤ sizeLine ∧ Q (.str z) H1
abbrev TJ := Str → St → Hp → (Str → Hp → Prop) → Prop
section
variable {X : Cx}
/-- the parts of an f-string, put behind what there is -/
structure PJ (X : Cx) (es : List Expr) (t : TJ) : Prop where
  mk ::
  go : ∀ (acc : Str) (pins : List (Addr × Obj)) (s : Shared) (σ : St) (H : Hp) (R : Str → Hp → Prop), Inv X pins σ H s → t acc σ H R →
    Joins (model X.prog X.w) X.A X.xe (evalEach es X.env) acc (fun out s' => ∃ H', Inv X pins σ H' s' ∧ R out H') s
def tJ0 : TJ := fun acc _ H R => R acc H
def tJ1 (te : TE) (t : TJ) : TJ := fun acc σ H R => te σ H fun x H1 => ∃ y, x = .str y ∧ (acc ++ y).length ≤ sizeLine ∧ t (acc ++ y) σ H1 R
def tJs (t : TJ) : TE := fun σ H Q => t Str.empty σ H fun out H' => out.length ≤ sizeLine ∧ Q (.str out) H'
theorem Joins.mono {M : Model} {A : Around} {E : Value → Shared → Prop} : ∀ {ps : List (Sem Value)} {acc : Str} {Q Q' : Str → Shared → Prop} {s : Shared}, (∀ o s', Q o s' → Q' o s') → Joins M A E ps acc Q s → Joins M A E ps acc Q' s
  | [], _, _, _, _, h, j => h _ _ j
  | _ :: _, _, _, _, _, h, j => wpAny_mono j (fun _ _ ⟨y, t, e, l, r⟩ => ⟨y, t, e, l, Joins.mono h r⟩) fun _ _ e => e
/-! ### slices -/
/-! ### sep.join(list of texts) -/
/-! ### int(text) -/
/-! ### a text walked sign by sign -/
/-- a test that is a value's truth -/
def tTru (K : PySem.W.Frag) (ta : TE) : TT := fun σ H Q => ta σ H fun x H' => ∃ k, TruV K x H' k ∧ Q k H'
end
end L2
namespace L2
open PySem PySem.Spec PyProof.Rows
/-! ### texts as lists of signs -/
def tx (l : List Nat) : Str := ⟨l.toArray⟩
/-! ### numbers -/
/-! ### slices -/
/-! ### joined -/
/-! ### a comprehension over a text, each sign told a truth -/
end L2
namespace L2
open PySem PySem.Spec PyProof.Rows
/-! ### zip of two lists, made -/
structure ZstL (z TI TO i1 i2 a b : Addr) (i : Nat) (h : Heap) : Prop where
  z : IsZip h z TI TO .none
  p : IsPair h TI (.ref i1) (.ref i2)
  o : ∃ x y, IsPair h TO x y
  l : h.IsListIter i1 a i
  r : h.IsListIter i2 b i
section
variable {X : Cx}
end
end L2
namespace L2
open PySem PySem.Spec PyProof.Rows
end L2
namespace L2
open PySem
/-- things of which == and != can be asked -/
structure Pl (n : Nat) (d : PyData) : Prop where
  hd : d.hasDict = false
  cl : d.canLay0 = true
  dp : d.depth ≤ n
theorem Pl.all {n : Nat} : ∀ {ds : List PyData}, (∀ d ∈ ds, Pl n d) → PyData.hasDictAll ds = false ∧ PyData.canLayAll0 ds = true ∧ PyData.depthAll ds ≤ n
  | [], _ => ⟨rfl, rfl, Nat.zero_le _⟩
  | d :: ds, h => by
    obtain ⟨h1, h2, h3⟩ := Pl.all fun x hx => h x (List.mem_cons_of_mem d hx)
    obtain ⟨g1, g2, g3⟩ := h d (List.mem_cons_self ..)
    refine ⟨?_, ?_, ?_⟩
    · show (PyData.hasDict d || PyData.hasDictAll ds) = false
      rw [g1, h1]; rfl
    · show (PyData.canLay0 d && PyData.canLayAll0 ds) = true
      rw [g2, h2]; rfl
    · show max (PyData.depth d) (PyData.depthAll ds) ≤ n
      omega
theorem Pl.tup {n : Nat} {ds : List PyData} (h : ∀ d ∈ ds, Pl n d) : Pl (n + 1) (.tuple ds) := by
  obtain ⟨h1, h2, h3⟩ := Pl.all h
  exact ⟨by simpa [PyData.hasDict] using h1, by simpa [PyData.canLay0] using h2, by show PyData.depthAll ds + 1 ≤ n + 1; omega⟩
theorem Pl.lst {n : Nat} {ds : List PyData} (h : ∀ d ∈ ds, Pl n d) : Pl (n + 1) (.list ds) := by
  obtain ⟨h1, h2, h3⟩ := Pl.all h
  exact ⟨by simpa [PyData.hasDict] using h1, by simpa [PyData.canLay0] using h2, by show PyData.depthAll ds + 1 ≤ n + 1; omega⟩
theorem Pl.int {n : Nat} (i : Int) : Pl n (.int i) := ⟨rfl, rfl, Nat.zero_le _⟩
theorem Pl.bool {n : Nat} (i : Bool) : Pl n (.bool i) := ⟨rfl, rfl, Nat.zero_le _⟩
theorem Pl.none {n : Nat} : Pl n .none := ⟨rfl, rfl, Nat.zero_le _⟩
theorem Pl.str {n : Nat} {z : Str} (h : PyData.strOk z = true) : Pl n (.str z) := ⟨rfl, h, Nat.zero_le _⟩
theorem Pl.mono {n m : Nat} {d : PyData} (h : Pl n d) (e : n ≤ m) : Pl m d := ⟨h.1, h.2, Nat.le_trans h.3 e⟩
theorem Pl.map {n : Nat} {α : Type} {f : α → PyData} {l : List α} (h : ∀ x ∈ l, Pl n (f x)) : ∀ d ∈ l.map f, Pl n d := fun d hd => by
  obtain ⟨x, hx, rfl⟩ := List.mem_map.mp hd
  exact h x hx
theorem Pl.ints {n : Nat} (l : List Int) : ∀ d ∈ l.map PyData.int, Pl n d := Pl.map fun x _ => Pl.int x
theorem Pl.cons {n : Nat} {d : PyData} {ds : List PyData} (h : Pl n d) (r : ∀ x ∈ ds, Pl n x) : ∀ x ∈ d :: ds, Pl n x := fun x hx => by
  rcases List.mem_cons.mp hx with rfl | z
  · exact h
  · exact r x z
theorem Pl.nil {n : Nat} : ∀ x ∈ ([] : List PyData), Pl n x := fun x hx => by cases hx
theorem Pl.eqv {n : Nat} {d : PyData} (h : Pl n d) : PyData.eqv d d = true := PySem.SeqAt.eqv_refl d h.cl
theorem Pl.ne {n : Nat} {d : PyData} {x y : V} {H : Hp} {Q : VK} (p : Pl n d) (hn : n ≤ 60) (hx : At H d x) (hy : At H d y) (q : Q (.bl false) H) : ∃ d e, At H d x ∧ At H e y ∧ d.hasDict = false ∧ e.hasDict = false ∧ d.canLay0 = true ∧ e.canLay0 = true ∧ d.depth ≤ 60 ∧ Q (.bl (!PyData.eqv d e)) H :=
  ⟨d, d, hx, hy, p.hd, p.hd, p.cl, p.cl, Nat.le_trans p.dp hn, by rw [p.eqv]; exact q⟩
end L2
namespace L2
open PySem PySem.Spec PyProof.Rows
/-! ### tuples within tuples as keys of a dict -/
noncomputable instance decData : DecidableEq PyData := fun a b => Classical.propDecidable (a = b)
mutual
def ndK : PyData → Bool
  | .int _ => true
  | .tuple ds => ndKs ds
  | _ => false
def ndKs : List PyData → Bool
  | [] => true
  | d :: ds => ndK d && ndKs ds
end
mutual
theorem ndK_cl : ∀ d : PyData, ndK d = true → d.canLay0 = true ∧ d.hasDict = false ∧ noL d = true
  | .int _, _ => ⟨rfl, rfl, rfl⟩
  | .tuple ds, h => by
    obtain ⟨h1, h2, h3⟩ := ndKs_cl ds (by simpa [ndK] using h)
    exact ⟨by simpa [PyData.canLay0] using h1, by simpa [PyData.hasDict] using h2, by simpa [noL] using h3⟩
  | .none, h => nomatch h
  | .bool _, h => nomatch h
  | .str _, h => nomatch h
  | .list _, h => nomatch h
  | .dict _, h => nomatch h
theorem ndKs_cl : ∀ ds : List PyData, ndKs ds = true → PyData.canLayAll0 ds = true ∧ PyData.hasDictAll ds = false ∧ noLAll ds = true
  | [], _ => ⟨rfl, rfl, rfl⟩
  | d :: ds, h => by
    have h' : ndK d = true ∧ ndKs ds = true := by simpa [ndKs] using h
    obtain ⟨h1, h2, h3⟩ := ndK_cl d h'.1
    obtain ⟨g1, g2, g3⟩ := ndKs_cl ds h'.2
    exact ⟨by simp [PyData.canLayAll0, h1, g1], by simp [PyData.hasDictAll, h2, g2], by simp [noLAll, h3, g3]⟩
end
mutual
theorem ndK_eqv : ∀ d e : PyData, ndK d = true → ndK e = true → (PyData.eqv d e = true ↔ d = e)
  | .int i, .int j, _, _ => by simp [PyData.eqv]
  | .int i, .tuple es, _, _ => by simp [PyData.eqv]
  | .tuple ds, .int j, _, _ => by simp [PyData.eqv]
  | .tuple ds, .tuple es, h, g => by
    have := ndKs_eqv ds es (by simpa [ndK] using h) (by simpa [ndK] using g)
    simpa [PyData.eqv] using this
  | .none, _, h, _ => nomatch h
  | .bool _, _, h, _ => nomatch h
  | .str _, _, h, _ => nomatch h
  | .list _, _, h, _ => nomatch h
  | .dict _, _, h, _ => nomatch h
  | .int _, .none, _, h => nomatch h
  | .int _, .bool _, _, h => nomatch h
  | .int _, .str _, _, h => nomatch h
  | .int _, .list _, _, h => nomatch h
  | .int _, .dict _, _, h => nomatch h
  | .tuple _, .none, _, h => nomatch h
  | .tuple _, .bool _, _, h => nomatch h
  | .tuple _, .str _, _, h => nomatch h
  | .tuple _, .list _, _, h => nomatch h
  | .tuple _, .dict _, _, h => nomatch h
theorem ndKs_eqv : ∀ ds es : List PyData, ndKs ds = true → ndKs es = true → (PyData.eqvAll ds es = true ↔ ds = es)
  | [], [], _, _ => by simp [PyData.eqvAll]
  | [], _ :: _, _, _ => by simp [PyData.eqvAll]
  | _ :: _, [], _, _ => by simp [PyData.eqvAll]
  | d :: ds, e :: es, h, g => by
    have h' : ndK d = true ∧ ndKs ds = true := by simpa [ndKs] using h
    have g' : ndK e = true ∧ ndKs es = true := by simpa [ndKs] using g
    have h1 := ndK_eqv d e h'.1 g'.1
    have h2 := ndKs_eqv ds es h'.2 g'.2
    simp [PyData.eqvAll, h1, h2]
end
theorem ndK_dec {d e : PyData} (h : ndK d = true) (g : ndK e = true) : PyData.eqv d e = decide (d = e) := by
  by_cases z : d = e
  · rw [decide_eq_true z]; exact (ndK_eqv d e h g).mpr z
  · rw [decide_eq_false z]
    cases q : PyData.eqv d e with
    | false => rfl
    | true => exact absurd ((ndK_eqv d e h g).mp q) z
mutual
def hashD : PyData → Int
  | .int i => hashInt i
  | .tuple ds => reduceHash (Builtin.Tuple.tupleHashOf (hashDs ds))
  | _ => 0
def hashDs : List PyData → List Int
  | [] => []
  | d :: ds => hashD d :: hashDs ds
end
mutual
def drawD : PyData → Nat
  | .tuple ds => drawDs ds + 1
  | _ => 1
def drawDs : List PyData → Nat
  | [] => 0
  | d :: ds => drawD d + drawDs ds
end
theorem hashDs_app : ∀ a b : List PyData, hashDs (a ++ b) = hashDs a ++ hashDs b
  | [], _ => rfl
  | d :: a, b => by rw [List.cons_append, hashDs, hashDs, hashDs_app a b]; rfl
theorem drawDs_app : ∀ a b : List PyData, drawDs (a ++ b) = drawDs a + drawDs b
  | [], _ => by rw [List.nil_append, drawDs, Nat.zero_add]
  | d :: a, b => by rw [List.cons_append, drawDs, drawDs, drawDs_app a b, Nat.add_assoc]
theorem depth_mem : ∀ {ds : List PyData} {d : PyData}, d ∈ ds → d.depth ≤ PyData.depthAll ds
  | x :: ds, d, h => by
    show d.depth ≤ max x.depth (PyData.depthAll ds)
    rcases List.mem_cons.mp h with rfl | h
    · omega
    · have := depth_mem h
      omega
def HashOk (prog : Program) (w : World) (d : PyData) : Prop := ∀ (A : Around) (E : Value → Shared → Prop) (s : Shared) (v : Value) (as : List Addr) (Q : Int → Shared → Prop), Reads s.heap v d as → A.units + d.depth < cLine →
  Q (hashD d) { s with toks := s.toks + drawD d } → wpAny (model prog w) A (PySem.pyHash v) Q E s
theorem hash_tup {prog : Program} {w : World} {ds : List PyData} (ih : ∀ d ∈ ds, HashOk prog w d) : HashOk prog w (.tuple ds) := by
  intro A E s v as Q r hu h
  cases r with
  | @tuple a o items n _ _ ho hc hd hi =>
  have hT : s.TypeIs (.ref a) "tuple" := ⟨o, ho, hc⟩
  have hdep : A.units + (PyData.depthAll ds + 1) < cLine := hu
  have hu0 : A.units < cLine := by omega
  unfold pyHash
  first | unfold pyHashByItsType | skip
  first | refine wpAny_bind (wpAny_cRoomFor_or (.inr hu0) ?_) | skip
  refine wpAny_bind (wpAny_specialOf hT F.slot_tuple_hash.lookup ?_)
  show wpAny _ _ (if (some (Value.builtin "tuple.__hash__") == some Value.none) = true then _ else _) Q E s
  rw [if_neg (by rw [beq_builtin_none]; exact Bool.false_ne_true)]
  refine wpAny_bind (wpAny_specialOf hT F.slot_tuple_hash.lookup ?_)
  show wpAny _ _ (callSpecialIfBoundUnlessNone? (.ref a) "__hash__" _ >>= _) Q E s
  refine wpAny_bind (wpAny_callSpecialIfBoundUnlessNone?_slot hT F.slot_tuple_hash (wpAny_call_entry F.slot_tuple_hash hT F.entry_tuple_hash ?_ (F.args_tuple_hash_1 _)))
  show wpAny _ _ (Builtin.Tuple.tupleItemsOf (.ref a) >>= _) _ _ s
  refine wpAny_bind (wpAny_tupleItemsOf ho hd ?_)
  refine wpAny_bind ?_
  rw [← Array.forIn_toList]
  refine wpAny_forIn_list _
    (fun rest (b : Array Int) s' => ∃ done left bs, ds = done ++ left ∧ ReadsAll s.heap rest left bs ∧ b.toList = hashDs done ∧ s' = { s with toks := s.toks + drawDs done })
    _ ?_ ?_ _ _ ⟨[], ds, _, rfl, hi, rfl, rfl⟩
  · rintro x rest b s' ⟨done, left, bs, e, hl, hb, rfl⟩
    cases hl with
    | @cons _ _ k ks' as1 bs1 h1 hl' =>
      have hk : k ∈ ds := by rw [e]; simp
      refine wpAny_bind (ih k hk _ _ _ _ _ _ h1 ?_ ?_)
      · have := depth_mem hk
        show A.units + 1 + k.depth < cLine
        omega
      · exact wpAny_pure ⟨done ++ [k], ks', _, by rw [e]; simp, hl', by rw [hashDs_app]; simp [hb, hashDs], by rw [drawDs_app]; simp [drawDs, Nat.add_assoc]⟩
  · rintro b s' ⟨done, left, bs, e, hl, hb, rfl⟩
    cases hl
    rw [List.append_nil] at e
    subst e
    show wpAny _ _ (retInt (Builtin.Tuple.tupleHashOf b.toList)) _ _ _
    rw [hb]
    refine wpAny_ret_mkInt ?_
    show wpAny _ _ (if (decide (-(2 : Int) ^ 63 ≤ Builtin.Tuple.tupleHashOf (hashDs ds)) && decide (Builtin.Tuple.tupleHashOf (hashDs ds) < 2 ^ 63)) = true then _ else _) Q E _
    unfold hashD reduceHash drawD at h
    by_cases hr : (decide (-(2 : Int) ^ 63 ≤ Builtin.Tuple.tupleHashOf (hashDs ds)) && decide (Builtin.Tuple.tupleHashOf (hashDs ds) < 2 ^ 63)) = true
    · rw [if_pos hr]
      rw [if_pos hr] at h
      exact wpAny_pure (by simpa [Nat.add_assoc] using h)
    · rw [if_neg hr]
      rw [if_neg hr] at h
      exact wpAny_bind (wpAny_rule (wpAny_pure (by simpa [Nat.add_assoc] using h)))
mutual
theorem hash_data {prog : Program} {w : World} : ∀ d : PyData, ndK d = true → HashOk prog w d
  | .int i, _ => by
    intro A E s v as Q r hu h
    cases r
    exact wpAny_pyHash_int h
  | .tuple ds, h => hash_tup (hash_datas ds (by simpa [ndK] using h))
  | .none, h => nomatch h
  | .bool _, h => nomatch h
  | .str _, h => nomatch h
  | .list _, h => nomatch h
  | .dict _, h => nomatch h
theorem hash_datas {prog : Program} {w : World} : ∀ ds : List PyData, ndKs ds = true → ∀ d ∈ ds, HashOk prog w d
  | [], _, d, hd => by cases hd
  | x :: ds, h, d, hd => by
    have h' : ndK x = true ∧ ndKs ds = true := by simpa [ndKs] using h
    rcases List.mem_cons.mp hd with e | e
    · rw [e]; exact hash_data x h'.1
    · exact hash_datas ds h'.2 d e
end
def QuietOk (prog : Program) (w : World) (d : PyData) : Prop := ∀ (n : Nat) (A : Around) (E : Value → Shared → Prop) (s : Shared) (v : Value) (as : List Addr) (Q : Bool → Shared → Prop), Reads s.heap v d as → d.depth ≤ n → Q true s →
  wpAny (model prog w) A (eqIsQuiet n v) Q E s
theorem quiet_tup {prog : Program} {w : World} {ds : List PyData} (ih : ∀ d ∈ ds, QuietOk prog w d) : QuietOk prog w (.tuple ds) := by
  intro n A E s v as Q r hn h
  have hn : PyData.depthAll ds + 1 ≤ n := hn
  obtain ⟨m, rfl⟩ : ∃ m, n = m + 1 := ⟨n - 1, by omega⟩
  cases r with
  | @tuple a o items nn _ _ ho hc hd hi =>
  have hT : s.TypeIs (.ref a) "tuple" := ⟨o, ho, hc⟩
  unfold eqIsQuiet
  refine wpAny_bind (wpAny_specialOf hT F.slot_tuple_eq.lookup ?_)
  show wpAny _ _ (isInstance (.ref a) (.type "tuple") >>= _) _ _ s
  refine wpAny_bind (wpAny_isInstance hT isSubtype_tuple_tuple ?_)
  simp only [Bool.not_true, Bool.false_eq_true, if_false]
  refine wpAny_bind (wpAny_seqItems ho hd ?_)
  refine wpAny_bind ?_
  show wpAny _ _ (forIn items _ _) _ _ s
  rw [← Array.forIn_toList]
  refine wpAny_forIn_list _ (fun rest r s' => r.1 = none ∧ s' = s ∧ ∃ left bs, (∀ d ∈ left, d ∈ ds) ∧ ReadsAll s.heap rest left bs) _ ?_ ?_ _ _ ⟨rfl, rfl, ds, _, fun d h => h, hi⟩
  · rintro v rest r s' ⟨hr, rfl, left, bs, hall, hl⟩
    cases hl with
    | @cons _ _ k ks' as1 bs1 h1 hl' =>
    have hk := hall k List.mem_cons_self
    have := depth_mem hk
    refine wpAny_bind (ih k hk m _ _ _ _ _ _ h1 (by omega) ?_)
    simp only [Bool.not_true, Bool.false_eq_true, if_false]
    exact wpAny_pure ⟨rfl, rfl, ks', bs1, fun d h => hall d (List.mem_cons_of_mem _ h), hl'⟩
  · rintro ⟨r1, r2⟩ s' ⟨hr, rfl, _⟩
    simp only at hr
    subst hr
    exact wpAny_pure h
mutual
theorem quiet_data {prog : Program} {w : World} : ∀ d : PyData, ndK d = true → QuietOk prog w d
  | .int i, _ => by
    intro n A E s v as Q r hu h
    cases r
    rw [eqIsQuiet_byValue _ rfl]
    exact wpAny_pure h
  | .tuple ds, h => quiet_tup (quiet_datas ds (by simpa [ndK] using h))
  | .none, h => nomatch h
  | .bool _, h => nomatch h
  | .str _, h => nomatch h
  | .list _, h => nomatch h
  | .dict _, h => nomatch h
theorem quiet_datas {prog : Program} {w : World} : ∀ ds : List PyData, ndKs ds = true → ∀ d ∈ ds, QuietOk prog w d
  | [], _, d, hd => by cases hd
  | x :: ds, h, d, hd => by
    have h' : ndK x = true ∧ ndKs ds = true := by simpa [ndKs] using h
    rcases List.mem_cons.mp hd with e | e
    · rw [e]; exact quiet_data x h'.1
    · exact quiet_datas ds h'.2 d e
end
mutual
theorem reads_keep {h h' : Heap} (k : ∀ b o, h.get? b = some o → o.cls = .type "tuple" → (∃ vs n, o.data = .seq vs n) → h'.get? b = some o) : ∀ (d : PyData) (v : Value) (as : List Addr), ndK d = true → Reads h v d as → Reads h' v d as
  | .int i, _, _, _, r => by cases r; exact .int _ _
  | .tuple ds, _, _, g, r => by
    cases r with
    | tuple ho hc hd hi => exact .tuple (k _ _ ho hc ⟨_, _, hd⟩) hc hd (reads_keeps k ds _ _ (by simpa [ndK] using g) hi)
  | .none, _, _, h, _ => nomatch h
  | .bool _, _, _, h, _ => nomatch h
  | .str _, _, _, h, _ => nomatch h
  | .list _, _, _, h, _ => nomatch h
  | .dict _, _, _, h, _ => nomatch h
theorem reads_keeps {h h' : Heap} (k : ∀ b o, h.get? b = some o → o.cls = .type "tuple" → (∃ vs n, o.data = .seq vs n) → h'.get? b = some o) : ∀ (ds : List PyData) (vs : List Value) (as : List Addr), ndKs ds = true → ReadsAll h vs ds as → ReadsAll h' vs ds as
  | [], _, _, _, r => by cases r; exact .nil
  | d :: ds, _, _, g, r => by
    have g' : ndK d = true ∧ ndKs ds = true := by simpa [ndKs] using g
    cases r with
    | cons h1 h2 => exact .cons (reads_keep k d _ _ g'.1 h1) (reads_keeps k ds _ _ g'.2 h2)
end
/-- the kind of keys that are tuples of numbers and of such tuples -/
noncomputable def nestKind (prog : Program) (w : World) : HeapKind prog w PyData where
  is := fun h d a => ndK d = true ∧ d.depth ≤ 8 ∧ ∃ as, Reads h (.ref a) d as
  hash := hashD
  draws := drawD
  room := fun A => A.units + 60 < cLine
  inj := fun ⟨g, _, _, r⟩ ⟨_, _, _, r'⟩ => SeqAt.Reads.unique _ _ _ _ _ (ndK_cl _ g).1 r r'
  keeps := fun {h h' k a d o es ep} ⟨g, dp, as, r⟩ ho hd hs => ⟨g, dp, as, reads_keep (fun b ob hb hc ⟨vs, n, hq⟩ => by
    have hne : b ≠ d := by
      rintro rfl
      obtain rfl : ob = o := Option.some.inj (hb.symm.trans ho)
      rw [hd] at hq; exact nomatch hq
    exact (hs.2 b hne).trans hb) _ _ _ g r⟩
  pyHash := fun hu ⟨g, dp, as, r⟩ h => hash_data _ g _ _ _ _ _ _ r (by omega) h
  eqBool := fun {A E s x y a b Q} hu ⟨g, dp, as, r⟩ ⟨g', dp', as', r'⟩ h => by
    have := SeqAt.eqAt_reads x y A s _ _ _ _ r r' (ndK_cl _ g).1 (ndK_cl _ g').1 (by have := Nat.min_le_left x.depth y.depth; omega)
    rw [ndK_dec g g'] at this
    exact this prog w E Q h
  quiet := fun ⟨g, dp, as, r⟩ h => quiet_data _ g 8 _ _ _ _ _ _ r dp h
end L2
namespace L2
open PySem PySem.Spec PyProof.Rows
mutual
theorem At.tupS {H H' : Hp} (k : ∀ b xs, H b = some (.tup xs) → H' b = some (.tup xs)) : ∀ (d : PyData) (v : V), noL d = true → At H d v → At H' d v
  | .none, _, _, h => by unfold At at h ⊢; exact h
  | .bool _, _, _, h => by unfold At at h ⊢; exact h
  | .int _, _, _, h => by unfold At at h ⊢; exact h
  | .str _, _, _, h => by unfold At at h ⊢; exact h
  | .tuple ds, v, n, h => by
    unfold At at h ⊢
    obtain ⟨a, ys, e, h1, h2⟩ := h
    exact ⟨a, ys, e, k _ _ h1, AtAll.tupS k ds ys (by simpa [noL] using n) h2⟩
  | .list _, _, n, _ => by simp [noL] at n
  | .dict _, _, n, _ => by simp [noL] at n
theorem AtAll.tupS {H H' : Hp} (k : ∀ b xs, H b = some (.tup xs) → H' b = some (.tup xs)) : ∀ (ds : List PyData) (ys : List V), noLAll ds = true → AtAll H ds ys → AtAll H' ds ys
  | [], _, _, h => by unfold AtAll at h ⊢; exact h
  | d :: ds, ys, n, h => by
    unfold AtAll at h ⊢
    obtain ⟨x, r, e, h1, h2⟩ := h
    have n' : noL d = true ∧ noLAll ds = true := by simpa [noLAll] using n
    exact ⟨x, r, e, At.tupS k d x n'.1 h1, AtAll.tupS k ds r n'.2 h2⟩
end
/-- a thing that may be a key: a tuple of numbers and of such tuples -/
structure KeyOk (d : PyData) : Prop where
  t : ∃ ds, d = .tuple ds
  k : ndK d = true
  dp : d.depth ≤ 8
def ndE (x : PyData × Addr × Value) : DictEntry := ⟨hashD x.1, .ref x.2.1, x.2.2⟩
def NdP (a : Addr) (xs : List (PyData × Addr × Value)) (h : Heap) : Prop := ∃ o es ep, h.get? a = some o ∧ o.ExactDict ∧ o.data = .dict es ep ∧ es.toList = xs.map ndE ∧ (xs.map (·.1)).Nodup ∧ xs.length ≤ sizeLine ∧ (a == sysModules) = false
def NdO (a : Addr) (xs : List (PyData × Addr × Value)) : HO := .ext (NdP a xs)
/-- the dict at a: these keys and what stands there, in their order -/
def NdAt (H : Hp) (a : Addr) (kvs : List (PyData × V)) : Prop := ∃ xs, H a = some (NdO a xs) ∧ Paired (fun (p : PyData × V) (q : PyData × Addr × Value) => p.1 = q.1 ∧ KeyOk p.1 ∧ At H p.1 (.ref q.2.1) ∧ RelV p.2 q.2.2) kvs xs
theorem NdAt.keep {H H' : Hp} {a : Addr} {kvs : List (PyData × V)} (n : NdAt H a kvs) (ha : H' a = H a) (k : ∀ b xs, H b = some (.tup xs) → H' b = some (.tup xs)) : NdAt H' a kvs := by
  obtain ⟨xs, e, r⟩ := n
  exact ⟨xs, ha.trans e, Paired.mapP r fun _ _ z => ⟨z.1, z.2.1, At.tupS k _ _ (ndK_cl _ z.2.1.k).2.2 z.2.2.1, z.2.2.2⟩⟩
theorem NdAt.same {H H' : Hp} {a : Addr} {kvs : List (PyData × V)} (n : NdAt H a kvs) (s : Same H H') : NdAt H' a kvs := by
  obtain ⟨xs, e, r⟩ := id n
  exact n.keep ((s _ _ e).trans e.symm) fun b xs h => s _ _ h
theorem NdAt.ext {H : Hp} {a : Addr} {kvs : List (PyData × V)} (n : NdAt H a kvs) : ∃ φ, H a = some (.ext φ) := by
  obtain ⟨xs, e, _⟩ := n
  exact ⟨_, e⟩
abbrev KN (H : Hp) : List (PyData × V) → List (PyData × Addr × Value) → Prop := Paired fun p q => p.1 = q.1 ∧ KeyOk p.1 ∧ At H p.1 (.ref q.2.1) ∧ RelV p.2 q.2.2
theorem KN.val {H : Hp} {kvs : List (PyData × V)} {xs : List (PyData × Addr × Value)} (r : KN H kvs xs) (k : PyData) : RelO (valV kvs k) ((atKey xs k).map (·.2)) := by
  induction r with
  | nil => exact True.intro
  | @cons p q ps qs h t ih =>
    obtain ⟨h1, _, _, h2⟩ := h
    by_cases e : p.1 = k
    · have e' : q.1 = k := h1.symm.trans e
      have b : atKey (q :: qs) k = some q.2 := by simp [atKey, List.find?_cons, e']
      rw [valV_pos e, b]; exact h2
    · have e' : ¬ q.1 = k := fun z => e (h1.trans z)
      have b : atKey (q :: qs) k = atKey qs k := by simp [atKey, List.find?_cons, e']
      rw [valV_neg e, b]; exact ih
theorem KN.repl {H : Hp} {kvs : List (PyData × V)} {xs : List (PyData × Addr × Value)} (r : KN H kvs xs) (k : PyData) {y : V} {u : Value} (ry : RelV y u) :
    KN H (kvs.map fun kv => if kv.1 = k then (kv.1, y) else kv) (xs.map (putAt k u)) := by
  induction r with
  | nil => exact .nil
  | @cons p q ps qs h t ih =>
    rw [List.map_cons, List.map_cons]
    refine .cons ?_ ih
    obtain ⟨h1, h2, h4, h3⟩ := h
    unfold putAt
    by_cases e : p.1 = k
    · rw [if_pos e, if_pos (h1.symm.trans e)]; exact ⟨h1, h2, h4, ry⟩
    · rw [if_neg e, if_neg (fun z => e (h1.trans z))]; exact ⟨h1, h2, h4, h3⟩
theorem KN.put {H : Hp} {kvs : List (PyData × V)} {xs : List (PyData × Addr × Value)} (r : KN H kvs xs) {k : PyData} {b : Addr} {y : V} {u : Value} (hk : KeyOk k) (hb : At H k (.ref b)) (ry : RelV y u) :
    KN H (putK kvs k y) (storedH xs k b u) := by
  have e : (kvs.any fun kv => decide (kv.1 = k)) = (atKey xs k).isSome := by
    rw [valV_any, (r.val k).isSome_eq, Option.isSome_map]
  unfold putK storedH
  rw [e]
  by_cases q : (atKey xs k).isSome = true
  · rw [if_pos q, if_pos q]; exact r.repl k ry
  · rw [if_neg q, if_neg q]; exact Paired.snoc r ⟨rfl, hk, hb, ry⟩
section
variable {X : Cx} {pins : List (Addr × Obj)} {σ : St} {H : Hp} {s : Shared} {a : Addr} {kvs : List (PyData × V)}
/-- what is asked of a key -/
def KeyAt (H : Hp) (d : PyData) (y : V) : Prop := KeyOk d ∧ At H d y
theorem KeyAt.ref {d : PyData} {y : V} {u : Value} (k : KeyAt H d y) (r : RelV y u) : ∃ b, y = .ref b ∧ u = .ref b := by
  obtain ⟨⟨⟨ds, rfl⟩, _, _⟩, h⟩ := k
  unfold At at h
  obtain ⟨b, _, rfl, _, _⟩ := h
  exact ⟨b, rfl, r⟩
/-- the heap behind a[y] = v -/
def NdPut (H : Hp) (a : Addr) (kvs : List (PyData × V)) (d : PyData) (v : V) (H' : Hp) : Prop := (∃ φ, H' = upd H a (.ext φ)) ∧ NdAt H' a (putK kvs d v)
theorem NdPut.tup {H H' : Hp} {a : Addr} {kvs : List (PyData × V)} {d : PyData} {v : V} (n : NdAt H a kvs) (p : NdPut H a kvs d v H') : ∀ b xs, H b = some (.tup xs) → H' b = some (.tup xs) := fun b xs h => by
  obtain ⟨⟨φ, rfl⟩, _⟩ := p
  obtain ⟨ψ, e⟩ := n.ext
  have nb : b ≠ a := fun z => by rw [z, e] at h; cases h
  rw [upd_ne nb]; exact h
theorem NdPut.lst {H H' : Hp} {a : Addr} {kvs : List (PyData × V)} {d : PyData} {v : V} (n : NdAt H a kvs) (p : NdPut H a kvs d v H') : ∀ b xs, H b = some (.lst xs) → H' b = some (.lst xs) := fun b xs h => by
  obtain ⟨⟨φ, rfl⟩, _⟩ := p
  obtain ⟨ψ, e⟩ := n.ext
  have nb : b ≠ a := fun z => by rw [z, e] at h; cases h
  rw [upd_ne nb]; exact h
theorem NdPut.at {H H' : Hp} {a : Addr} {kvs : List (PyData × V)} {d e : PyData} {v u : V} (n : NdAt H a kvs) (p : NdPut H a kvs d v H') (h : noL e = true) (x : At H e u) : At H' e u := At.tupS (NdPut.tup n p) _ _ h x
theorem NdPut.same {H H' : Hp} {a : Addr} {kvs : List (PyData × V)} {d : PyData} {v : V} {H0 : Hp} (p : NdPut H a kvs d v H') (s : Same H0 H) (f : H0 a = none) : Same H0 H' := by
  obtain ⟨⟨φ, rfl⟩, _⟩ := p
  exact s.updN f
end
section
variable {X : Cx}
end
end L2
namespace L2
open PySem PySem.Spec PyProof.Rows
section
variable {X : Cx}
end
/-- for k in range(i, j), reckoned with a change of the heap -/
def FK2 (g : TG) (tb : TS) (D : Ends) (σ : St) (vs : List V) (H1 : Hp) : Prop := ∃ i j : Int, vs = [.int i, .int j] ∧ (-(2 ^ 62) ≤ i ∧ i < 2 ^ 62 ∧ -(2 ^ 62) ≤ j ∧ j < 2 ^ 62) ∧ ∃ W : Nat → Nat → St → Hp → Prop, (∃ m, W 0 m σ H1) ∧ ∀ k m σ H, W k m σ H →
  ((Itr i (j - i).toNat).stop k H ∧ D.nx σ H) ∨ ((Itr i (j - i).toNat).go k H ∧ ∃ N : St → Hp → Prop, (∀ σ' H', N σ' H' → ∃ m', m' < m ∧ W (k + 1) m' σ' H') ∧ ∀ x H', (Itr i (j - i).toNat).yld k H x H' → g x σ H' fun σ2 H2 => tb { D with nx := N, ct := N, bk := D.nx } σ2 H2)
theorem FK2.of {g : TG} {tb : TS} {D : Ends} {σ : St} {H : Hp} {n : Nat} {i j : Int} (hi : -1000000 ≤ i ∧ i ≤ 1000000) (hj : -1000000 ≤ j ∧ j ≤ 1000000) (en : (j - i).toNat = n) (Pv : Nat → St → Hp → Prop) (h0 : Pv 0 σ H)
    (hs : ∀ k σ H, k < n → Pv k σ H → g (.int (i + (k : Nat))) σ H fun σ2 H2 => tb { D with nx := Pv (k + 1), ct := Pv (k + 1), bk := D.nx } σ2 H2) (hd : ∀ σ H, Pv n σ H → D.nx σ H) : FK2 g tb D σ [.int i, .int j] H := by
  refine ⟨i, j, rfl, by omega, ?_⟩
  rw [en]
  exact for_range Pv h0 hs hd
/-- a comprehension with a test over a list that is made on the way -/
def GCK (K : PySem.W.Frag) (nt : Nat) (js : List Nat) (g : TG) (tc : TT) (te : TE) (σ : St) (Q : VK) (x : V) (H1 : Hp) : Prop := tCompG nt js (iList K fun _ H R => R x H) g tc te σ H1 Q
theorem tCompG_lst {K : PySem.W.Frag} {nt : Nat} {js : List Nat} {tl : TE} {g : TG} {tc : TT} {te : TE} {σ : St} {H : Hp} {Q : VK} : tCompG nt js (iList K tl) g tc te σ H Q = tl σ H (GCK K nt js g tc te σ Q) := rfl
end L2
namespace K64
open PySem L2
def top (i : Nat) : Stmt := PySem.Challenge.pw_waithands_k64_loads_that_break.main.body.getD i (.Pass ⟨0, 0, 0, 0⟩)
abbrev s_is_whole : Stmt := top 6
abbrev s_is_from : Stmt := top 7
abbrev s_wish : Stmt := top 9
abbrev s_rule_wish : Stmt := top 10
abbrev s_row_says : Stmt := top 11
abbrev s_hands_of : Stmt := top 14
abbrev s_beat : Stmt := top 16
abbrev s_since_and_look : Stmt := top 17
abbrev s_change_of : Stmt := top 18
abbrev s_with_change : Stmt := top 19
abbrev s_sent_home : Stmt := top 20
abbrev s_within : Stmt := top 22
abbrev s_spares_behind : Stmt := top 23
abbrev s_bursts_of : Stmt := top 24
abbrev s_most_next : Stmt := top 25
abbrev s_spares_left : Stmt := top 26
abbrev s_breaks : Stmt := top 28
abbrev s_after : Stmt := top 30
abbrev s_shows_broken : Stmt := top 33
abbrev s_is_load : Stmt := top 34
abbrev s_l_tape : Stmt := top 36
abbrev s_l_draw : Stmt := top 37
abbrev s_l_folded : Stmt := top 38
abbrev s_l_a_row : Stmt := top 39
abbrev s_l_a_post : Stmt := top 40
abbrev s_l_a_stand : Stmt := top 41
abbrev s_l_a_number : Stmt := top 42
abbrev s_l_great_row : Stmt := top 43
abbrev s_l_great_post : Stmt := top 44
abbrev s_l_great_stand : Stmt := top 45
abbrev s_l_row_wish : Stmt := top 46
abbrev s_l_wish : Stmt := top 47
abbrev s_l_beat : Stmt := top 48
abbrev s_l_a_load : Stmt := top 49
abbrev s_l_burst_of : Stmt := top 50
abbrev s_l_curve_of : Stmt := top 51
abbrev s_l_is_within : Stmt := top 52
abbrev s_l_due_of : Stmt := top 53
abbrev s_l_otherwise : Stmt := top 54
abbrev s_l_right : Stmt := top 55
abbrev s_law : Stmt := top 56
structure Bi (mg : Str → Option Value) : Prop where
  isinstance : mg "isinstance" = none
  int : mg "int" = none
  bool : mg "bool" = none
  max : mg "max" = none
  min : mg "min" = none
  sum : mg "sum" = none
  list : mg "list" = none
  reversed : mg "reversed" = none
  range : mg "range" = none
  tuple : mg "tuple" = none
  len : mg "len" = none
  zip : mg "zip" = none
  all : mg "all" = none
  abs : mg "abs" = none
  enumerate : mg "enumerate" = none
  repr : mg "repr" = none
structure Co (K : PySem.W.Frag) (mg : Str → Option Value) : Prop where
  WHATS : GT2 K mg "WHATS" whats
  OVER : Gs mg "OVER" "over"
  UNDER : Gs mg "UNDER" "under"
  EACH : Gs mg "EACH" "each"
  MOST_HANDS : Gi mg "MOST_HANDS" 12
  TRIPLES_SEEN : Gi mg "TRIPLES_SEEN" 3
  MOST_BEATS_SHOWN : Gi mg "MOST_BEATS_SHOWN" 600
local macro_rules | `(tactic| walk_at "rd") => `(tactic| simp only [L2.start, List.map_cons, List.map_nil, List.length_cons, List.length_nil, Nat.reduceAdd, Nat.reduceSub, List.replicate, List.cons_append, List.nil_append, List.append_nil,
  tSeq, tIfS, tRet, tRetN, tNext, tAsg, gName, tDrop, rd_var0, rd_varS, rd_gcons, rd_gnil, if_true, if_false, Bool.false_eq_true, Bool.not_true, Bool.not_false, rd_set0, rd_setS, rd_eqI, rd_neI, rd_eqS, rd_neS, rd_argI, rd_argB, rd_argII, rd_test, rd_int, rd_ii, tC, tOp, tUn, rI0, rI, rU, tTest, tAnd, tOr, tNot, tAndV, tOrV, tNotV, tIf, tCall, tCB, tCons, tNil, tB, tChain, tSl, tNoPart, tPart, gSub, tPar, tLst, tTup, tLstW, tTupW, tBM, tAug, tPar3, tAugS, ipI, tMaxD, tGT2])
section
variable {P : Program} {w : World} {K : PySem.W.Frag} {mg : Str → Option Value} {base : Heap} {f : Addr} {fd : FuncData} {k : Nat}


theorem op_fdivB {X : Cx} : OpR X (binaryOp .FloorDiv) (rI (fun _ j => 0 < j ∧ j < 10 ^ 60) fun i j => .int (i / j)) := opI fun i j _ _ _ _ _ hc q => by
  have h1 : (0 : Int) < j := hc.1
  have h2 : j < 10 ^ 60 := hc.2
  refine PyProof.Rows.floordiv_int (by omega) (by rw [Int.fdiv_eq_ediv_of_nonneg i (by omega)]; exact q) (.inl (PyProof.noPylong_of_log2 ?_))
  have : j.natAbs < 10 ^ 60 := by omega
  by_cases z : j.natAbs = 0
  · omega
  · have h3 : j.natAbs < 2 ^ 1000 := Nat.lt_trans this (by decide +kernel)
    have := (Nat.log2_lt z).mpr h3
    omega
structure RowT where
  w : Str
  s : Nat
  g : Str
  n : Int
  t : Int
def rowP (r : RowT) : PyData := .tuple [.str r.w, .int r.s, .str r.g, .int r.n, .int r.t]
def ruleP (rs : List RowT) : PyData := .tuple (rs.map rowP)
def rulesP (rss : List (List RowT)) : PyData := .tuple (rss.map ruleP)
structure RowIs (r : RowT) : Prop where
  w : r.w ∈ (["come", "done", "wait"] : List Str)
  s : 1 ≤ r.s ∧ r.s ≤ 4
  n : 0 ≤ r.n ∧ r.n ≤ 1000000000000
  e : r.g = "each" → 1 ≤ r.n
def triD (l : List Int) : PyData := .tuple (l.map .int)
def trsD (trs : List (List Int)) : PyData := .tuple (trs.map triD)
structure Newest (trs : List (List Int)) : Prop where
  n : trs.length = 4
  l : ∀ x ∈ trs, x.length = 3
def totOf (w : Str) (s : Nat) (trs : List (List Int)) : Int := ((trs.take s).map fun l => l.getD (whatIx w) 0).sum
def says (r : RowT) (h : Int) (trs : List (List Int)) : Option Int :=
  if r.g = "each" then some ((totOf r.w r.s trs + r.n * r.s - 1) / (r.n * r.s))
  else if (r.g = "over" ∧ totOf r.w r.s trs > r.n * r.s) ∨ (r.g = "under" ∧ totOf r.w r.s trs < r.n * r.s) then some (h + r.t) else none
def saidV : Option Int → V
  | none => .non
  | some i => .int i
def rwish (h : Int) (trs : List (List Int)) : List RowT → Int
  | [] => h
  | r :: rs => match says r h trs with
    | some i => i
    | none => rwish h trs rs
def topOf (h : Int) : List Int → Int
  | [] => h
  | b :: r => maxI b r
def wishI (rss : List (List RowT)) (l m h : Int) (trs : List (List Int)) : Int :=
  let x := topOf h (rss.map (rwish h trs))
  let y := if l > x then l else x
  if m < y then m else y
theorem whatIx_lt (w : Str) : whatIx w < 3 := by
  unfold whatIx
  split
  · decide
  · split <;> decide
theorem tup_ats {H : Hp} {ds : List PyData} {v : V} (h : At H (.tuple ds) v) : ∃ a xs, v = .ref a ∧ H a = some (.tup xs) ∧ AtAll H ds xs := by unfold At at h; exact h
theorem AtAll.uncons {H : Hp} {d : PyData} {ds : List PyData} {xs : List V} (h : AtAll H (d :: ds) xs) : ∃ x r, xs = x :: r ∧ At H d x ∧ AtAll H ds r := by unfold AtAll at h; exact h
theorem AtAll.unnil {H : Hp} {xs : List V} (h : AtAll H [] xs) : xs = [] := by unfold AtAll at h; exact h
theorem ats_back {G : Hp} : ∀ {cs : List Int} {xs : List V}, AtAll G (cs.map PyData.int) xs → xs = cs.map V.int
  | [], xs, h => by unfold AtAll at h; exact h
  | c :: cs, xs, h => by
    obtain ⟨x, r, rfl, h1, h2⟩ := AtAll.uncons h
    unfold At at h1
    rw [h1, ats_back h2]; rfl
theorem ats_ints {H : Hp} : ∀ cs : List Int, AtAll H (cs.map .int) (cs.map V.int)
  | [] => AtAll.nil
  | c :: cs => AtAll.cons (At.int c) (ats_ints cs)
theorem row_shape {H : Hp} {r : RowT} {v : V} (h : At H (rowP r) v) : ∃ a, v = .ref a ∧ H a = some (.tup [.str r.w, .int r.s, .str r.g, .int r.n, .int r.t]) := by
  obtain ⟨a, xs, rfl, h1, h2⟩ := tup_ats h
  obtain ⟨x1, _, rfl, a1, h2⟩ := AtAll.uncons h2
  obtain ⟨x2, _, rfl, a2, h2⟩ := AtAll.uncons h2
  obtain ⟨x3, _, rfl, a3, h2⟩ := AtAll.uncons h2
  obtain ⟨x4, _, rfl, a4, h2⟩ := AtAll.uncons h2
  obtain ⟨x5, _, rfl, a5, h2⟩ := AtAll.uncons h2
  cases AtAll.unnil h2
  unfold At at a1 a2 a3 a4 a5
  subst a1 a2 a3 a4 a5
  exact ⟨a, rfl, h1⟩
/-- a comprehension over a tuple, each of its things told a number -/
theorem comp_TI {K : PySem.W.Frag} {js : List Nat} {a : Addr} {xs : List V} {ds : List PyData} {f : Nat → Int} {tl te : TE} {σ : St} {H : Hp} {Q : VK} (hl : ∀ R : VK, R (.ref a) H → tl σ H R) (ha : H a = some (.tup xs)) (hd : AtAll H ds xs) (hz : ds.length ≤ sizeLine)
    (step : ∀ (i : Nat) x d H', Same H H' → ds[i]? = some d → At H' d x → ∀ R : VK, (∀ H'', Same H' H'' → R (.int (f i)) H'') → te (some x :: capS js σ) H' R)
    (fin : ∀ acc H', Same H H' → H' acc = some (.lst (((List.range ds.length).map f).map V.int)) → Q (.ref acc) H') : tComp js (iTup K tl) te σ H Q := by
  refine hl _ ⟨a, rfl, ⟨xs, SqT.of ha⟩, fun acc hacc => ?_⟩
  have hlen := hd.length
  refine ⟨fun i m ys H2 => m = ds.length - i ∧ i ≤ ds.length ∧ ys = ((List.range i).map f).map V.int ∧ Same H H2 ∧ H2 acc = some (.lst ys), ⟨_, rfl, Nat.zero_le _, rfl, same_new hacc _, upd_same⟩, ?_⟩
  rintro i m ys H2 ⟨rfl, hi, rfl, sm, hy⟩
  have ht : SqT K H2 a xs := SqT.of (sm _ _ ha)
  by_cases hlt : i < ds.length
  · refine .inr ⟨⟨xs, xs[i]'(by omega), ht, List.getElem?_eq_getElem (by omega)⟩, fun x H3 y => ?_⟩
    obtain ⟨e, y⟩ := y
    subst e
    obtain ⟨d, e1, e2⟩ := hd.get (y xs ht)
    refine step i x d _ sm e1 (e2.mono sm) _ fun H4 s4 => ⟨s4 _ _ hy, ?_, ds.length - (i + 1), by omega, rfl, hlt, ?_, ?_, upd_same⟩
    · rw [List.length_map, List.length_map, List.length_range]; omega
    · rw [List.range_succ]; simp
    · refine fun b o q => ?_
      have nb : b ≠ acc := ne_of_none q hacc
      rw [upd_ne nb]
      exact s4 _ _ (sm _ _ q)
  · have e : i = ds.length := by omega
    subst e
    exact .inl ⟨⟨xs, ht, by omega⟩, fin _ _ sm hy⟩
def CT (K : PySem.W.Frag) (js : List Nat) (te : TE) (σ : St) (Q : VK) (x : V) (H1 : Hp) : Prop := tComp js (iTup K (fun _ H R => R x H)) te σ H1 Q
theorem tComp_tup {K : PySem.W.Frag} {js : List Nat} {tl te : TE} {σ : St} {H : Hp} {Q : VK} : tComp js (iTup K tl) te σ H Q = tl σ H (CT K js te σ Q) := rfl
def spSays : Sp := fun vs H Q _ => ∃ (v u : V) (h : Int) (r : RowT) (trs : List (List Int)), vs = [v, .int h, u] ∧ At H (rowP r) v ∧ At H (trsD trs) u ∧ RowIs r ∧ Newest trs ∧ ∀ H', Same H H' → Q (saidV (says r h trs)) H'
theorem Says.of {v u : V} {h : Int} {r : RowT} {trs : List (List Int)} {H : Hp} {Q : VK} {E : XK} (a1 : At H (rowP r) v) (a2 : At H (trsD trs) u) (h1 : RowIs r) (h2 : Newest trs) (q : ∀ H', Same H H' → Q (saidV (says r h trs)) H') : spSays ([v, .int h, u] ++ []) H Q E := ⟨v, u, h, r, trs, rfl, a1, a2, h1, h2, q⟩
theorem sum_range_tot {trs : List (List Int)} {w : Str} {s : Nat} : ((List.range (trs.take s).length).map fun i => ((trs.take s).getD i []).getD (whatIx w) 0).sum = totOf w s trs := by
  unfold totOf
  congr 1
  generalize trs.take s = l
  apply List.ext_getElem
  · simp
  · intro i h1 h2
    simp at h1 h2
    simp [List.getD_eq_getElem?_getD, h2]
theorem sc_row_says : FnScope ["row", "hands", "newest", "what", "span", "sign", "number", "step", "place", "total", "mark"] ["row", "hands", "newest"] (defScope s_row_says) := ⟨rfl, rfl, rfl, by decide +kernel, rfl, by decide +kernel, by decide +kernel⟩
theorem ok_row_says (F : Fun K "row_says" "row_says" s_row_says f fd) (B : Bi mg) (O : Co K mg) : FnOk P w K mg base CX0 (k + 1) f fd ["row", "hands", "newest"] spSays := by
  refine F.ok sc_row_says (by rintro vs H Q E ⟨v, u, h, r, trs, rfl, _⟩; rfl) (fun cdv A outer s H vs Q E hr h => ?_)
  obtain ⟨v, u, h, r, trs, rfl, a1, a2, hR, hN, q⟩ := h
  have ND := sc_row_says.nd
  refine ⟨_, (pss_cons (ps_asg (pv 0) (pg_tup rfl (pgs_cons (pg_name (i := 3) ND rfl (by first | exact Or.inl rfl | exact Or.inr rfl)) (pgs_cons (pg_name (i := 4) ND rfl (by first | exact Or.inl rfl | exact Or.inr rfl)) (pgs_cons (pg_name (i := 5) ND rfl (by first | exact Or.inl rfl | exact Or.inr rfl)) (pgs_cons (pg_name (i := 6) ND rfl (by first | exact Or.inl rfl | exact Or.inr rfl)) (pgs_cons (pg_name (i := 7) ND rfl (by first | exact Or.inl rfl | exact Or.inr rfl)) pgs_nil))))))) (pss_cons (ps_set (i := 8) ND rfl (by first | exact Or.inl rfl | exact Or.inr rfl) (pe_bm PySem.F.plainAttrs_tuple PySem.F.slot_tuple_index PySem.F.type_tuple_index (mt_tindex (K := K) rfl) (pglobT2 (K := K) rfl O.WHATS) (pa_c (pv 3) pa_nil))) (pss_cons (ps_set (i := 9) ND rfl (by first | exact Or.inl rfl | exact Or.inr rfl) (pb (call_sumI rfl) B.sum bt_sum (pa_c (pe_comp (N' := ["triple", "place"]) (js := [8]) rfl (pi_tup (pe_slice sl_tupW (pv 2) po_none (po_some (pv 4)))) CSc.mk1 rfl (by decide) rfl (fun fp s' H' => (pe_ix ix_obj (pv 0) (pv 1) (fun _ _ => rfl)))) pa_nil))) (pss_cons (ps_set (i := 10) ND rfl (by first | exact Or.inl rfl | exact Or.inr rfl) (pe_op op_mul (pv 6) (pv 4))) (pss_cons (ps_if (pt_cmpR op_eq (pv 5) (pglobS O.EACH) (nomark _)) (pss_one (ps_ret (pe_op op_fdivB (pe_op op_sub (pe_op op_add (pv 9) (pv 10)) pe_int) (pv 10)))) pss_nil) (pss_cons (ps_if (PW.pt (pw_or (PW.pt (pw_and (pt_cmpR op_eq (pv 5) (pglobS O.OVER) (nomark _)) (pw_and1 (pt_cmpR op_gt (pv 9) (pv 10) (nomark _))))) (pw_or1 (PW.pt (pw_and (pt_cmpR op_eq (pv 5) (pglobS O.UNDER) (nomark _)) (pw_and1 (pt_cmpR op_lt (pv 9) (pv 10) (nomark _)))))))) (pss_one (ps_ret (pe_op op_add (pv 1) (pv 7)))) pss_nil) (pss_one (ps_ret pe_non)))))))), ?_⟩
  obtain ⟨a, rfl, h1⟩ := row_shape a1
  obtain ⟨b, xs, rfl, h2, h3⟩ := tup_ats a2
  walk_at "rd"
  refine ⟨a, _, rfl, SqT.of h1, rfl, ?_⟩
  walk_at "rd"
  intro aw ho hw
  refine ⟨.inr (.inl ⟨rfl, ho⟩), aw, r.w, rfl, hw _, rfl, hR.w, ?_⟩
  show tComp _ _ _ _ _ _
  rw [tComp_tup]
  walk_at "rd"
  refine ⟨b, xs, rfl, h2, fun p H1 s1 e1 => ?_⟩
  rw [cut_to (by omega), Int.toNat_natCast] at e1
  have h3' : AtAll H1 ((trs.take r.s).map triD) (xs.take r.s) := by rw [List.map_take]; exact (h3.take r.s).mono s1
  have hs4 := hR.s
  have htl : (trs.take r.s).length ≤ 4 := by rw [List.length_take]; omega
  refine comp_TI (a := p) (f := fun i => ((trs.take r.s).getD i []).getD (whatIx r.w) 0) (fun R hR => hR) e1 h3' (Nat.le_of_lt (small1000 (by rw [List.length_map]; omega))) (fun i x d H' s' ed hx R hR' => ?_) (fun acc H' s' hl => ?_)
  · rw [List.getElem?_map] at ed
    obtain ⟨l, el, rfl⟩ := Option.map_eq_some_iff.mp ed
    have l3 : l.length = 3 := hN.l l (List.mem_of_mem_take (List.mem_of_getElem? el))
    obtain ⟨c, ys, rfl, g1, g2⟩ := tup_ats hx
    cases ats_back g2
    show tOp _ _ _ [some _, some (.int (whatIx r.w : Nat))] H' R
    walk_at "rd"
    have hw := whatIx_lt r.w
    refine Ix.tup g1 (v := .int (l.getD (whatIx r.w) 0)) (atI_nat (by rw [List.getElem?_map, List.getElem?_eq_getElem (by omega), List.getD_eq_getElem?_getD, List.getElem?_eq_getElem (by omega)]; rfl)) ?_
    have := hR' H' (Same.refl H')
    have eg : (trs.take r.s).getD i [] = l := by rw [List.getD_eq_getElem?_getD, el]; rfl
    rw [eg] at this
    exact this
  · have sm := s1.trans s'
    rw [List.length_map] at hl
    refine ⟨acc, _, rfl, .inl hl, .inl (by have := hR.n; omega), ?_⟩
    rw [sum_range_tot]
    have q1 := q H' sm
    unfold says at q1
    refine and_if (fun c1 => ?_) (fun c1 => ?_)
    · have c1' := of_decide_eq_true c1
      rw [if_pos c1'] at q1
      have h1n := hR.e c1'
      have hpos : 0 < r.n * (r.s : Int) := Int.mul_pos (by omega) (by omega)
      have hup : r.n * (r.s : Int) ≤ 1000000000000 * 4 := Int.mul_le_mul hR.n.2 (by omega) (by omega) (by decide)
      exact ⟨⟨hpos, Int.lt_of_le_of_lt hup (by decide)⟩, q1⟩
    · have c1' := of_decide_eq_false c1
      rw [if_neg c1'] at q1
      generalize totOf r.w r.s trs = tot at q1 ⊢
      generalize r.n * (r.s : Int) = mark at q1 ⊢
      by_cases o1 : r.g = "over"
      · have u1 : ¬ r.g = "under" := by rw [o1]; decide +kernel
        rw [decide_eq_true o1, if_pos rfl]
        by_cases o2 : mark < tot
        · rw [decide_eq_true o2, if_pos rfl]
          rw [if_pos (.inl ⟨o1, o2⟩)] at q1; exact q1
        · rw [decide_eq_false o2, if_neg (by decide), decide_eq_false u1, if_neg (by decide)]
          rw [if_neg (fun z => by rcases z with z | z; exact o2 z.2; exact u1 z.1)] at q1; exact q1
      · rw [decide_eq_false o1, if_neg (by decide)]
        by_cases u1 : r.g = "under"
        · rw [decide_eq_true u1, if_pos rfl]
          by_cases o2 : tot < mark
          · rw [decide_eq_true o2, if_pos rfl]
            rw [if_pos (.inr ⟨u1, o2⟩)] at q1; exact q1
          · rw [decide_eq_false o2, if_neg (by decide)]
            rw [if_neg (fun z => by rcases z with z | z; exact o1 z.1; exact o2 z.2)] at q1; exact q1
        · rw [decide_eq_false u1, if_neg (by decide)]
          rw [if_neg (fun z => by rcases z with z | z; exact o1 z.1; exact u1 z.1)] at q1; exact q1
def spRw : Sp := fun vs H Q _ => ∃ (v u : V) (h : Int) (rs : List RowT) (trs : List (List Int)), vs = [v, .int h, u] ∧ At H (ruleP rs) v ∧ At H (trsD trs) u ∧ (∀ r ∈ rs, RowIs r) ∧ Newest trs ∧ ∀ H', Same H H' → Q (.int (rwish h trs rs)) H'
theorem Rw.of {v u : V} {h : Int} {rs : List RowT} {trs : List (List Int)} {H : Hp} {Q : VK} {E : XK} (a1 : At H (ruleP rs) v) (a2 : At H (trsD trs) u) (h1 : ∀ r ∈ rs, RowIs r) (h2 : Newest trs) (q : ∀ H', Same H H' → Q (.int (rwish h trs rs)) H') : spRw ([v, .int h, u] ++ []) H Q E := ⟨v, u, h, rs, trs, rfl, a1, a2, h1, h2, q⟩
theorem sc_rule_wish : FnScope ["rule", "hands", "newest", "row", "said"] ["rule", "hands", "newest"] (defScope s_rule_wish) := ⟨rfl, rfl, rfl, by decide +kernel, rfl, by decide +kernel, by decide +kernel⟩
theorem ok_rule_wish (F : Fun K "rule_wish" "rule_wish" s_rule_wish f fd) (c_row_says : Ct P w K mg base k "row_says" ["row", "hands", "newest"] spSays) : FnOk P w K mg base CX0 (k + 1) f fd ["rule", "hands", "newest"] spRw := by
  refine F.ok sc_rule_wish (by rintro vs H Q E ⟨v, u, h, r, trs, rfl, _⟩; rfl) (fun cdv A outer s H vs Q E hr h => ?_)
  obtain ⟨v, u, h, rs, trs, rfl, a1, a2, hR, hN, q⟩ := h
  have ND := sc_rule_wish.nd
  refine ⟨_, (pss_cons (ps_for PassesOwn.never rfl (pi_tup (pv 0)) (pg_name (i := 3) ND rfl (by first | exact Or.inl rfl | exact Or.inr rfl)) (pss_cons (ps_set (i := 4) ND rfl (by first | exact Or.inl rfl | exact Or.inr rfl) (pf c_row_says hr (pa_c (pv 3) (pa_c (pv 1) (pa_c (pv 2) pa_nil))))) (pss_one (ps_if (pt_cmpR op_notN (pv 4) pe_non (nomark _)) (pss_one (ps_ret (pv 4))) pss_nil)))) (pss_one (ps_ret (pv 1)))), ?_⟩
  obtain ⟨a, xs, rfl, h1, h2⟩ := tup_ats a1
  have hlen := h2.length
  rw [List.length_map] at hlen
  walk_at "rd"
  rw [tFor_tup]
  walk_at "rd"
  refine TK.of h1 (fun n σ H' => ∃ o1 o2, σ = [some (.ref a), some (.int h), some u, o1, o2] ∧ Same H H' ∧ rwish h trs (rs.drop n) = rwish h trs rs) ⟨_, _, rfl, Same.refl H, rfl⟩ (fun n σ H' _ ⟨o1, o2, _, sm, _⟩ => sm _ _ h1) ?_ ?_
  · rintro n x σ H1 hx ⟨o1, o2, rfl, sm, e⟩
    obtain ⟨d, e1, e2⟩ := h2.get hx
    rw [List.getElem?_map] at e1
    obtain ⟨r, er, rfl⟩ := Option.map_eq_some_iff.mp e1
    have hn : n < rs.length := by
      obtain ⟨z, _⟩ := List.getElem?_eq_some_iff.mp er; exact z
    have ed : rs.drop n = r :: rs.drop (n + 1) := by
      rw [List.drop_eq_getElem_cons hn]
      obtain ⟨z, ez⟩ := List.getElem?_eq_some_iff.mp er
      rw [ez]
    rw [ed, rwish] at e
    walk_at "rd"
    refine Says.of (e2.mono sm) (a2.mono sm) (hR r (List.mem_of_getElem? er)) hN fun H2 s2 => ?_
    have s2 := sm.trans s2
    cases es : says r h trs with
    | none =>
      rw [es] at e
      refine ⟨trivial, ?_⟩
      exact ⟨_, _, rfl, s2, e⟩
    | some i =>
      rw [es] at e
      refine ⟨trivial, ?_⟩
      have e : i = rwish h trs rs := e
      show Q (.int i) H2
      rw [e]; exact q H2 s2
  · rintro σ H1 ⟨o1, o2, rfl, sm, e⟩
    walk_at "rd"
    rw [hlen, List.drop_length] at e
    have e : h = rwish h trs rs := e
    rw [e]
    have := q H1 sm
    rw [← e] at this ⊢
    exact this
def postP (d0 d1 d3 d4 d5 : PyData) (l m : Int) (rss : List (List RowT)) : PyData := .tuple [d0, d1, .tuple [.int l, .int m], d3, d4, d5, rulesP rss]
def spWish : Sp := fun vs H Q _ => ∃ (v u : V) (h l m : Int) (d0 d1 d3 d4 d5 : PyData) (rss : List (List RowT)) (trs : List (List Int)), vs = [v, .int h, u] ∧ At H (postP d0 d1 d3 d4 d5 l m rss) v ∧ At H (trsD trs) u ∧ (∀ rs ∈ rss, ∀ r ∈ rs, RowIs r) ∧ rss.length ≤ 100 ∧ Newest trs ∧
  ∀ H', Same H H' → Q (.int (wishI rss l m h trs)) H'
theorem sc_wish : FnScope ["post", "hands", "newest", "least", "most", "wishes", "wished"] ["post", "hands", "newest"] (defScope s_wish) := ⟨rfl, rfl, rfl, by decide +kernel, rfl, by decide +kernel, by decide +kernel⟩
theorem ok_wish (F : Fun K "wish" "wish" s_wish f fd) (B : Bi mg) (c_rule_wish : Ct P w K mg base k "rule_wish" ["rule", "hands", "newest"] spRw) : FnOk P w K mg base CX0 (k + 1) f fd ["post", "hands", "newest"] spWish := by
  refine F.ok sc_wish (by rintro vs H Q E ⟨v, u, h, l, m, d0, d1, d3, d4, d5, rss, trs, rfl, _⟩; rfl) (fun cdv A outer s H vs Q E hr h => ?_)
  obtain ⟨v, u, h, l, m, d0, d1, d3, d4, d5, rss, trs, rfl, a1, a2, hR, hn, hN, q⟩ := h
  have ND := sc_wish.nd
  refine ⟨_, (pss_cons (ps_asg (pe_ix ix_obj (pv 0) pe_int (fun _ _ => rfl)) (pg_tup rfl (pgs_cons (pg_name (i := 3) ND rfl (by first | exact Or.inl rfl | exact Or.inr rfl)) (pgs_cons (pg_name (i := 4) ND rfl (by first | exact Or.inl rfl | exact Or.inr rfl)) pgs_nil)))) (pss_cons (ps_comp (i := 5) ND rfl (by first | exact Or.inl rfl | exact Or.inr rfl) (N' := ["rule", "hands", "newest"]) (js := [1, 2]) rfl (pi_tup (pe_ix ix_obj (pv 0) pe_int (fun _ _ => rfl))) CSc.mk2 rfl (by decide) rfl (fun fp s' H' => (pf c_rule_wish hr (pa_c (pv 0) (pa_c (pv 1) (pa_c (pv 2) pa_nil)))))) (pss_cons (ps_set (i := 6) ND rfl (by first | exact Or.inl rfl | exact Or.inr rfl) (pe_maxD rfl B.max (pa_c (pv 5) pa_nil) (pv 1))) (pss_one (ps_ret (pb (call_min2 rfl) B.min bt_min (pa_c (pb (call_max2 rfl) B.max bt_max (pa_c (pv 6) (pa_c (pv 3) pa_nil))) (pa_c (pv 4) pa_nil)))))))), ?_⟩
  obtain ⟨a, xs, rfl, h1, h2⟩ := tup_ats a1
  obtain ⟨x0, _, rfl, b0, h2⟩ := AtAll.uncons h2
  obtain ⟨x1, _, rfl, b1, h2⟩ := AtAll.uncons h2
  obtain ⟨x2, _, rfl, b2, h2⟩ := AtAll.uncons h2
  obtain ⟨x3, _, rfl, b3, h2⟩ := AtAll.uncons h2
  obtain ⟨x4, _, rfl, b4, h2⟩ := AtAll.uncons h2
  obtain ⟨x5, _, rfl, b5, h2⟩ := AtAll.uncons h2
  obtain ⟨x6, _, rfl, b6, h2⟩ := AtAll.uncons h2
  cases AtAll.unnil h2
  obtain ⟨c, ys, rfl, g1, g2⟩ := tup_ats b2
  obtain ⟨y0, _, rfl, k0, g2⟩ := AtAll.uncons g2
  obtain ⟨y1, _, rfl, k1, g2⟩ := AtAll.uncons g2
  cases AtAll.unnil g2
  unfold At at k0 k1
  subst k0 k1
  obtain ⟨e, zs, rfl, m1, m2⟩ := tup_ats b6
  walk_at "rd"
  refine Ix.tup h1 (atI_nat (j := 2) rfl) ⟨c, _, rfl, SqT.of g1, rfl, ?_⟩
  walk_at "rd"
  rw [tComp_tup]
  walk_at "rd"
  refine Ix.tup h1 (atI_nat (j := 6) rfl) ?_
  refine comp_TI (a := e) (f := fun i => rwish h trs (rss.getD i [])) (fun R hR => hR) m1 m2 (Nat.le_of_lt (small1000 (by rw [List.length_map]; omega))) (fun i x d H' s' ed hx R hR' => ?_) (fun acc H' s' hl => ?_)
  · rw [List.getElem?_map] at ed
    obtain ⟨rs, el, rfl⟩ := Option.map_eq_some_iff.mp ed
    show tCall _ _ _ _ [some x, some (.int h), some u] H' R
    walk_at "rd"
    refine Rw.of hx (a2.mono s') (hR rs (List.mem_of_getElem? el)) hN fun H2 s2 => ?_
    have := hR' H2 s2
    have eg : rss.getD i [] = rs := by rw [List.getD_eq_getElem?_getD, el]; rfl
    rw [eg] at this
    exact this
  · rw [List.length_map] at hl
    have el : (List.range rss.length).map (fun i => rwish h trs (rss.getD i [])) = rss.map (rwish h trs) := by
      apply List.ext_getElem
      · simp
      · intro i h1 h2
        simp at h1 h2
        simp [List.getD_eq_getElem?_getD, h2]
    rw [el] at hl
    have q1 := q H' s'
    unfold wishI topOf at q1
    refine ⟨acc, _, rfl, hl, fun en => ?_, fun b r er => ?_⟩
    · rw [en] at q1
      exact q1
    · rw [er] at q1
      exact q1
def spHands : Sp := fun vs H Q _ => ∃ (v x : V) (a : Addr) (r : Int) (b : Addr) (ns : List Int) (u : List V), v = .ref a ∧ vs = [v] ∧ H a = some (.tup (x :: .int r :: .ref b :: u)) ∧ H b = some (.tup (ns.map V.int)) ∧ Q (.int (r + ns.sum)) H
theorem sc_hands_of : FnScope ["stand"] ["stand"] (defScope s_hands_of) := ⟨rfl, rfl, rfl, by decide +kernel, rfl, by decide +kernel, by decide +kernel⟩
theorem ok_hands_of (F : Fun K "hands_of" "hands_of" s_hands_of f fd) (B : Bi mg) : FnOk P w K mg base CX0 (k + 1) f fd ["stand"] spHands := by
  refine F.ok sc_hands_of (by rintro vs H Q E ⟨v, x, a, r, b, ns, u, _, rfl, _⟩; rfl) (fun cdv A outer s H vs Q E hr h => ?_)
  obtain ⟨v, x, a, r, b, ns, u, rfl, rfl, h1, h2, q⟩ := h
  have ND := sc_hands_of.nd
  refine ⟨_, (pss_one (ps_ret (pe_op op_add (pe_ix ix_obj (pv 0) pe_int (fun _ _ => rfl)) (pb (call_sumI rfl) B.sum bt_sum (pa_c (pe_ix ix_obj (pv 0) pe_int (fun _ _ => rfl)) pa_nil))))), ?_⟩
  walk_at "rd"
  refine ⟨a, _, 1, _, rfl, rfl, .inr h1, atI_nat (j := 1) rfl, ?_⟩
  refine ⟨a, _, 2, _, rfl, rfl, .inr h1, atI_nat (j := 2) rfl, ?_⟩
  refine ⟨b, ns, rfl, .inr h2, ?_⟩
  exact ⟨_, _, rfl, rfl, q⟩
theorem get_list {X : Cx} : PGet X (fun o i H Q => ∃ (p : Addr) (xs : List V) (j : Nat) (v : V), o = .ref p ∧ i = .int j ∧ H p = some (.lst xs) ∧ xs[j]? = some v ∧ Q v H) := by
  intro pins s σ H o i ov iv Q I ro ri h
  obtain ⟨p, xs, j, v, rfl, rfl, hp, hv, q⟩ := h
  cases ro
  obtain ⟨t, rfl⟩ := ri
  obtain ⟨its, r, pl, hz⟩ := I.list (SqL.of (K := X.K) hp)
  obtain ⟨w, ew, rw'⟩ := r.get hv
  have hl := r.length
  have hn := line63
  have hj : j < xs.length := by obtain ⟨z, _⟩ := List.getElem?_eq_some_iff.mp hv; exact z
  exact wpAny_getItem_list pl.isList (by omega) (by omega) (by simpa using ew) ⟨v, H, I, rw', q⟩
theorem ixN_nat {n j : Nat} (h : j < n) : ixN n (j : Int) = some j := by
  unfold ixN
  rw [if_pos (by omega), if_pos (by omega), Int.toNat_natCast]
/-- a stand -/
structure Stn where
  w : Int
  r : Int
  cs : List Int
  s : Int
  t : Int
  us : List (List Int)
def stD (x : Stn) : PyData := .tuple [.int x.w, .int x.r, .tuple (x.cs.map .int), .int x.s, .int x.t, .tuple (x.us.map triD)]
structure StIs (x : Stn) : Prop where
  c : x.cs.length = 5
  u : x.us.length = 3
  l : ∀ y ∈ x.us, y.length = 3
/-- a post: pace, room, (least, most), late, every, (up, down), rules -/
structure Pst where
  p : Int
  m : Int
  lo : Int
  hi : Int
  a : Nat
  e : Int
  u : Int
  d : Int
  rss : List (List RowT)
def pstD (x : Pst) : PyData := postP (.int x.p) (.int x.m) (.int x.a) (.int x.e) (.tuple [.int x.u, .int x.d]) x.lo x.hi x.rss
structure PsIs (x : Pst) : Prop where
  a : x.a ≤ 4
  p : 0 ≤ x.p ∧ x.p ≤ 1000000
  n : x.rss.length ≤ 100
  g : ∀ rs ∈ x.rss, ∀ r ∈ rs, RowIs r
theorem pst_shape {H : Hp} {x : Pst} {v : V} (h : At H (pstD x) v) : ∃ a b c d, v = .ref a ∧ H a = some (.tup [.int x.p, .int x.m, .ref b, .int x.a, .int x.e, .ref c, .ref d]) ∧ H c = some (.tup [.int x.u, .int x.d]) := by
  obtain ⟨a, xs, rfl, h1, h2⟩ := tup_ats h
  obtain ⟨x0, _, rfl, b0, h2⟩ := AtAll.uncons h2
  obtain ⟨x1, _, rfl, b1, h2⟩ := AtAll.uncons h2
  obtain ⟨x2, _, rfl, b2, h2⟩ := AtAll.uncons h2
  obtain ⟨x3, _, rfl, b3, h2⟩ := AtAll.uncons h2
  obtain ⟨x4, _, rfl, b4, h2⟩ := AtAll.uncons h2
  obtain ⟨x5, _, rfl, b5, h2⟩ := AtAll.uncons h2
  obtain ⟨x6, _, rfl, b6, h2⟩ := AtAll.uncons h2
  cases AtAll.unnil h2
  unfold At at b0 b1 b3 b4
  subst b0 b1 b3 b4
  obtain ⟨b, ys, rfl, _, _⟩ := tup_ats b2
  obtain ⟨c, zs, rfl, g1, g2⟩ := tup_ats b5
  obtain ⟨d, ws, rfl, _, _⟩ := tup_ats b6
  obtain ⟨y0, _, rfl, k0, g2⟩ := AtAll.uncons g2
  obtain ⟨y1, _, rfl, k1, g2⟩ := AtAll.uncons g2
  cases AtAll.unnil g2
  unfold At at k0 k1
  subst k0 k1
  exact ⟨a, b, c, d, rfl, h1, g1⟩
theorem stn_shape {H : Hp} {x : Stn} {v : V} (h : At H (stD x) v) : ∃ a b c, v = .ref a ∧ H a = some (.tup [.int x.w, .int x.r, .ref b, .int x.s, .int x.t, .ref c]) ∧ H b = some (.tup (x.cs.map V.int)) ∧ At H (.tuple (x.us.map triD)) (.ref c) := by
  obtain ⟨a, xs, rfl, h1, h2⟩ := tup_ats h
  obtain ⟨x0, _, rfl, b0, h2⟩ := AtAll.uncons h2
  obtain ⟨x1, _, rfl, b1, h2⟩ := AtAll.uncons h2
  obtain ⟨x2, _, rfl, b2, h2⟩ := AtAll.uncons h2
  obtain ⟨x3, _, rfl, b3, h2⟩ := AtAll.uncons h2
  obtain ⟨x4, _, rfl, b4, h2⟩ := AtAll.uncons h2
  obtain ⟨x5, _, rfl, b5, h2⟩ := AtAll.uncons h2
  cases AtAll.unnil h2
  unfold At at b0 b1 b3 b4
  subst b0 b1 b3 b4
  obtain ⟨b, ys, rfl, g1, g2⟩ := tup_ats b2
  cases ats_back g2
  obtain ⟨c, zs, rfl, _, _⟩ := tup_ats b5
  exact ⟨a, b, c, rfl, h1, g1, b5⟩
def sinceI (e s : Int) : Int := if s + 1 < e then s + 1 else 0
def looksI (e s t : Int) : Bool := if s + 1 < e then false else decide (t = 0)
def spSince : Sp := fun vs H Q _ => ∃ (v : V) (x : Pst) (s t : Int), vs = [v, .int s, .int t] ∧ At H (pstD x) v ∧ ∀ p H', Same H H' → H' p = some (.tup [.int (sinceI x.e s), .bl (looksI x.e s t)]) → Q (.ref p) H'
theorem sc_since_and_look : FnScope ["post", "since", "rest", "every"] ["post", "since", "rest"] (defScope s_since_and_look) := ⟨rfl, rfl, rfl, by decide +kernel, rfl, by decide +kernel, by decide +kernel⟩
theorem ok_since_and_look (F : Fun K "since_and_look" "since_and_look" s_since_and_look f fd) : FnOk P w K mg base CX0 (k + 1) f fd ["post", "since", "rest"] spSince := by
  refine F.ok sc_since_and_look (by rintro vs H Q E ⟨v, x, s, t, rfl, _⟩; rfl) (fun cdv A outer s H vs Q E hr h => ?_)
  obtain ⟨v, x, sn, t, rfl, a1, q⟩ := h
  have ND := sc_since_and_look.nd
  refine ⟨_, (pss_cons (ps_set (i := 3) ND rfl (by first | exact Or.inl rfl | exact Or.inr rfl) (pe_ix ix_obj (pv 0) pe_int (fun _ _ => rfl))) (pss_cons (ps_if (pt_cmpR op_lt (pe_op op_add (pv 1) pe_int) (pv 3) (nomark _)) (pss_one (ps_ret (pe_tupW (pa_c (pe_op op_add (pv 1) pe_int) (pa_c pe_bl pa_nil))))) pss_nil) (pss_one (ps_ret (pe_tupW (pa_c pe_int (pa_c (pe_cmpR op_eq (pv 2) pe_int (nomark _)) pa_nil))))))), ?_⟩
  obtain ⟨a, b, c, d, rfl, h1, h2⟩ := pst_shape a1
  walk_at "rd"
  refine Ix.tup h1 (atI_nat (j := 4) rfl) ?_
  walk_at "rd"
  refine and_if (fun c1 => ?_) (fun c1 => ?_)
  · have c1' := of_decide_eq_true c1
    refine ⟨(by decide), fun p H1 f1 s1 e1 => q p H1 s1 ?_⟩
    unfold sinceI looksI
    rw [if_pos c1', if_pos c1']; exact e1
  · have c1' := of_decide_eq_false c1
    refine ⟨(by decide), fun p H1 f1 s1 e1 => q p H1 s1 ?_⟩
    unfold sinceI looksI
    rw [if_neg c1', if_neg c1']; exact e1
def changeI (x : Pst) (h fr : Int) (trs : List (List Int)) : Int := if fr < wishI x.rss x.lo x.hi h trs - h then fr else wishI x.rss x.lo x.hi h trs - h
def spChange : Sp := fun vs H Q _ => ∃ (v u : V) (x : Pst) (h fr : Int) (trs : List (List Int)), vs = [v, .int h, u, .int fr] ∧ At H (pstD x) v ∧ At H (trsD trs) u ∧ PsIs x ∧ Newest trs ∧ ∀ H', Same H H' → Q (.int (changeI x h fr trs)) H'
theorem sc_change_of : FnScope ["post", "hands", "newest", "free"] ["post", "hands", "newest", "free"] (defScope s_change_of) := ⟨rfl, rfl, rfl, by decide +kernel, rfl, by decide +kernel, by decide +kernel⟩
theorem ok_change_of (F : Fun K "change_of" "change_of" s_change_of f fd) (B : Bi mg) (c_wish : Ct P w K mg base k "wish" ["post", "hands", "newest"] spWish) : FnOk P w K mg base CX0 (k + 1) f fd ["post", "hands", "newest", "free"] spChange := by
  refine F.ok sc_change_of (by rintro vs H Q E ⟨v, u, x, h, fr, trs, rfl, _⟩; rfl) (fun cdv A outer s H vs Q E hr h => ?_)
  obtain ⟨v, u, x, h, fr, trs, rfl, a1, a2, hP, hN, q⟩ := h
  have ND := sc_change_of.nd
  refine ⟨_, (pss_one (ps_ret (pb (call_min2 rfl) B.min bt_min (pa_c (pe_op op_sub (pf c_wish hr (pa_c (pv 0) (pa_c (pv 1) (pa_c (pv 2) pa_nil)))) (pv 1)) (pa_c (pv 3) pa_nil))))), ?_⟩
  walk_at "rd"
  refine ⟨v, u, h, x.lo, x.hi, _, _, _, _, _, x.rss, trs, rfl, a1, a2, hP.g, hP.n, hN, fun H1 s1 => ?_⟩
  walk_at "rd"
  exact q H1 s1
/-- hands sent home, the last place first -/
def goHome : List Int → Int → List Int × Int
  | [], n => ([], n)
  | c :: cs, n => ((c - (if (goHome cs n).2 < c then (goHome cs n).2 else c)) :: (goHome cs n).1, (goHome cs n).2 - (if (goHome cs n).2 < c then (goHome cs n).2 else c))
theorem goHome_len : ∀ (cs : List Int) (n : Int), (goHome cs n).1.length = cs.length
  | [], _ => rfl
  | c :: cs, n => by rw [goHome, List.length_cons, List.length_cons, goHome_len cs n]
def spSent : Sp := fun vs H Q _ => ∃ (r n : Int) (b : Addr) (cs : List Int), vs = [.int r, .ref b, .int n] ∧ H b = some (.tup (cs.map V.int)) ∧ cs.length ≤ 100 ∧ ∀ p b' H', Same H H' → H' p = some (.tup [.int (r - (goHome cs n).2), .ref b']) → H' b' = some (.tup ((goHome cs n).1.map V.int)) → Q (.ref p) H'
theorem sc_sent_home : FnScope ["ready", "called", "many", "left", "place", "gone"] ["ready", "called", "many"] (defScope s_sent_home) := ⟨rfl, rfl, rfl, by decide +kernel, rfl, by decide +kernel, by decide +kernel⟩
theorem ok_sent_home (F : Fun K "sent_home" "sent_home" s_sent_home f fd) (B : Bi mg) : FnOk P w K mg base CX0 (k + 1) f fd ["ready", "called", "many"] spSent := by
  refine F.ok sc_sent_home (by rintro vs H Q E ⟨r, n, b, cs, rfl, _⟩; rfl) (fun cdv A outer s H vs Q E hr h => ?_)
  obtain ⟨r, n, b, cs, rfl, h1, hlen, q⟩ := h
  have ND := sc_sent_home.nd
  refine ⟨_, (pss_cons (ps_set (i := 3) ND rfl (by first | exact Or.inl rfl | exact Or.inr rfl) (pt (call_lstT) B.list bt_list (pa_c (pv 1) pa_nil))) (pss_cons (ps_for PassesOwn.never rfl (pi_rev B.reversed B.range (pa_c (pb (call_lenK (K := K) rfl) B.len bt_len (pa_c (pv 3) pa_nil)) pa_nil)) (pg_name (i := 4) ND rfl (by first | exact Or.inl rfl | exact Or.inr rfl)) (pss_cons (ps_set (i := 5) ND rfl (by first | exact Or.inl rfl | exact Or.inr rfl) (pb (call_min2 rfl) B.min bt_min (pa_c (pe_ix ix_obj (pv 3) (pv 4) (fun _ _ => rfl)) (pa_c (pv 2) pa_nil)))) (pss_cons (ps_augS (pv 3) (pv 4) get_list (pv 5) ip_sub set_list) (pss_one (ps_aug (i := 2) ND rfl (by first | exact Or.inl rfl | exact Or.inr rfl) (pv 5) ip_sub))))) (pss_one (ps_ret (pe_tupW (pa_c (pe_op op_sub (pv 0) (pv 2)) (pa_c (pt (call_tupL) B.tuple bt_tuple (pa_c (pv 3) pa_nil)) pa_nil))))))), ?_⟩
  walk_at "rd"
  refine ⟨b, _, rfl, h1, fun p1 f1 => ?_⟩
  have s1 := same_new f1 (HO.lst (cs.map V.int))
  have e1 : upd H p1 (HO.lst (cs.map V.int)) p1 = some (.lst (cs.map V.int)) := upd_same
  generalize upd H p1 (HO.lst (cs.map V.int)) = H1 at s1 e1 ⊢
  rw [tFor_rev]
  walk_at "rd"
  refine ⟨p1, _, rfl, .inl (SqL.of e1), ?_⟩
  rw [List.length_map]
  refine VK'.of (n := cs.length) rfl (by omega) (fun i σ H' => ∃ o4 o5 : Option V, σ = [some (.int r), some (.ref b), some (.int (goHome (cs.drop (cs.length - i)) n).2), some (.ref p1), o4, o5] ∧ H' p1 = some (.lst ((cs.take (cs.length - i) ++ (goHome (cs.drop (cs.length - i)) n).1).map V.int)) ∧ Same H H')
    ⟨_, _, by rw [Nat.sub_zero, List.drop_length]; rfl, by rw [Nat.sub_zero, List.drop_length, List.take_length]; simpa [goHome] using e1, s1⟩ ?_ ?_
  · rintro i σ H2 hi ⟨o4, o5, rfl, h2, s2⟩
    obtain ⟨j, ej⟩ : ∃ j : Nat, cs.length - i = j + 1 := ⟨cs.length - i - 1, by omega⟩
    have ej2 : cs.length - (i + 1) = j := by omega
    have ei : (cs.length : Int) - 1 - (i : Nat) = (j : Nat) := by omega
    rw [ej] at h2
    rw [ei, ej, ej2]
    have hj : j < cs.length := by omega
    have dj : cs.drop j = cs[j] :: cs.drop (j + 1) := List.drop_eq_getElem_cons hj
    have tj : cs.take (j + 1) = cs.take j ++ [cs[j]] := by rw [List.take_succ, List.getElem?_eq_getElem hj]; rfl
    rw [dj, goHome]
    generalize goHome (cs.drop (j + 1)) n = gh at h2 ⊢
    rw [tj] at h2
    generalize cs[j] = cj at h2 ⊢
    have lt : (cs.take j).length = j := by rw [List.length_take]; omega
    have gj : ((cs.take j ++ [cj] ++ gh.1).map V.int)[j]? = some (.int cj) := by
      rw [List.getElem?_map, List.append_assoc, List.getElem?_append_right (by omega), lt, Nat.sub_self]; rfl
    walk_at "rd"
    refine Ix.lst h2 (atI_nat gj) ?_
    walk_at "rd"
    refine ⟨p1, _, j, _, rfl, rfl, h2, gj, ?_⟩
    walk_at "rd"
    refine ⟨p1, _, _, j, rfl, rfl, h2, ixN_nat (by rw [List.length_map, List.length_append, List.length_append, lt]; show j < j + 1 + _; omega), ?_⟩
    refine ⟨_, rfl, _, _, rfl, rfl, _, _, rfl, ?_, fun z o w => ?_⟩
    · rw [upd_same]
      congr 2
      have e : cs.take j ++ [cj] ++ gh.1 = cs.take j ++ (cj :: gh.1) := by simp
      rw [e, List.map_append, List.map_append, List.set_append_right _ _ (by rw [List.length_map]; omega), List.length_map, lt, Nat.sub_self]
      rfl
    · rw [upd_ne (ne_of_none w f1)]
      exact s2 _ _ w
  · rintro σ H2 ⟨o4, o5, rfl, h2, s2⟩
    rw [Nat.sub_self, List.drop_zero, List.take_zero, List.nil_append] at h2
    rw [Nat.sub_self, List.drop_zero]
    walk_at "rd"
    refine ⟨p1, _, rfl, h2, fun p3 f3 => ?_⟩
    have s3 := same_new f3 (HO.tup ((goHome cs n).1.map V.int))
    have e3 : upd H2 p3 (HO.tup ((goHome cs n).1.map V.int)) p3 = some (.tup ((goHome cs n).1.map V.int)) := upd_same
    generalize upd H2 p3 (HO.tup ((goHome cs n).1.map V.int)) = H3 at s3 e3 ⊢
    refine ⟨(by decide), fun p4 H4 f4 s4 e4 => ?_⟩
    exact q p4 p3 H4 (s2.trans (s3.trans s4)) e4 (s4 _ _ e3)
def withI (x : Pst) (st : Stn) (ch : Int) : Stn :=
  if ch = 0 then st else if 0 < ch then { st with cs := st.cs.take x.a ++ [st.cs.getD x.a 0 + ch] ++ st.cs.drop (x.a + 1), t := x.u }
  else { st with r := st.r - (goHome st.cs (-ch)).2, cs := (goHome st.cs (-ch)).1, t := x.d }
def spWith : Sp := fun vs H Q _ => ∃ (v u : V) (x : Pst) (st : Stn) (ch : Int), vs = [v, u, .int ch] ∧ At H (pstD x) v ∧ At H (stD st) u ∧ PsIs x ∧ StIs st ∧ ∀ u' H', Same H H' → At H' (stD (withI x st ch)) u' → Q u' H'
theorem sc_with_change : FnScope ["post", "stand", "change", "late", "rests", "wait", "ready", "called", "since", "rest", "seen"] ["post", "stand", "change"] (defScope s_with_change) := ⟨rfl, rfl, rfl, by decide +kernel, rfl, by decide +kernel, by decide +kernel⟩
theorem ok_with_change (F : Fun K "with_change" "with_change" s_with_change f fd) (B : Bi mg) (c_sent_home : Ct P w K mg base k "sent_home" ["ready", "called", "many"] spSent) : FnOk P w K mg base CX0 (k + 1) f fd ["post", "stand", "change"] spWith := by
  refine F.ok sc_with_change (by rintro vs H Q E ⟨v, u, x, st, ch, rfl, _⟩; rfl) (fun cdv A outer s H vs Q E hr h => ?_)
  obtain ⟨v, u, x, st, ch, rfl, a1, a2, hP, hS, q⟩ := h
  have ND := sc_with_change.nd
  refine ⟨_, (pss_cons (ps_if (pt_cmpR op_eq (pv 2) pe_int (nomark _)) (pss_one (ps_ret (pv 1))) pss_nil) (pss_cons (ps_par (i := 3) (j := 4) rfl ND rfl rfl (by decide) rfl rfl (pa_c (pe_ix ix_obj (pv 0) pe_int (fun _ _ => rfl)) (pa_c (pe_ix ix_obj (pv 0) pe_int (fun _ _ => rfl)) pa_nil)) (by rfl)) (pss_cons (ps_asg (pv 1) (pg_tup rfl (pgs_cons (pg_name (i := 5) ND rfl (by first | exact Or.inl rfl | exact Or.inr rfl)) (pgs_cons (pg_name (i := 6) ND rfl (by first | exact Or.inl rfl | exact Or.inr rfl)) (pgs_cons (pg_name (i := 7) ND rfl (by first | exact Or.inl rfl | exact Or.inr rfl)) (pgs_cons (pg_name (i := 8) ND rfl (by first | exact Or.inl rfl | exact Or.inr rfl)) (pgs_cons (pg_name (i := 9) ND rfl (by first | exact Or.inl rfl | exact Or.inr rfl)) (pgs_cons (pg_name (i := 10) ND rfl (by first | exact Or.inl rfl | exact Or.inr rfl)) pgs_nil)))))))) (pss_cons (ps_if (pt_cmpR op_gt (pv 2) pe_int (nomark _)) (pss_cons (ps_set (i := 7) ND rfl (by first | exact Or.inl rfl | exact Or.inr rfl) (pe_op op_catW (pe_op op_catW (pe_slice sl_tupW (pv 7) po_none (po_some (pv 3))) (pe_tupW (pa_c (pe_op op_add (pe_ix ix_obj (pv 7) (pv 3) (fun _ _ => rfl)) (pv 2)) pa_nil))) (pe_slice sl_tupW (pv 7) (po_some (pe_op op_add (pv 3) pe_int)) po_none))) (pss_one (ps_set (i := 9) ND rfl (by first | exact Or.inl rfl | exact Or.inr rfl) (pe_ix ix_obj (pv 4) pe_int (fun _ _ => rfl))))) (pss_cons (ps_asg (pf c_sent_home hr (pa_c (pv 6) (pa_c (pv 7) (pa_c (pe_un un_neg (pv 2)) pa_nil)))) (pg_tup rfl (pgs_cons (pg_name (i := 6) ND rfl (by first | exact Or.inl rfl | exact Or.inr rfl)) (pgs_cons (pg_name (i := 7) ND rfl (by first | exact Or.inl rfl | exact Or.inr rfl)) pgs_nil)))) (pss_one (ps_set (i := 9) ND rfl (by first | exact Or.inl rfl | exact Or.inr rfl) (pe_ix ix_obj (pv 4) pe_int (fun _ _ => rfl)))))) (pss_one (ps_ret (pe_tupW (pa_c (pv 5) (pa_c (pv 6) (pa_c (pv 7) (pa_c (pv 8) (pa_c (pv 9) (pa_c (pv 10) pa_nil))))))))))))), ?_⟩
  walk_at "rd"
  refine and_if (fun c1 => ?_) (fun c1 => ?_)
  · have := q u H (Same.refl H)
    unfold withI at this
    rw [if_pos (of_decide_eq_true c1)] at this
    exact this a2
  have c1' := of_decide_eq_false c1
  obtain ⟨pa, pb, pc, pd, rfl, p1, p2⟩ := pst_shape a1
  obtain ⟨sa, sb, sc, rfl, g1, g2, g3⟩ := stn_shape a2
  have ha4 := hP.a
  have hc5 := hS.c
  refine Ix.tup p1 (atI_nat (j := 3) rfl) (Ix.tup p1 (atI_nat (j := 5) rfl) ⟨_, _, rfl, ?_⟩)
  refine ⟨sa, _, rfl, SqT.of g1, rfl, ?_⟩
  walk_at "rd"
  refine and_if (fun c2 => ?_) (fun c2 => ?_)
  · have c2' := of_decide_eq_true c2
    have ga : (st.cs.map V.int)[x.a]? = some (.int (st.cs.getD x.a 0)) := by
      rw [List.getElem?_map, List.getElem?_eq_getElem (by omega), List.getD_eq_getElem?_getD, List.getElem?_eq_getElem (by omega)]; rfl
    refine ⟨sb, _, rfl, g2, fun p3 H3 s3 e3 => ?_⟩
    rw [cut_to (by omega), Int.toNat_natCast] at e3
    refine Ix.tup (s3 _ _ g2) (atI_nat ga) ?_
    walk_at "rd"
    refine ⟨(by decide), fun p4 H4 f4 s4 e4 => ?_⟩
    refine ⟨p3, p4, _, _, rfl, rfl, s4 _ _ e3, e4, Nat.le_of_lt (small1000 (by simp; omega)), fun p5 H5 s5 e5 => ?_⟩
    walk_at "rd"
    have s35 := s3.trans (s4.trans s5)
    refine ⟨sb, _, rfl, s35 _ _ g2, fun p6 H6 s6 e6 => ?_⟩
    rw [cut_from (by omega)] at e6
    refine ⟨p5, p6, _, _, rfl, rfl, s6 _ _ e5, e6, Nat.le_of_lt (small1000 (by simp; omega)), fun p7 H7 s7 e7 => ?_⟩
    have s37 := s35.trans (s6.trans s7)
    walk_at "rd"
    refine Ix.tup (s37 _ _ p2) (atI_nat (j := 0) rfl) ⟨(by decide), fun p8 H8 f8 s8 e8 => ?_⟩
    have s38 := s37.trans s8
    refine q (.ref p8) H8 s38 ?_
    unfold withI
    rw [if_neg c1', if_pos c2']
    refine At.tup e8 (AtAll.cons (At.int _) (AtAll.cons (At.int _) (AtAll.cons (At.tup (s8 _ _ e7) ?_) (AtAll.cons (At.int _) (AtAll.cons (At.int _) (AtAll.cons (g3.mono s38) AtAll.nil))))))
    have e : (((x.a : Int) + 1).toNat) = x.a + 1 := by omega
    rw [e]
    have := ats_ints (H := H8) (st.cs.take x.a ++ [st.cs.getD x.a 0 + ch] ++ st.cs.drop (x.a + 1))
    simpa using this
  · have c2' := of_decide_eq_false c2
    refine ⟨st.r, -ch, sb, st.cs, rfl, g2, by omega, fun p3 b3 H3 s3 e3 e4 => ?_⟩
    refine ⟨p3, _, rfl, SqT.of e3, rfl, ?_⟩
    walk_at "rd"
    refine Ix.tup (s3 _ _ p2) (atI_nat (j := 1) rfl) ⟨(by decide), fun p8 H8 f8 s8 e8 => ?_⟩
    have s38 := s3.trans s8
    refine q (.ref p8) H8 s38 ?_
    unfold withI
    rw [if_neg c1', if_neg (by omega)]
    exact At.tup e8 (AtAll.cons (At.int _) (AtAll.cons (At.int _) (AtAll.cons (At.tup (s8 _ _ e4) (ats_ints _)) (AtAll.cons (At.int _) (AtAll.cons (At.int _) (AtAll.cons (g3.mono s38) AtAll.nil))))))
def takenI (x : Pst) (st : Stn) (come : Int) : Int := if (if 0 > x.m - st.w then 0 else x.m - st.w) < come then (if 0 > x.m - st.w then 0 else x.m - st.w) else come
def readyI (st : Stn) : Int := st.r + st.cs.getD 0 0
def doneI (x : Pst) (st : Stn) (come : Int) : Int := if readyI st * x.p < st.w + takenI x st come then readyI st * x.p else st.w + takenI x st come
def newestI (x : Pst) (st : Stn) (come : Int) : List (List Int) := [come, doneI x st come, st.w + takenI x st come - doneI x st come] :: st.us
def movedI (x : Pst) (st : Stn) (come : Int) : Stn := ⟨st.w + takenI x st come - doneI x st come, readyI st, st.cs.drop 1 ++ [0], sinceI x.e st.s, if 0 > st.t - 1 then 0 else st.t - 1, (newestI x st come).take 3⟩
def chI (x : Pst) (st : Stn) (come fr : Int) : Int := if looksI x.e st.s st.t = true then changeI x (readyI st + (st.cs.drop 1 ++ [0]).sum) fr (newestI x st come) else 0
def spBeat : Sp := fun vs H Q _ => ∃ (v u : V) (x : Pst) (st : Stn) (come fr : Int), vs = [v, u, .int come, .int fr] ∧ At H (pstD x) v ∧ At H (stD st) u ∧ PsIs x ∧ StIs st ∧
  ∀ p u' H', Same H H' → At H' (stD (withI x (movedI x st come) (chI x st come fr))) u' → H' p = some (.tup [u', .int (doneI x st come), .int (come - takenI x st come), .int (chI x st come fr)]) → Q (.ref p) H'
theorem sc_beat : FnScope ["post", "stand", "come", "free", "pace", "room", "wait", "ready", "called", "since", "rest", "seen", "taken", "done", "newest", "looks", "moved", "change"] ["post", "stand", "come", "free"] (defScope s_beat) := ⟨rfl, rfl, rfl, by decide +kernel, rfl, by decide +kernel, by decide +kernel⟩
theorem moved_is {x : Pst} {st : Stn} {come : Int} (h : StIs st) : StIs (movedI x st come) := by
  refine ⟨?_, ?_, fun y hy => ?_⟩
  · show (st.cs.drop 1 ++ [0]).length = 5
    have := h.c
    simp; omega
  · show ((newestI x st come).take 3).length = 3
    have := h.u
    unfold newestI
    simp; omega
  · have hy := List.mem_of_mem_take hy
    unfold newestI at hy
    rcases List.mem_cons.mp hy with z | z
    · rw [z]; rfl
    · exact h.l y z
theorem ok_beat {T : Addr} {tk : Tok} (F : FunD K "beat" "beat" s_beat f fd T 12 tk) (B : Bi mg) (O : Co K mg) (c_since_and_look : Ct P w K mg base k "since_and_look" ["post", "since", "rest"] spSince) (c_change_of : Ct P w K mg base k "change_of" ["post", "hands", "newest", "free"] spChange) (c_hands_of : Ct P w K mg base k "hands_of" ["stand"] spHands)
    (c_with_change : Ct P w K mg base k "with_change" ["post", "stand", "change"] spWith) : FnOk P w K mg base CX0 (k + 1) f fd ["post", "stand", "come", "free"] spBeat := by
  refine F.ok sc_beat (by rintro vs H Q E ⟨v, u, x, st, come, fr, rfl, _⟩; rfl) (fun cdv A outer s H vs Q E hr h => ?_)
  obtain ⟨v, u, x, st, come, fr, rfl, a1, a2, hP, hS, q⟩ := h
  have ND := sc_beat.nd
  refine ⟨_, (pss_cons (ps_asg (pe_slice sl_tupW (pv 0) po_none (po_some pe_int)) (pg_tup rfl (pgs_cons (pg_name (i := 4) ND rfl (by first | exact Or.inl rfl | exact Or.inr rfl)) (pgs_cons (pg_name (i := 5) ND rfl (by first | exact Or.inl rfl | exact Or.inr rfl)) pgs_nil)))) (pss_cons (ps_asg (pv 1) (pg_tup rfl (pgs_cons (pg_name (i := 6) ND rfl (by first | exact Or.inl rfl | exact Or.inr rfl)) (pgs_cons (pg_name (i := 7) ND rfl (by first | exact Or.inl rfl | exact Or.inr rfl)) (pgs_cons (pg_name (i := 8) ND rfl (by first | exact Or.inl rfl | exact Or.inr rfl)) (pgs_cons (pg_name (i := 9) ND rfl (by first | exact Or.inl rfl | exact Or.inr rfl)) (pgs_cons (pg_name (i := 10) ND rfl (by first | exact Or.inl rfl | exact Or.inr rfl)) (pgs_cons (pg_name (i := 11) ND rfl (by first | exact Or.inl rfl | exact Or.inr rfl)) pgs_nil)))))))) (pss_cons (ps_aug (i := 7) ND rfl (by first | exact Or.inl rfl | exact Or.inr rfl) (pe_ix ix_obj (pv 8) pe_int (fun _ _ => rfl)) ip_add) (pss_cons (ps_set (i := 8) ND rfl (by first | exact Or.inl rfl | exact Or.inr rfl) (pe_op op_catW (pe_slice sl_tupW (pv 8) (po_some pe_int) po_none) (pe_tupW (pa_c pe_int pa_nil)))) (pss_cons (ps_set (i := 12) ND rfl (by first | exact Or.inl rfl | exact Or.inr rfl) (pb (call_min2 rfl) B.min bt_min (pa_c (pv 2) (pa_c (pb (call_max2 rfl) B.max bt_max (pa_c (pe_op op_sub (pv 5) (pv 6)) (pa_c pe_int pa_nil))) pa_nil)))) (pss_cons (ps_aug (i := 6) ND rfl (by first | exact Or.inl rfl | exact Or.inr rfl) (pv 12) ip_add) (pss_cons (ps_set (i := 13) ND rfl (by first | exact Or.inl rfl | exact Or.inr rfl) (pb (call_min2 rfl) B.min bt_min (pa_c (pv 6) (pa_c (pe_op op_mul (pv 7) (pv 4)) pa_nil)))) (pss_cons (ps_aug (i := 6) ND rfl (by first | exact Or.inl rfl | exact Or.inr rfl) (pv 13) ip_sub) (pss_cons (ps_set (i := 14) ND rfl (by first | exact Or.inl rfl | exact Or.inr rfl) (pe_op op_catW (pe_tupW (pa_c (pe_tupW (pa_c (pv 2) (pa_c (pv 13) (pa_c (pv 6) pa_nil)))) pa_nil)) (pv 11))) (pss_cons (ps_asg (pf c_since_and_look hr (pa_c (pv 0) (pa_c (pv 9) (pa_c (pv 10) pa_nil)))) (pg_tup rfl (pgs_cons (pg_name (i := 9) ND rfl (by first | exact Or.inl rfl | exact Or.inr rfl)) (pgs_cons (pg_name (i := 15) ND rfl (by first | exact Or.inl rfl | exact Or.inr rfl)) pgs_nil)))) (pss_cons (ps_set (i := 16) ND rfl (by first | exact Or.inl rfl | exact Or.inr rfl) (pe_tupW (pa_c (pv 6) (pa_c (pv 7) (pa_c (pv 8) (pa_c (pv 9) (pa_c (pb (call_max2 rfl) B.max bt_max (pa_c (pe_op op_sub (pv 10) pe_int) (pa_c pe_int pa_nil))) (pa_c (pe_slice sl_tupW (pv 14) po_none (po_some (pglobI O.TRIPLES_SEEN))) pa_nil)))))))) (pss_cons (ps_set (i := 17) ND rfl (by first | exact Or.inl rfl | exact Or.inr rfl) (pe_ifExp (pt_val (pv 15)) (pf c_change_of hr (pa_c (pv 0) (pa_c (pf c_hands_of hr (pa_c (pv 16) pa_nil)) (pa_c (pv 14) (pa_c (pv 3) pa_nil))))) pe_int)) (pss_one (ps_ret (pe_tupW (pa_c (pf c_with_change hr (pa_c (pv 0) (pa_c (pv 16) (pa_c (pv 17) pa_nil)))) (pa_c (pv 13) (pa_c (pe_op op_sub (pv 2) (pv 12)) (pa_c (pv 17) pa_nil))))))))))))))))))), ?_⟩
  obtain ⟨pa, pb, pc, pd, rfl, p1, p2⟩ := pst_shape a1
  obtain ⟨sa, sb, sc, rfl, g1, g2, g3⟩ := stn_shape a2
  have hc5 := hS.c
  have hpp := hP.p
  have gc0 : (st.cs.map V.int)[0]? = some (.int (st.cs.getD 0 0)) := by
    rw [List.getElem?_map, List.getElem?_eq_getElem (by omega), List.getD_eq_getElem?_getD, List.getElem?_eq_getElem (by omega)]; rfl
  walk_at "rd"
  refine ⟨pa, _, rfl, p1, fun q1 H1 s1 e1 => ?_⟩
  rw [cut_to (by decide)] at e1
  replace e1 : H1 q1 = some (.tup [.int x.p, .int x.m]) := e1
  refine ⟨q1, _, rfl, SqT.of e1, rfl, ?_⟩
  walk_at "rd"
  refine ⟨sa, _, rfl, SqT.of (s1 _ _ g1), rfl, ?_⟩
  walk_at "rd"
  refine ⟨_, rfl, Ix.tup (s1 _ _ g2) (atI_nat gc0) ⟨_, _, rfl, rfl, ?_⟩⟩
  refine ⟨sb, _, rfl, s1 _ _ g2, fun q2 H2 s2 e2 => ?_⟩
  rw [cut_from (by decide)] at e2
  have s12 := s1.trans s2
  refine ⟨(by decide), fun q3 H3 f3 s3 e3 => ?_⟩
  refine ⟨q2, q3, _, _, rfl, rfl, s3 _ _ e2, e3, Nat.le_of_lt (small1000 (by simp; omega)), fun q4 H4 s4 e4 => ?_⟩
  have s14 := s12.trans (s3.trans s4)
  walk_at "rd"
  refine ⟨_, rfl, _, _, rfl, rfl, .inr (by omega), _, rfl, _, _, rfl, rfl, (by decide), fun q5 H5 f5 s5 e5 => ⟨(by decide), fun q6 H6 f6 s6 e6 => ?_⟩⟩
  replace e5 : H5 q5 = some (.tup [.int come, .int (doneI x st come), .int (st.w + takenI x st come - doneI x st come)]) := e5
  obtain ⟨sc', us', ec, gu, au⟩ := tup_ats g3
  cases ec
  have s16 := s14.trans (s5.trans s6)
  have lus : us'.length = 3 := by have := au.length; rw [List.length_map, hS.u] at this; exact this
  refine ⟨q6, sc, _, _, rfl, rfl, e6, s16 _ _ gu, Nat.le_of_lt (small1000 (by simp; omega)), fun q7 H7 s7 e7 => ?_⟩
  have s17 := s16.trans s7
  have a7 : At H7 (trsD (newestI x st come)) (.ref q7) := At.tup e7 (AtAll.cons (At.tup ((s6.trans s7) _ _ e5) (ats_ints [come, doneI x st come, st.w + takenI x st come - doneI x st come])) (au.mono s17))
  have hN : Newest (newestI x st come) := ⟨by show st.us.length + 1 = 4; rw [hS.u], fun y hy => by
    rcases List.mem_cons.mp hy with z | z
    · rw [z]; rfl
    · exact hS.l y z⟩
  refine ⟨.ref pa, x, st.s, st.t, rfl, a1.mono s17, fun q8 H8 s8 e8 => ?_⟩
  refine ⟨q8, _, rfl, SqT.of e8, rfl, ?_⟩
  walk_at "rd"
  have s18 := s17.trans s8
  obtain ⟨q7', nws, en, gn, an⟩ := tup_ats (a7.mono s8)
  cases en
  refine ⟨q7, _, rfl, gn, fun q9 H9 s9 e9 => ?_⟩
  rw [cut_to (by decide)] at e9
  have s19 := s18.trans s9
  refine ⟨(by decide), fun q10 H10 f10 s10 e10 => ?_⟩
  have s110 := s19.trans s10
  have e4' : H4 q4 = some (.tup ((st.cs.drop 1 ++ [0]).map V.int)) := by rw [e4]; simp
  have s410 : Same H4 H10 := s5.trans (s6.trans (s7.trans (s8.trans (s9.trans s10))))
  have am : At H10 (stD (movedI x st come)) (.ref q10) := by
    refine At.tup e10 (AtAll.cons (At.int _) (AtAll.cons (At.int _) (AtAll.cons (At.tup (s410 _ _ e4') (ats_ints _)) (AtAll.cons (At.int _) (AtAll.cons (At.int _) (AtAll.cons (At.tup (s10 _ _ e9) ?_) AtAll.nil))))))
    show AtAll H10 (((newestI x st come).take 3).map triD) _
    rw [List.map_take]
    exact (an.take 3).mono (s9.trans s10)
  have fin : ∀ (c : Int) (H11 : Hp), chI x st come fr = c → Same H10 H11 → spWith [.ref pa, .ref q10, .int c] H11 (fun y H1 => 4 ≤ sizeLine ∧ ∀ p H', H1 p = none → Same H1 H' → H' p = some (.tup [y, .int (doneI x st come), .int (come - takenI x st come), .int c]) → Q (.ref p) H') E0 := fun c H11 ec s11 => by
    subst ec
    have s111 := s110.trans s11
    exact ⟨.ref pa, .ref q10, x, movedI x st come, _, rfl, a1.mono s111, am.mono s11, hP, moved_is hS, fun u' H12 s12' a12 => ⟨(by decide), fun q13 H13 f13 s13 e13 => q q13 u' H13 (s111.trans (s12'.trans s13)) (a12.mono s13) e13⟩⟩
  refine and_if (fun c1 => ?_) (fun c1 => ?_)
  · refine ⟨.ref q10, _, q10, readyI st, q4, st.cs.drop 1 ++ [0], _, rfl, rfl, e10, s410 _ _ e4', ?_⟩
    refine ⟨.ref pa, .ref q7, x, _, fr, newestI x st come, rfl, a1.mono s110, a7.mono (s8.trans (s9.trans s10)), hP, hN, fun H11 s11 => ?_⟩
    exact fin _ H11 (by unfold chI; rw [if_pos c1]) s11
  · exact fin 0 H10 (by unfold chI; rw [if_neg (by rw [c1]; decide)]) (Same.refl _)

local macro_rules | `(tactic| walk_at "rd") => `(tactic| simp only [L2.start, List.map_cons, List.map_nil, List.length_cons, List.length_nil, Nat.reduceAdd, Nat.reduceSub, List.replicate, List.cons_append, List.nil_append, List.append_nil,
  tSeq, tIfS, tRet, tRetN, tNext, tAsg, gName, tDrop, rd_var0, rd_varS, rd_gcons, rd_gnil, if_true, if_false, Bool.false_eq_true, Bool.not_true, Bool.not_false, rd_set0, rd_setS, rd_eqI, rd_neI, rd_eqS, rd_neS, rd_argI, rd_argB, rd_argII, rd_test, rd_int, rd_ii, tC, tOp, tUn, rI0, rI, rU, tTest, tAnd, tOr, tNot, tAndV, tOrV, tNotV, tIf, tCall, tCB, tCons, tNil, tB, tChain, tSl, tNoPart, tPart, gSub, tPar, tLst, tTup, tLstW, tTupW, tBM, tAug, tPar3, tAugS, ipI, tMaxD, tGT2, tFv, tJs, tJ1, tJ0, tTru, tCallE, tRaise, xPe, xCall, xIf, xSet, xDrop, xIfS, xPs, xSeq])
local macro_rules | `(tactic| walk_at "cap") => `(tactic| simp only [capS, List.map_cons, List.map_nil, List.getElem?_cons_zero, List.getElem?_cons_succ, Option.join_some])
def nextI (x : Pst) (st : Stn) (c : Int) : Stn := withI x (movedI x st c) (chI x st c 12)
def afterI (x : Pst) : Stn → List Int → Stn
  | st, [] => st
  | st, c :: cs => afterI x (nextI x st c) cs
theorem afterI_append (x : Pst) : ∀ (st : Stn) (l : List Int) (c : Int), afterI x st (l ++ [c]) = nextI x (afterI x st l) c
  | _, [], _ => rfl
  | st, d :: l, c => afterI_append x (nextI x st d) l c
theorem with_is {x : Pst} {st : Stn} {ch : Int} (hx : PsIs x) (hs : StIs st) : StIs (withI x st ch) := by
  have hc := hs.c
  have ha := hx.a
  unfold withI
  split
  · exact hs
  · split
    · refine ⟨?_, hs.u, hs.l⟩
      simp only [List.length_append, List.length_take, List.length_drop, List.length_cons, List.length_nil]
      omega
    · refine ⟨?_, hs.u, hs.l⟩
      simp only [goHome_len]
      exact hc
theorem next_is {x : Pst} {st : Stn} {c : Int} (hx : PsIs x) (hs : StIs st) : StIs (nextI x st c) := with_is hx (moved_is hs)
theorem after_is {x : Pst} (hx : PsIs x) : ∀ {l : List Int} {st : Stn}, StIs st → StIs (afterI x st l)
  | [], _, hs => hs
  | c :: l, _, hs => after_is hx (l := l) (next_is hx hs)
theorem pst_shape2 {H : Hp} {x : Pst} {v : V} (h : At H (pstD x) v) : ∃ a b c d, v = .ref a ∧ H a = some (.tup [.int x.p, .int x.m, .ref b, .int x.a, .int x.e, .ref c, .ref d]) ∧ H b = some (.tup [.int x.lo, .int x.hi]) ∧ H c = some (.tup [.int x.u, .int x.d]) ∧ At H (rulesP x.rss) (.ref d) := by
  obtain ⟨a, xs, rfl, h1, h2⟩ := tup_ats h
  obtain ⟨x0, _, rfl, b0, h2⟩ := AtAll.uncons h2
  obtain ⟨x1, _, rfl, b1, h2⟩ := AtAll.uncons h2
  obtain ⟨x2, _, rfl, b2, h2⟩ := AtAll.uncons h2
  obtain ⟨x3, _, rfl, b3, h2⟩ := AtAll.uncons h2
  obtain ⟨x4, _, rfl, b4, h2⟩ := AtAll.uncons h2
  obtain ⟨x5, _, rfl, b5, h2⟩ := AtAll.uncons h2
  obtain ⟨x6, _, rfl, b6, h2⟩ := AtAll.uncons h2
  cases AtAll.unnil h2
  unfold At at b0 b1 b3 b4
  subst b0 b1 b3 b4
  obtain ⟨b, ys, rfl, g3, g4⟩ := tup_ats b2
  obtain ⟨c, zs, rfl, g1, g2⟩ := tup_ats b5
  obtain ⟨d, ws, rfl, _, _⟩ := tup_ats b6
  cases ats_back (cs := [x.u, x.d]) g2
  cases ats_back (cs := [x.lo, x.hi]) g4
  exact ⟨a, b, c, d, rfl, h1, g3, g1, b6⟩
theorem ints_noL : ∀ cs : List Int, noLAll (cs.map PyData.int) = true
  | [] => rfl
  | c :: cs => by show (noL (.int c) && noLAll (cs.map .int)) = true; rw [ints_noL cs]; rfl
theorem tris_noL : ∀ us : List (List Int), noLAll (us.map triD) = true
  | [] => rfl
  | u :: us => by
    show (noLAll (u.map PyData.int) && noLAll (us.map triD)) = true
    rw [tris_noL us, ints_noL u]; rfl
def spAfter : Sp := fun vs H Q _ => ∃ (v u : V) (l : Addr) (x : Pst) (st : Stn) (load : List Int), vs = [v, u, .ref l] ∧ At H (pstD x) v ∧ At H (stD st) u ∧ PsIs x ∧ StIs st ∧ H l = some (.lst (load.map V.int)) ∧
  ∀ u' H', Same H H' → At H' (stD (afterI x st load)) u' → Q u' H'
theorem sc_after : FnScope ["post", "stand", "load", "come"] ["post", "stand", "load"] (defScope s_after) := ⟨rfl, rfl, rfl, by decide +kernel, rfl, by decide +kernel, by decide +kernel⟩
theorem ok_after (F : Fun K "after" "after" s_after f fd) (B : Bi mg) (c_beat : CtD P w K mg base k "beat" ["post", "stand", "come", "free"] 12 spBeat) : FnOk P w K mg base CX0 (k + 1) f fd ["post", "stand", "load"] spAfter := by
  refine F.ok sc_after (by rintro vs H Q E ⟨v, u, l, x, st, load, rfl, _⟩; rfl) (fun cdv A outer s H vs Q E hr h => ?_)
  obtain ⟨pA, sA, l, x, st, load, rfl, a1, a2, hx, hs, hl, q⟩ := h
  have ND := sc_after.nd
  refine ⟨_, (pss_cons (ps_for PassesOwn.never rfl (pi_list (pv 2)) (pg_name (i := 3) ND rfl (by first | exact Or.inl rfl | exact Or.inr rfl)) (pss_one (ps_set (i := 1) ND rfl (by first | exact Or.inl rfl | exact Or.inr rfl) (pe_ix ix_obj (pfd c_beat hr (pa_c (pv 0) (pa_c (pv 1) (pa_c (pv 3) pa_nil)))) pe_int (fun _ _ => rfl))))) (pss_one (ps_ret (pv 1)))), ?_⟩
  walk_at "rd"
  rw [tFor_lst]
  walk_at "rd"
  refine LK.of hl (fun i σ H' => ∃ (u : V) (o1 : Option V), σ = [some pA, some u, some (.ref l), o1] ∧ At H' (stD (afterI x st (load.take i))) u ∧ Same H H')
    ⟨_, _, rfl, a2, Same.refl _⟩ (fun i σ H' _ ⟨_, _, _, _, sm⟩ => sm _ _ hl) ?_ ?_
  · rintro i y σ H2 hy ⟨u, o1, rfl, a3, sm⟩
    rw [List.getElem?_map] at hy
    obtain ⟨c, hc, rfl⟩ := Option.map_eq_some_iff.mp hy
    walk_at "rd"
    refine ⟨pA, u, x, _, c, 12, rfl, a1.mono sm, a3, hx, after_is hx hs, fun p5 u5 H5 s5 a5 e5 => ?_⟩
    refine Ix.tup e5 (v := u5) rfl ?_
    have hg := take_snoc hc
    rw [hg, afterI_append]
    exact ⟨u5, _, rfl, a5, sm.trans s5⟩
  · rintro σ H2 ⟨u, o1, rfl, a3, sm⟩
    walk_at "rd"
    rw [List.length_map, List.take_length] at a3
    exact q u H2 sm a3
/-! ### the tape and what is drawn from it -/
def spTape (K : PySem.W.Frag) : Sp := fun vs H Q _ => ∃ (s : Addr) (ns : List Int) (i : Int), vs = [.ref s, .int i] ∧ SqL K H s (ns.map V.int) ∧ 0 ≤ i ∧ i ≤ 1000 ∧ ∀ p H', H p = none → Same H H' → Tp H' p 0 → Q (.ref p) H'
theorem sc_l_tape : FnScope ["_law_script", "_law_k", "_law_cell"] ["_law_script", "_law_k"] (defScope s_l_tape) := ⟨rfl, rfl, rfl, by decide +kernel, rfl, by decide +kernel, by decide +kernel⟩
theorem ok_l_tape (F : Fun K "_law_tape" "_law_tape" s_l_tape f fd) (B : Bi mg) : FnOk P w K mg base CX0 (k + 1) f fd ["_law_script", "_law_k"] (spTape K) := by
  refine F.ok sc_l_tape (by rintro vs H Q E ⟨a, ns, i, rfl, _⟩; rfl) (fun cdv A outer s H vs Q E hr h => ?_)
  obtain ⟨a, ns, i, rfl, hS, h0, h1, q⟩ := h
  have ND := sc_l_tape.nd
  refine ⟨_, (pss_cons (ps_set (i := 2) ND rfl (by first | exact Or.inl rfl | exact Or.inr rfl) (pe_ifExp (pt_cmpR op_lt (pv 1) (pb (call_lenK (K := K) rfl) B.len bt_len (pa_c (pv 0) pa_nil)) (nomark _)) (pe_ix ix_list (pv 0) (pv 1) (fun _ _ => rfl)) pe_int)) (pss_one (ps_ret (pe_lst (pa_c (pe_op op_mul (pb (call_abs) B.abs bt_abs (pa_c (pv 2) pa_nil)) (pt (call_intB) B.int bt_int (pa_c (pe_cmpR op_ge (pb (call_abs) B.abs bt_abs (pa_c (pv 2) pa_nil)) (pe_op op_pow pe_int pe_int) (nomark _)) pa_nil))) (pa_c (pe_op op_add (pe_op op_add (pe_op op_mod (pv 2) pe_int) (pe_op op_mul pe_int (pv 1))) pe_int) (pa_c pe_int pa_nil))))))), ?_⟩
  walk_at "rd"
  refine ⟨a, _, rfl, .inl hS, ?_⟩
  show ∃ i_1 j, V.int i = V.int i_1 ∧ V.int ((ns.map V.int).length : Int) = V.int j ∧ _
  walk_at "rd"
  have abs_nn : ∀ c : Int, 0 ≤ (if c < 0 then -c else c) := fun c => by split <;> omega
  have fin : ∀ (c x y : Int), x = (if c < 0 then -c else c) * (if decide (10 ^ Int.toNat 18 ≤ (if c < 0 then -c else c)) = true then 1 else 0) → y = c % 2305843009213693951 + 39373 * i + 17 → ∀ p, H p = none → Q (.ref p) (upd H p (.lst [.int x, .int y, .int 0])) := fun c x y ex ey p hp => by
    have hx : 0 ≤ x := by
      rw [ex]
      have nn := abs_nn c
      generalize (if c < 0 then -c else c) = u at nn ⊢
      split
      · rw [Int.mul_one]; exact nn
      · rw [Int.mul_zero]; exact Int.le_refl 0
    have h2 := Int.emod_nonneg c (show (2305843009213693951 : Int) ≠ 0 by decide)
    have h3 := Int.emod_lt_of_pos c (show (0 : Int) < 2305843009213693951 by decide)
    exact q p _ hp (same_new hp _) ⟨x, y, 0, upd_same, hx, by omega, by omega, Int.le_refl 0, Int.le_refl 0⟩
  have cm : ∀ (c : Int) (b : Bool), CMul c (if b = true then 1 else 0) := fun c b => .inr (by cases b <;> decide)
  refine and_if (fun c1 => ?_) (fun c1 => ?_)
  · have c1' := of_decide_eq_true c1
    have hi : i.toNat < ns.length := by rw [List.length_map] at c1'; omega
    refine ⟨a, _, i, .int (ns[i.toNat]), rfl, rfl, hS, ?_, ?_⟩
    · have := atI_nat (xs := ns.map V.int) (j := i.toNat) (v := .int (ns[i.toNat])) (by rw [List.getElem?_map, List.getElem?_eq_getElem hi]; rfl)
      rwa [show ((i.toNat : Nat) : Int) = i by omega] at this
    · walk_at "rd"
      refine ⟨⟨by decide, by decide, by decide⟩, cm _ _, by decide, .inl (by decide), (by show 3 ≤ sizeLine; decide), fun p hp => ?_⟩
      exact fin _ _ _ rfl rfl p hp
  · refine ⟨⟨by decide, by decide, by decide⟩, cm _ _, by decide, .inl (by decide), (by show 3 ≤ sizeLine; decide), fun p hp => ?_⟩
    exact fin 0 _ _ rfl rfl p hp
def spDraw : Sp := fun vs H Q _ => ∃ (a : Addr) (m : Int) (n : Nat), vs = [.ref a, .int m] ∧ Tp H a n ∧ n ≤ 1000000000 ∧ 0 < m ∧ m < 1000000000000000 ∧ ∀ v H', 0 ≤ v → v < m → Tp H' a (n + 1) → SX a H H' → Q (.int v) H'
theorem sc_l_draw : FnScope ["_law_tape_here", "_law_many", "_law_found", "_law_once", "_law_twice"] ["_law_tape_here", "_law_many"] (defScope s_l_draw) := ⟨rfl, rfl, rfl, by decide +kernel, rfl, by decide +kernel, by decide +kernel⟩
theorem ok_l_draw (F : Fun K "_law_draw" "_law_draw" s_l_draw f fd) (B : Bi mg) : FnOk P w K mg base CX0 (k + 1) f fd ["_law_tape_here", "_law_many"] spDraw := by
  refine F.ok sc_l_draw (by rintro vs H Q E ⟨a, m, n, rfl, _⟩; rfl) (fun cdv A outer s H vs Q E hr h => ?_)
  obtain ⟨a, m, n, rfl, ⟨x, y, z, hT, hx, hy, hy2, hz, hz2⟩, hn, hm, hm2, q⟩ := h
  have ND := sc_l_draw.nd
  refine ⟨_, (pss_cons (ps_if (pt_cmpR op_gt (pe_ix ix_obj (pv 0) pe_int (fun _ _ => rfl)) pe_int (nomark _)) (pss_cons (ps_set (i := 2) ND rfl (by first | exact Or.inl rfl | exact Or.inr rfl) (pe_op op_mod (pe_ix ix_obj (pv 0) pe_int (fun _ _ => rfl)) (pv 1))) (pss_cons (ps_asg (pe_op op_fdivB (pe_ix ix_obj (pv 0) pe_int (fun _ _ => rfl)) (pv 1)) (pg_sub (pv 0) pe_int set_list)) (pss_one (ps_ret (pv 2))))) pss_nil) (pss_cons (ps_asg (pe_op op_add (pe_ix ix_obj (pv 0) pe_int (fun _ _ => rfl)) pe_int) (pg_sub (pv 0) pe_int set_list)) (pss_cons (ps_set (i := 3) ND rfl (by first | exact Or.inl rfl | exact Or.inr rfl) (pe_op op_mod (pe_op op_pow (pe_op op_add (pe_ix ix_obj (pv 0) pe_int (fun _ _ => rfl)) (pe_op op_mul pe_int (pe_ix ix_obj (pv 0) pe_int (fun _ _ => rfl)))) pe_int) pe_int)) (pss_cons (ps_set (i := 4) ND rfl (by first | exact Or.inl rfl | exact Or.inr rfl) (pe_op op_mod (pe_op op_mul (pe_op op_add (pv 3) (pe_ix ix_obj (pv 0) pe_int (fun _ _ => rfl))) (pe_op op_add (pe_op op_add (pe_op op_mod (pv 3) pe_int) pe_int) (pe_ix ix_obj (pv 0) pe_int (fun _ _ => rfl)))) pe_int)) (pss_one (ps_ret (pe_op op_mod (pe_op op_fdiv (pe_op op_mod (pe_op op_add (pe_op op_mul (pv 4) pe_int) (pv 3)) pe_int) pe_int) (pv 1)))))))), ?_⟩
  walk_at "rd"
  refine Ix.lst hT (atI_nat (j := 0) rfl) ?_
  walk_at "rd"
  refine and_if (fun c1 => ?_) (fun c1 => ?_)
  · refine Ix.lst hT (atI_nat (j := 0) rfl) ?_
    walk_at "rd"
    refine ⟨hm, Ix.lst hT (atI_nat (j := 0) rfl) ?_⟩
    walk_at "rd"
    refine ⟨⟨hm, Int.lt_trans hm2 (by decide)⟩, a, _, 0, 0, rfl, rfl, hT, rfl, ?_⟩
    refine q _ _ (Int.emod_nonneg _ (by omega)) (Int.emod_lt_of_pos _ hm) ⟨x / m, y, z, upd_same, Int.ediv_nonneg hx (by omega), hy, hy2, hz, by omega⟩ SX.upd
  · refine Ix.lst hT (atI_nat (j := 2) rfl) ?_
    walk_at "rd"
    refine ⟨a, _, 2, 2, rfl, rfl, hT, rfl, ?_⟩
    have hT2 : upd H a (.lst [.int x, .int y, .int (z + 1)]) a = some (.lst [.int x, .int y, .int (z + 1)]) := upd_same
    show rIxO (V.ref a) (V.int 1) (upd H a (.lst [.int x, .int y, .int (z + 1)])) _
    generalize eH : upd H a (.lst [.int x, .int y, .int (z + 1)]) = H2 at hT2 ⊢
    have sx : SX a H H2 := by rw [← eH]; exact SX.upd
    refine Ix.lst hT2 (atI_nat (j := 1) rfl) (Ix.lst hT2 (atI_nat (j := 2) rfl) ?_)
    walk_at "rd"
    refine ⟨.inl (by decide), ⟨by decide, by decide, by omega⟩, by decide, Ix.lst hT2 (atI_nat (j := 2) rfl) ?_⟩
    generalize eo : (y + 39373 * (z + 1)) ^ Int.toNat 5 % 2147483647 = o
    have o1 : 0 ≤ o := by rw [← eo]; exact Int.emod_nonneg _ (by decide)
    have o2 : o < 2147483647 := by rw [← eo]; exact Int.emod_lt_of_pos _ (by decide)
    walk_at "rd"
    refine ⟨by decide, Ix.lst hT2 (atI_nat (j := 2) rfl) ?_⟩
    walk_at "rd"
    have m1 := Int.emod_nonneg o (show (40009 : Int) ≠ 0 by decide)
    have m2 := Int.emod_lt_of_pos o (show (0 : Int) < 40009 by decide)
    refine ⟨.inl (by omega), by decide, ?_⟩
    generalize et : (o + (z + 1)) * (o % 40009 + 7 + (z + 1)) % 2147483629 = t
    have t1 : 0 ≤ t := by rw [← et]; exact Int.emod_nonneg _ (by decide)
    have t2 : t < 2147483629 := by rw [← et]; exact Int.emod_lt_of_pos _ (by decide)
    refine ⟨.inl (by omega), by decide, ⟨by decide, by decide⟩, hm, ?_⟩
    exact q _ _ (Int.emod_nonneg _ (by omega)) (Int.emod_lt_of_pos _ hm) ⟨x, y, z + 1, hT2, hx, hy, hy2, by omega, by omega⟩ sx
theorem Draw.of {a : Addr} {m : Int} {n : Nat} {H : Hp} {Q : VK} {E : XK} (t : Tp H a n) (hn : n ≤ 1000000000) (h1 : 0 < m) (h2 : m < 1000000000000000) (q : ∀ v H', 0 ≤ v → v < m → Tp H' a (n + 1) → SX a H H' → Q (.int v) H') : spDraw ([.ref a, .int m] ++ []) H Q E := ⟨a, m, n, rfl, t, hn, h1, h2, q⟩
def spUnits : Sp := fun vs H Q _ => ∃ (a : Addr) (n : Nat), vs = [.ref a] ∧ Tp H a n ∧ n ≤ 900000000 ∧ ∀ v H', 0 ≤ v → v ≤ 1000000000000 → Tp H' a (n + 4) → SX a H H' → Q (.int v) H'
theorem Units.of {a : Addr} {n : Nat} {H : Hp} {Q : VK} {E : XK} (t : Tp H a n) (hn : n ≤ 900000000) (q : ∀ v H', 0 ≤ v → v ≤ 1000000000000 → Tp H' a (n + 4) → SX a H H' → Q (.int v) H') : spUnits ([.ref a] ++ []) H Q E := ⟨a, n, rfl, t, hn, q⟩
theorem sc_l_a_number : FnScope ["_law_tape_here", "_law_way", "_law_great"] ["_law_tape_here"] (defScope s_l_a_number) := ⟨rfl, rfl, rfl, by decide +kernel, rfl, by decide +kernel, by decide +kernel⟩
theorem ok_l_a_number (F : Fun K "_law_a_number" "_law_a_number" s_l_a_number f fd) (B : Bi mg) (c_l_draw : Ct P w K mg base k "_law_draw" ["_law_tape_here", "_law_many"] spDraw) : FnOk P w K mg base CX0 (k + 1) f fd ["_law_tape_here"] spUnits := by
  refine F.ok sc_l_a_number (by rintro vs H Q E ⟨a, n, rfl, _⟩; rfl) (fun cdv A outer s H vs Q E hr h => ?_)
  obtain ⟨a, n, rfl, tp, hn, q⟩ := h
  have ND := sc_l_a_number.nd
  refine ⟨_, (pss_cons (ps_set (i := 1) ND rfl (by first | exact Or.inl rfl | exact Or.inr rfl) (pf c_l_draw hr (pa_c (pv 0) (pa_c pe_int pa_nil)))) (pss_cons (ps_if (pt_cmpR op_lt (pv 1) pe_int (nomark _)) (pss_one (ps_ret (pf c_l_draw hr (pa_c (pv 0) (pa_c pe_int pa_nil))))) pss_nil) (pss_cons (ps_if (pt_cmpR op_eq (pv 1) pe_int (nomark _)) (pss_one (ps_ret (pf c_l_draw hr (pa_c (pv 0) (pa_c pe_int pa_nil))))) pss_nil) (pss_cons (ps_set (i := 2) ND rfl (by first | exact Or.inl rfl | exact Or.inr rfl) (pe_op op_add (pe_op op_mul (pf c_l_draw hr (pa_c (pv 0) (pa_c (pe_op op_pow pe_int pe_int) pa_nil))) (pe_op op_pow pe_int pe_int)) (pf c_l_draw hr (pa_c (pv 0) (pa_c (pe_op op_pow pe_int pe_int) pa_nil))))) (pss_one (ps_ret (pe_ifExp (pt_cmpR op_eq (pv 1) pe_int (nomark _)) (pv 2) (pe_op op_sub (pe_op op_pow pe_int pe_int) (pe_op op_mod (pv 2) pe_int))))))))), ?_⟩
  walk_at "rd"
  refine Draw.of tp (by omega) (by decide) (by decide) fun v1 H1 l1 u1 t1 s1 => ?_
  walk_at "rd"
  refine and_if (fun c1 => ?_) (fun c1 => ?_)
  · refine Draw.of t1 (by omega) (by decide) (by decide) fun v2 H2 l2 u2 t2 s2 => ?_
    exact q v2 H2 l2 (by omega) (t2.mono (by omega)) (s1.trans s2)
  · refine and_if (fun c2 => ?_) (fun c2 => ?_)
    · refine Draw.of t1 (by omega) (by decide) (by decide) fun v2 H2 l2 u2 t2 s2 => ?_
      exact q v2 H2 l2 (by omega) (t2.mono (by omega)) (s1.trans s2)
    · refine ⟨⟨by decide, by decide, by decide⟩, ?_⟩
      refine Draw.of t1 (by omega) (by decide) (by decide) fun v2 H2 l2 u2 t2 s2 => ?_
      walk_at "rd"
      have e6 : (10 : Int) ^ Int.toNat 6 = 1000000 := by decide
      have e12 : (10 : Int) ^ Int.toNat 12 = 1000000000000 := by decide
      rw [e6] at u2
      refine ⟨⟨by decide, by decide, by decide⟩, .inr (by decide), ⟨by decide, by decide, by decide⟩, ?_⟩
      refine Draw.of t2 (by omega) (by decide) (by decide) fun v3 H3 l3 u3 t3 s3 => ?_
      rw [e6] at u3
      walk_at "rd"
      rw [e6, e12]
      refine and_if (fun c3 => ?_) (fun c3 => ?_)
      · exact q _ H3 (by omega) (by omega) (t3.mono (by omega)) (s1.trans (s2.trans s3))
      · have m1 := Int.emod_nonneg (v2 * 1000000 + v3) (show (3 : Int) ≠ 0 by decide)
        have m2 := Int.emod_lt_of_pos (v2 * 1000000 + v3) (show (0 : Int) < 3 by decide)
        exact ⟨⟨by decide, by decide, by decide⟩, by decide, q _ H3 (by omega) (by omega) (t3.mono (by omega)) (s1.trans (s2.trans s3))⟩
def U12 (i : Int) : Prop := 0 ≤ i ∧ i ≤ 1000000000000
def Tri12 (u : List Int) : Prop := ∃ a b c, u = [a, b, c] ∧ U12 a ∧ U12 b ∧ U12 c
abbrev Cv := List (Int × Int)
def prD (p : Int × Int) : PyData := .tuple [.int p.1, .int p.2]
def cvD (c : Cv) : PyData := .tuple (c.map prD)
theorem pr_shape {H : Hp} {p : Int × Int} {v : V} (h : At H (prD p) v) : ∃ a, v = .ref a ∧ H a = some (.tup [.int p.1, .int p.2]) := by
  obtain ⟨a, xs, rfl, h1, h2⟩ := tup_ats h
  obtain ⟨x1, _, rfl, a1, h2⟩ := AtAll.uncons h2
  obtain ⟨x2, _, rfl, a2, h2⟩ := AtAll.uncons h2
  cases AtAll.unnil h2
  unfold At at a1 a2
  subst a1 a2
  exact ⟨a, rfl, h1⟩
theorem cv_get {H : Hp} {c : Cv} {xs : List V} (hA : AtAll H (c.map prD) xs) {i : Nat} {x : V} (hx : xs[i]? = some x) : ∃ a, x = .ref a ∧ i < c.length ∧ H a = some (.tup [.int (c.getD i (0, 0)).1, .int (c.getD i (0, 0)).2]) := by
  obtain ⟨d, hd, a⟩ := hA.get hx
  rw [List.getElem?_map] at hd
  cases e : c[i]? with
  | none => rw [e] at hd; simp at hd
  | some r =>
    rw [e] at hd; simp at hd
    subst hd
    obtain ⟨b, rfl, hb⟩ := pr_shape a
    have eg : c.getD i (0, 0) = r := by rw [List.getD_eq_getElem?_getD, e]; rfl
    obtain ⟨hi, _⟩ := List.getElem?_eq_some_iff.mp e
    rw [eg]
    exact ⟨b, rfl, hi, hb⟩
theorem noL_ints (l : List Int) : noLAll (l.map PyData.int) = true := noLAll_iff.mpr fun d hd => by obtain ⟨z, _, rfl⟩ := List.mem_map.mp hd; rfl
theorem ints_get {l : List Int} {i : Nat} {x : V} (h : (l.map V.int)[i]? = some x) : i < l.length ∧ x = .int (l.getD i 0) := by
  rw [List.getElem?_map] at h
  cases e : l[i]? with
  | none => rw [e] at h; simp at h
  | some r =>
    rw [e] at h; simp at h
    obtain ⟨hi, _⟩ := List.getElem?_eq_some_iff.mp e
    exact ⟨hi, by rw [List.getD_eq_getElem?_getD, e, ← h]; rfl⟩
theorem intsD_get {l : List Int} {i : Nat} {x : PyData} (h : (l.map PyData.int)[i]? = some x) : i < l.length ∧ x = .int (l.getD i 0) := by
  rw [List.getElem?_map] at h
  cases e : l[i]? with
  | none => rw [e] at h; simp at h
  | some r =>
    rw [e] at h; simp at h
    obtain ⟨hi, _⟩ := List.getElem?_eq_some_iff.mp e
    exact ⟨hi, by rw [List.getD_eq_getElem?_getD, e, ← h]; rfl⟩
def spBursts : Sp := fun vs H Q _ => ∃ (v : V) (c : Cv), vs = [v] ∧ At H (cvD c) v ∧ c.length ≤ 100 ∧ ∀ p H', Same H H' → H' p = some (.tup ((c.map (·.1)).map V.int)) → Q (.ref p) H'
theorem sc_bursts_of : FnScope ["curve"] ["curve"] (defScope s_bursts_of) := ⟨rfl, rfl, rfl, by decide +kernel, rfl, by decide +kernel, by decide +kernel⟩
theorem ok_bursts_of (F : Fun K "bursts_of" "bursts_of" s_bursts_of f fd) (B : Bi mg) : FnOk P w K mg base CX0 (k + 1) f fd ["curve"] spBursts := by
  refine F.ok sc_bursts_of (by rintro vs H Q E ⟨v, c, rfl, _⟩; rfl) (fun cdv A outer s H vs Q E hr h => ?_)
  obtain ⟨v, c, rfl, hv, hn, q⟩ := h
  have ND := sc_bursts_of.nd
  refine ⟨_, (pss_one (ps_ret (pt (call_tupL) B.tuple bt_tuple (pa_c (pe_compG (nt := 2) (N' := ["burst", "rate"]) (js := []) rfl (pi_tup (pv 0)) CScG.of (fun fp s' H' => (pg_tupK (K := K) (n := 2) rfl rfl (pgs_cons (pg_name (i := 0) (by show List.Nodup (["burst", "rate"] : List Str); decide) rfl (.inl (lookup_relabel_local rfl)) (.inr (lookup_relabel_local rfl))) (pgs_cons (pg_name (i := 1) (by show List.Nodup (["burst", "rate"] : List Str); decide) rfl (.inl (lookup_relabel_local rfl)) (.inr (lookup_relabel_local rfl))) pgs_nil)))) (fun fp s' H' => ifs_nil) (fun fp s' H' => (pv 0))) pa_nil)))), ?_⟩
  obtain ⟨a, xs, rfl, h1, h2⟩ := tup_ats hv
  walk_at "rd"
  have hlen : xs.length = c.length := by rw [h2.length, List.length_map]
  refine comp_TQ (es := (c.map (·.1)).map PyData.int) (fun i => [some (.int (c.getD i (0, 0)).1), some (.int (c.getD i (0, 0)).2)]) (fun i => rfl) (fun R hR => ?_) h1 (by rw [List.length_map, List.length_map, hlen]) (by rw [List.length_map, List.length_map]; exact Nat.le_of_lt (small1000 (by omega))) (noL_ints _) (fun i x H' hx s' R hR => ?_) (fun i e H' he s' R hR => ?_) (fun acc zs H' s' hacc hl hA => ?_)
  · walk_at "rd"; exact hR
  · obtain ⟨b, rfl, hi, hb⟩ := cv_get h2 hx
    refine ⟨b, _, rfl, SqT.of (s' _ _ hb), rfl, ?_⟩
    walk_at "rd"
    exact hR
  · obtain ⟨hi, rfl⟩ := intsD_get he
    walk_at "rd"
    refine hR _ _ (Same.refl _) ?_
    rw [List.length_map] at hi
    have : (c.map (·.1)).getD i 0 = (c.getD i (0, 0)).1 := by rw [List.getD_eq_getElem?_getD, List.getD_eq_getElem?_getD, List.getElem?_map, List.getElem?_eq_getElem hi]; rfl
    rw [this]
    exact At.int _
  · cases ats_back hA
    refine ⟨acc, _, rfl, hl, fun l hl3 => ?_⟩
    exact q l _ (s'.trans (same_new hl3 _)) upd_same
def minL : List Int → Int
  | [] => 0
  | b :: r => minI b r
def mostI (c : Cv) (sp : List Int) : Int := minL (List.zipWith (fun p l => p.2 + l) c sp)
def leftI (c : Cv) (sp : List Int) (x : Int) : List Int := List.zipWith (fun p l => if l + p.2 - x < p.1 then l + p.2 - x else p.1) c sp
theorem zw_get {c : Cv} {sp : List Int} (g : Int × Int → Int → Int) {i : Nat} (h1 : i < c.length) (h2 : i < sp.length) : (List.zipWith g c sp).getD i 0 = g (c.getD i (0, 0)) (sp.getD i 0) := by
  rw [List.getD_eq_getElem?_getD, List.getD_eq_getElem?_getD, List.getD_eq_getElem?_getD, List.getElem?_eq_getElem h1, List.getElem?_eq_getElem h2, List.getElem?_eq_getElem (by rw [List.length_zipWith]; omega), List.getElem_zipWith]
  rfl
def spMost : Sp := fun vs H Q _ => ∃ (v : V) (c : Cv) (q : Addr) (sp : List Int), vs = [v, .ref q] ∧ At H (cvD c) v ∧ H q = some (.tup (sp.map V.int)) ∧ sp.length = c.length ∧ c ≠ [] ∧ c.length ≤ 100 ∧ ∀ H', Same H H' → Q (.int (mostI c sp)) H'
theorem sc_most_next : FnScope ["curve", "spare"] ["curve", "spare"] (defScope s_most_next) := ⟨rfl, rfl, rfl, by decide +kernel, rfl, by decide +kernel, by decide +kernel⟩
theorem ok_most_next (F : Fun K "most_next" "most_next" s_most_next f fd) (B : Bi mg) : FnOk P w K mg base CX0 (k + 1) f fd ["curve", "spare"] spMost := by
  refine F.ok sc_most_next (by rintro vs H Q E ⟨v, c, q, sp, rfl, _⟩; rfl) (fun cdv A outer s H vs Q E hr h => ?_)
  obtain ⟨v, c, qa, sp, rfl, hv, hq, hsp, hne, hn, q⟩ := h
  have ND := sc_most_next.nd
  refine ⟨_, (pss_one (ps_ret (pb (call_minL rfl) B.min bt_min (pa_c (pe_compG (nt := 3) (N' := ["burst", "rate", "left"]) (js := []) rfl (pi_zipT (K := K) rfl B.zip (pa_c (pv 0) (pa_c (pv 1) pa_nil))) CScG.of (fun fp s' H' => (pg_tupK (K := K) (n := 2) rfl rfl (pgs_cons (pg_tupK (K := K) (n := 2) rfl rfl (pgs_cons (pg_name (i := 0) (by show List.Nodup (["burst", "rate", "left"] : List Str); decide) rfl (.inl (lookup_relabel_local rfl)) (.inr (lookup_relabel_local rfl))) (pgs_cons (pg_name (i := 1) (by show List.Nodup (["burst", "rate", "left"] : List Str); decide) rfl (.inl (lookup_relabel_local rfl)) (.inr (lookup_relabel_local rfl))) pgs_nil))) (pgs_cons (pg_name (i := 2) (by show List.Nodup (["burst", "rate", "left"] : List Str); decide) rfl (.inl (lookup_relabel_local rfl)) (.inr (lookup_relabel_local rfl))) pgs_nil)))) (fun fp s' H' => ifs_nil) (fun fp s' H' => (pe_op op_add (pv 1) (pv 2)))) pa_nil)))), ?_⟩
  obtain ⟨a, xs, rfl, h1, h2⟩ := tup_ats hv
  walk_at "rd"
  have hlen : xs.length = c.length := by rw [h2.length, List.length_map]
  have zl : (List.zipWith (fun p l => p.2 + l) c sp).length = c.length := by rw [List.length_zipWith]; omega
  refine comp_zipQ (es := (List.zipWith (fun p l => p.2 + l) c sp).map PyData.int) (fun i => [some (.int (c.getD i (0, 0)).1), some (.int (c.getD i (0, 0)).2), some (.int (sp.getD i 0))]) (fun i => rfl) (fun R hR => ?_) h1 hq (by rw [List.length_map, zl, hlen]) (by rw [List.length_map, List.length_map, zl, hsp]) (by rw [List.length_map, zl]; exact Nat.le_of_lt (small1000 (by omega))) (noL_ints _) (fun i x y p H' hx hy s' hp R hR => ?_) (fun i e H' he s' R hR => ?_) (fun acc zs H' s' hacc hl hA => ?_)
  · walk_at "rd"; exact hR
  · obtain ⟨b, rfl, hi, hb⟩ := cv_get h2 hx
    obtain ⟨hi2, rfl⟩ := ints_get hy
    refine ⟨p, _, rfl, SqT.of hp, rfl, ?_⟩
    walk_at "rd"
    refine ⟨b, _, rfl, SqT.of (s' _ _ hb), rfl, ?_⟩
    walk_at "rd"
    exact hR
  · obtain ⟨hi, rfl⟩ := intsD_get he
    walk_at "rd"
    refine hR _ _ (Same.refl _) ?_
    rw [zl] at hi
    rw [zw_get _ hi (by omega)]
    exact At.int _
  · cases ats_back hA
    have zn : List.zipWith (fun p l => p.2 + l) c sp ≠ [] := fun z => by rw [z] at zl; exact hne (List.length_eq_zero_iff.mp zl.symm)
    have qq := q H' s'
    unfold mostI at qq
    generalize List.zipWith (fun (p : Int × Int) (l : Int) => p.2 + l) c sp = zz at *
    match zz, zn with
    | b :: r, _ => exact ⟨acc, b, r, rfl, hl, qq⟩
def spLeft : Sp := fun vs H Q _ => ∃ (v : V) (c : Cv) (q : Addr) (sp : List Int) (x : Int), vs = [v, .ref q, .int x] ∧ At H (cvD c) v ∧ H q = some (.tup (sp.map V.int)) ∧ sp.length = c.length ∧ c.length ≤ 100 ∧ ∀ p H', Same H H' → H' p = some (.tup ((leftI c sp x).map V.int)) → Q (.ref p) H'
theorem sc_spares_left : FnScope ["curve", "spare", "come"] ["curve", "spare", "come"] (defScope s_spares_left) := ⟨rfl, rfl, rfl, by decide +kernel, rfl, by decide +kernel, by decide +kernel⟩
theorem ok_spares_left (F : Fun K "spares_left" "spares_left" s_spares_left f fd) (B : Bi mg) : FnOk P w K mg base CX0 (k + 1) f fd ["curve", "spare", "come"] spLeft := by
  refine F.ok sc_spares_left (by rintro vs H Q E ⟨v, c, q, sp, x, rfl, _⟩; rfl) (fun cdv A outer s H vs Q E hr h => ?_)
  obtain ⟨v, c, qa, sp, x, rfl, hv, hq, hsp, hn, q⟩ := h
  have ND := sc_spares_left.nd
  refine ⟨_, (pss_one (ps_ret (pt (call_tupL) B.tuple bt_tuple (pa_c (pe_compG (nt := 3) (N' := ["burst", "rate", "left", "come"]) (js := [2]) rfl (pi_zipT (K := K) rfl B.zip (pa_c (pv 0) (pa_c (pv 1) pa_nil))) CScG.of (fun fp s' H' => (pg_tupK (K := K) (n := 2) rfl rfl (pgs_cons (pg_tupK (K := K) (n := 2) rfl rfl (pgs_cons (pg_name (i := 0) (by show List.Nodup (["burst", "rate", "left", "come"] : List Str); decide) rfl (.inl (lookup_relabel_local rfl)) (.inr (lookup_relabel_local rfl))) (pgs_cons (pg_name (i := 1) (by show List.Nodup (["burst", "rate", "left", "come"] : List Str); decide) rfl (.inl (lookup_relabel_local rfl)) (.inr (lookup_relabel_local rfl))) pgs_nil))) (pgs_cons (pg_name (i := 2) (by show List.Nodup (["burst", "rate", "left", "come"] : List Str); decide) rfl (.inl (lookup_relabel_local rfl)) (.inr (lookup_relabel_local rfl))) pgs_nil)))) (fun fp s' H' => ifs_nil) (fun fp s' H' => (pb (call_min2 rfl) B.min bt_min (pa_c (pv 0) (pa_c (pe_op op_sub (pe_op op_add (pv 2) (pv 1)) (pv 3)) pa_nil))))) pa_nil)))), ?_⟩
  obtain ⟨a, xs, rfl, h1, h2⟩ := tup_ats hv
  walk_at "rd"
  have hlen : xs.length = c.length := by rw [h2.length, List.length_map]
  have zl : (leftI c sp x).length = c.length := by unfold leftI; rw [List.length_zipWith]; omega
  refine comp_zipQ (es := (leftI c sp x).map PyData.int) (fun i => [some (.int (c.getD i (0, 0)).1), some (.int (c.getD i (0, 0)).2), some (.int (sp.getD i 0))]) (fun i => rfl) (fun R hR => ?_) h1 hq (by rw [List.length_map, zl, hlen]) (by rw [List.length_map, List.length_map, zl, hsp]) (by rw [List.length_map, zl]; exact Nat.le_of_lt (small1000 (by omega))) (noL_ints _) (fun i x y p H' hx hy s' hp R hR => ?_) (fun i e H' he s' R hR => ?_) (fun acc zs H' s' hacc hl hA => ?_)
  · walk_at "rd"; exact hR
  · obtain ⟨b, rfl, hi, hb⟩ := cv_get h2 hx
    obtain ⟨hi2, rfl⟩ := ints_get hy
    refine ⟨p, _, rfl, SqT.of hp, rfl, ?_⟩
    walk_at "rd"
    refine ⟨b, _, rfl, SqT.of (s' _ _ hb), rfl, ?_⟩
    walk_at "rd"
    exact hR
  · obtain ⟨hi, rfl⟩ := intsD_get he
    walk_at "cap"
    walk_at "rd"
    refine hR _ _ (Same.refl _) ?_
    rw [zl] at hi
    unfold leftI
    rw [zw_get _ hi (by omega)]
    exact At.int _
  · cases ats_back hA
    refine ⟨acc, _, rfl, hl, fun l hl3 => ?_⟩
    exact q l _ (s'.trans (same_new hl3 _)) upd_same
def behindI (c : Cv) : List Int → List Int → Option (List Int)
  | sp, [] => some sp
  | sp, x :: r => if x > mostI c sp then none else behindI c (leftI c sp x) r
theorem behind_cons {c : Cv} {sp : List Int} {x : Int} {r : List Int} : behindI c sp (x :: r) = if x > mostI c sp then none else behindI c (leftI c sp x) r := rfl
theorem behind_nil {c : Cv} {sp : List Int} : behindI c sp [] = some sp := rfl
def optT : Option (List Int) → V → Hp → Prop
  | none, v, _ => v = .non
  | some l, v, H => ∃ p, v = .ref p ∧ H p = some (.tup (l.map V.int))
def spBehind : Sp := fun vs H Q _ => ∃ (v : V) (c : Cv) (q : Addr) (l : List Int), vs = [v, .ref q] ∧ At H (cvD c) v ∧ H q = some (.lst (l.map V.int)) ∧ c ≠ [] ∧ c.length ≤ 100 ∧ ∀ u H', Same H H' → optT (behindI c (c.map (·.1)) l) u H' → Q u H'
theorem sc_spares_behind : FnScope ["curve", "load", "spare", "come"] ["curve", "load"] (defScope s_spares_behind) := ⟨rfl, rfl, rfl, by decide +kernel, rfl, by decide +kernel, by decide +kernel⟩
theorem ok_spares_behind (F : Fun K "spares_behind" "spares_behind" s_spares_behind f fd) (B : Bi mg) (c_bursts_of : Ct P w K mg base k "bursts_of" ["curve"] spBursts) (c_most_next : Ct P w K mg base k "most_next" ["curve", "spare"] spMost) (c_spares_left : Ct P w K mg base k "spares_left" ["curve", "spare", "come"] spLeft) : FnOk P w K mg base CX0 (k + 1) f fd ["curve", "load"] spBehind := by
  refine F.ok sc_spares_behind (by rintro vs H Q E ⟨v, c, q, l, rfl, _⟩; rfl) (fun cdv A outer s H vs Q E hr h => ?_)
  obtain ⟨v, c, qa, ls, rfl, hv, hq, hne, hn, q⟩ := h
  have ND := sc_spares_behind.nd
  refine ⟨_, (pss_cons (ps_set (i := 2) ND rfl (by first | exact Or.inl rfl | exact Or.inr rfl) (pf c_bursts_of hr (pa_c (pv 0) pa_nil))) (pss_cons (ps_for PassesOwn.never rfl (pi_list (pv 1)) (pg_name (i := 3) ND rfl (by first | exact Or.inl rfl | exact Or.inr rfl)) (pss_cons (ps_if (pt_cmpR op_gt (pv 3) (pf c_most_next hr (pa_c (pv 0) (pa_c (pv 2) pa_nil))) (nomark _)) (pss_one (ps_ret pe_non)) pss_nil) (pss_one (ps_set (i := 2) ND rfl (by first | exact Or.inl rfl | exact Or.inr rfl) (pf c_spares_left hr (pa_c (pv 0) (pa_c (pv 2) (pa_c (pv 3) pa_nil)))))))) (pss_one (ps_ret (pv 2))))), ?_⟩
  walk_at "rd"
  refine ⟨_, c, rfl, hv, hn, fun p H1 s1 e1 => ?_⟩
  show tFor _ _ _ _ _ _
  rw [tFor_lst]
  walk_at "rd"
  refine LK.of (s1 _ _ hq) (fun i σ H' => ∃ (p : Addr) (sp : List Int) (o : Option V), σ = [some v, some (.ref qa), some (.ref p), o] ∧ H' p = some (.tup (sp.map V.int)) ∧ sp.length = c.length ∧ behindI c sp (ls.drop i) = behindI c (c.map (·.1)) ls ∧ Same H H')
    ⟨p, _, none, rfl, e1, by rw [List.length_map], rfl, s1⟩ (fun i σ H' _ ⟨_, _, _, _, _, _, _, z⟩ => z _ _ hq) ?_ ?_
  · rintro i x σ H2 hx ⟨p2, sp, o, rfl, h2, l2, b2, s2⟩
    obtain ⟨hi, rfl⟩ := ints_get hx
    walk_at "rd"
    refine ⟨_, c, p2, sp, rfl, hv.mono s2, h2, l2, hne, hn, fun H3 s3 => ?_⟩
    walk_at "rd"
    have ed : ls.drop i = ls.getD i 0 :: ls.drop (i + 1) := by
      rw [List.drop_eq_getElem_cons hi, List.getD_eq_getElem?_getD, List.getElem?_eq_getElem hi]; rfl
    rw [ed, behind_cons] at b2
    refine and_if (fun c1 => ?_) (fun c1 => ?_)
    · have c1' := of_decide_eq_true c1
      rw [if_pos c1'] at b2
      refine q _ _ (s2.trans s3) ?_
      rw [← b2]
      rfl
    · have c1' : ¬ (ls.getD i 0 > mostI c sp) := of_decide_eq_false (by simpa using c1)
      rw [if_neg c1'] at b2
      refine ⟨_, c, p2, sp, _, rfl, (hv.mono s2).mono s3, s3 _ _ h2, l2, hn, fun p4 H4 s4 e4 => ?_⟩
      refine ⟨p4, _, _, rfl, e4, ?_, b2, s2.trans (s3.trans s4)⟩
      unfold leftI; rw [List.length_zipWith]; omega
  · rintro σ H2 ⟨p2, sp, o, rfl, h2, l2, b2, s2⟩
    walk_at "rd"
    rw [List.length_map, List.drop_length, behind_nil] at b2
    refine q _ _ s2 ?_
    rw [← b2]
    exact ⟨p2, rfl, h2⟩
def withinI (c : Cv) (l : List Int) : Bool := (behindI c (c.map (·.1)) l).isSome
def spWithin : Sp := fun vs H Q _ => ∃ (v : V) (c : Cv) (q : Addr) (l : List Int), vs = [v, .ref q] ∧ At H (cvD c) v ∧ H q = some (.lst (l.map V.int)) ∧ c ≠ [] ∧ c.length ≤ 100 ∧ ∀ H', Same H H' → Q (.bl (withinI c l)) H'
theorem sc_within : FnScope ["curve", "load"] ["curve", "load"] (defScope s_within) := ⟨rfl, rfl, rfl, by decide +kernel, rfl, by decide +kernel, by decide +kernel⟩
theorem ok_within (F : Fun K "within" "within" s_within f fd) (B : Bi mg) (c_spares_behind : Ct P w K mg base k "spares_behind" ["curve", "load"] spBehind) : FnOk P w K mg base CX0 (k + 1) f fd ["curve", "load"] spWithin := by
  refine F.ok sc_within (by rintro vs H Q E ⟨v, c, q, l, rfl, _⟩; rfl) (fun cdv A outer s H vs Q E hr h => ?_)
  obtain ⟨v, c, qa, ls, rfl, hv, hq, hne, hn, q⟩ := h
  have ND := sc_within.nd
  refine ⟨_, (pss_one (ps_ret (pe_cmpR op_notN (pf c_spares_behind hr (pa_c (pv 0) (pa_c (pv 1) pa_nil))) pe_non (nomark _)))), ?_⟩
  walk_at "rd"
  refine ⟨_, c, qa, ls, rfl, hv, hq, hne, hn, fun u H1 s1 e1 => ?_⟩
  have qq := q H1 s1
  unfold withinI at qq
  refine ⟨trivial, ?_⟩
  cases hb : behindI c (c.map (·.1)) ls with
  | none =>
    rw [hb] at e1 qq
    cases (show u = .non from e1)
    exact qq
  | some l =>
    rw [hb] at e1 qq
    obtain ⟨p, rfl, _⟩ := (show ∃ p, u = .ref p ∧ H1 p = some (.tup (l.map V.int)) from e1)
    exact qq
def mx (a b : Int) : Int := if b > a then b else a
def kadF (r : Int) : List Int → Int → Int → Int
  | [], m, _ => m
  | x :: l, m, a => kadF r l (mx m (mx (a + x - r) 0)) (mx (a + x - r) 0)
def kadI (l : List Int) (r : Int) : Int := kadF r l 0 0
def spKad : Sp := fun vs H Q _ => ∃ (q : Addr) (l : List Int) (r : Int), vs = [.ref q, .int r] ∧ H q = some (.lst (l.map V.int)) ∧ ∀ H', Same H H' → Q (.int (kadI l r)) H'
theorem cv_noL (c : Cv) : noLAll (c.map prD) = true := noLAll_iff.mpr fun d hd => by obtain ⟨z, _, rfl⟩ := List.mem_map.mp hd; rfl
/-! ### greatest sums -/
theorem mx_le {a b B : Int} : mx a b ≤ B ↔ a ≤ B ∧ b ≤ B := by unfold mx; split <;> omega
def Fit (r : Int) : List Int → Int → Int → Prop
  | [], _, _ => True
  | x :: l, a, B => mx (a + x - r) 0 ≤ B ∧ Fit r l (mx (a + x - r) 0) B
theorem kad_le {r B : Int} : ∀ {l : List Int} {m a : Int}, kadF r l m a ≤ B ↔ m ≤ B ∧ Fit r l a B
  | [], m, a => ⟨fun h => ⟨h, trivial⟩, fun h => h.1⟩
  | x :: l, m, a => by
    show kadF r l (mx m (mx (a + x - r) 0)) (mx (a + x - r) 0) ≤ B ↔ m ≤ B ∧ mx (a + x - r) 0 ≤ B ∧ Fit r l (mx (a + x - r) 0) B
    rw [kad_le, mx_le (a := m)]
    exact and_assoc
theorem kadI_le {l : List Int} {r B : Int} : kadI l r ≤ B ↔ 0 ≤ B ∧ Fit r l 0 B := kad_le
theorem kad_nn {l : List Int} {r : Int} : 0 ≤ kadI l r := (kadI_le.mp (Int.le_refl _)).1
def UB (r : Int) : List Int → Int → Int → Prop
  | [], _, _ => True
  | x :: l, t, B => t + x - r ≤ B ∧ UB r l (t + x - r) B
theorem UB.mono {r B : Int} : ∀ {l : List Int} {t t' : Int}, t ≤ t' → UB r l t' B → UB r l t B
  | [], _, _, _, _ => trivial
  | x :: l, t, t', h, ⟨h1, h2⟩ => ⟨by omega, UB.mono (by omega) h2⟩
def UA (r : Int) : List Int → Int → Prop
  | [], _ => True
  | x :: l, B => UB r (x :: l) 0 B ∧ UA r l B
/-! ### loads within their least bursts -/
def Gd (l : List Int) : Cv → List Int → Prop
  | [], [] => True
  | p :: c, s :: sp => Fit p.2 l (p.1 - s) p.1 ∧ Gd l c sp
  | _, _ => False
theorem gd_most {x : Int} {l : List Int} : ∀ {c : Cv} {sp : List Int}, Gd (x :: l) c sp → ∀ y ∈ List.zipWith (fun (p : Int × Int) (l : Int) => p.2 + l) c sp, x ≤ y
  | [], [], _, y, hy => by simp at hy
  | p :: c, s :: sp, ⟨h1, h2⟩, y, hy => by
    rw [List.zipWith_cons_cons] at hy
    rcases List.mem_cons.mp hy with z | z
    · obtain ⟨g1, _⟩ := h1
      have := (mx_le.mp g1).1
      omega
    · exact gd_most h2 y z
  | [], _ :: _, h, _, _ => h.elim
  | _ :: _, [], h, _, _ => h.elim
theorem gd_left {x : Int} {l : List Int} : ∀ {c : Cv} {sp : List Int}, Gd (x :: l) c sp → Gd l c (leftI c sp x)
  | [], [], _ => trivial
  | p :: c, s :: sp, ⟨h1, h2⟩ => by
    show Fit p.2 l (p.1 - (if s + p.2 - x < p.1 then s + p.2 - x else p.1)) p.1 ∧ Gd l c (leftI c sp x)
    refine ⟨?_, gd_left h2⟩
    obtain ⟨_, g2⟩ := h1
    have e : p.1 - (if s + p.2 - x < p.1 then s + p.2 - x else p.1) = mx (p.1 - s + x - p.2) 0 := by
      unfold mx
      by_cases z : s + p.2 - x < p.1
      · rw [if_pos z, if_neg (by omega)]; omega
      · rw [if_neg z]; split <;> omega
    rw [e]
    exact g2
  | [], _ :: _, h => h.elim
  | _ :: _, [], h => h.elim
theorem zw_ne {c : Cv} {sp : List Int} {l : List Int} (hne : c ≠ []) (h : Gd l c sp) : List.zipWith (fun (p : Int × Int) (l : Int) => p.2 + l) c sp ≠ [] := by
  match c, sp, hne, h with
  | _ :: _, _ :: _, _, _ => simp
theorem gd_some : ∀ {l : List Int} {c : Cv} {sp : List Int}, c ≠ [] → Gd l c sp → (behindI c sp l).isSome = true
  | [], c, sp, _, _ => rfl
  | x :: l, c, sp, hne, h => by
    rw [behind_cons]
    have g : x ≤ mostI c sp := by
      have g1 := gd_most h
      have g2 := zw_ne hne h
      unfold mostI
      generalize List.zipWith (fun (p : Int × Int) (l : Int) => p.2 + l) c sp = zs at g1 g2
      match zs, g2 with
      | b :: r, _ => exact minI_ge (g1 b List.mem_cons_self) fun y hy => g1 y (List.mem_cons_of_mem _ hy)
    rw [if_neg (by omega)]
    exact gd_some hne (gd_left h)
theorem minI_mem : ∀ (r : List Int) (b : Int), minI b r ∈ b :: r ∧ ∀ y ∈ b :: r, minI b r ≤ y
  | [], b => ⟨List.mem_singleton.mpr rfl, fun y hy => by rw [List.mem_singleton.mp hy]; exact Int.le_refl _⟩
  | c :: r, b => by
    obtain ⟨h1, h2⟩ := minI_mem r (if c < b then c else b)
    have e : minI b (c :: r) = minI (if c < b then c else b) r := rfl
    rw [e]
    have h3 := h2 _ List.mem_cons_self
    refine ⟨?_, fun y hy => ?_⟩
    · rcases List.mem_cons.mp h1 with z | z
      · rw [z]
        split
        · exact List.mem_cons_of_mem _ List.mem_cons_self
        · exact List.mem_cons_self
      · exact List.mem_cons_of_mem _ (List.mem_cons_of_mem _ z)
    · generalize minI (if c < b then c else b) r = M at *
      rcases List.mem_cons.mp hy with z | z
      · subst z
        split at h3 <;> omega
      · rcases List.mem_cons.mp z with z | z
        · subst z
          split at h3 <;> omega
        · exact h2 y (List.mem_cons_of_mem _ z)
theorem minL_mem {l : List Int} (h : l ≠ []) : minL l ∈ l ∧ ∀ y ∈ l, minL l ≤ y := by
  match l, h with
  | b :: r, _ => exact minI_mem r b
/-! ### within, by each pair -/
theorem gd_nil : ∀ {c : Cv} {sp : List Int}, sp.length = c.length → Gd [] c sp
  | [], [], _ => trivial
  | _ :: _, _ :: _, h => ⟨trivial, gd_nil (by simpa using h)⟩
  | [], _ :: _, h => by simp at h
  | _ :: _, [], h => by simp at h
theorem gd_back {x : Int} {l : List Int} : ∀ {c : Cv} {sp : List Int}, (∀ p ∈ c, 0 ≤ p.1) → (∀ y ∈ List.zipWith (fun (p : Int × Int) (l : Int) => p.2 + l) c sp, x ≤ y) → sp.length = c.length → Gd l c (leftI c sp x) → Gd (x :: l) c sp
  | [], [], _, _, _, _ => trivial
  | p :: c, s :: sp, h0, h1, h2, ⟨h3, h4⟩ => by
    refine ⟨?_, gd_back (fun q hq => h0 q (List.mem_cons_of_mem _ hq)) (fun y hy => h1 y (by rw [List.zipWith_cons_cons]; exact List.mem_cons_of_mem _ hy)) (by simpa using h2) h4⟩
    have g1 := h1 (p.2 + s) (by rw [List.zipWith_cons_cons]; exact List.mem_cons_self)
    have g0 := h0 p List.mem_cons_self
    have e : p.1 - (if s + p.2 - x < p.1 then s + p.2 - x else p.1) = mx (p.1 - s + x - p.2) 0 := by
      unfold mx
      by_cases z : s + p.2 - x < p.1
      · rw [if_pos z, if_neg (by omega)]; omega
      · rw [if_neg z]; split <;> omega
    rw [e] at h3
    exact ⟨mx_le.mpr ⟨by omega, g0⟩, h3⟩
  | [], _ :: _, _, _, h, _ => by simp at h
  | _ :: _, [], _, _, h, _ => by simp at h
theorem left_len {c : Cv} {sp : List Int} {x : Int} (h : sp.length = c.length) : (leftI c sp x).length = c.length := by unfold leftI; rw [List.length_zipWith]; omega
theorem some_gd : ∀ {l : List Int} {c : Cv} {sp : List Int}, c ≠ [] → (∀ p ∈ c, 0 ≤ p.1) → sp.length = c.length → (behindI c sp l).isSome = true → Gd l c sp
  | [], c, sp, _, _, h, _ => gd_nil h
  | x :: l, c, sp, hne, h0, h, hs => by
    rw [behind_cons] at hs
    have zn : List.zipWith (fun (p : Int × Int) (l : Int) => p.2 + l) c sp ≠ [] := fun z => by
      have := congrArg List.length z
      rw [List.length_zipWith, h] at this
      exact hne (List.length_eq_zero_iff.mp (by simpa using this))
    by_cases z : x > mostI c sp
    · rw [if_pos z] at hs; cases hs
    · rw [if_neg z] at hs
      refine gd_back h0 (fun y hy => ?_) h (some_gd hne h0 (left_len h) hs)
      have := (minL_mem zn).2 y hy
      unfold mostI at z
      omega
theorem gd_fits {l : List Int} : ∀ {c : Cv}, Gd l c (c.map (·.1)) ↔ ∀ p ∈ c, Fit p.2 l 0 p.1
  | [] => ⟨fun _ p hp => by simp at hp, fun _ => trivial⟩
  | p :: c => by
    show Fit p.2 l (p.1 - p.1) p.1 ∧ Gd l c (c.map (·.1)) ↔ _
    rw [Int.sub_self, gd_fits]
    exact ⟨fun ⟨h1, h2⟩ q hq => by
      rcases List.mem_cons.mp hq with z | z
      · rw [z]; exact h1
      · exact h2 q z, fun h => ⟨h p List.mem_cons_self, fun q hq => h q (List.mem_cons_of_mem _ hq)⟩⟩
structure CvOk (c : Cv) : Prop where
  ne : c ≠ []
  n : c.length ≤ 10
  u : ∀ p ∈ c, (0 ≤ p.1 ∧ p.1 ≤ 1000000000000) ∧ 0 ≤ p.2 ∧ p.2 ≤ 1000000000000
/-! ### parts of a load, and lesser loads -/
theorem UB.take {r B : Int} : ∀ {l : List Int} {t : Int} (j : Nat), UB r l t B → UB r (l.take j) t B
  | [], _, j, _ => by rw [List.take_nil]; trivial
  | x :: l, t, 0, _ => trivial
  | x :: l, t, j + 1, ⟨h1, h2⟩ => ⟨h1, h2.take j⟩
theorem UA.take {r B : Int} : ∀ {l : List Int} (j : Nat), UA r l B → UA r (l.take j) B
  | [], j, _ => by rw [List.take_nil]; trivial
  | x :: l, 0, _ => trivial
  | x :: l, j + 1, ⟨h1, h2⟩ => ⟨UB.take (j + 1) h1, h2.take j⟩
theorem UA.drop {r B : Int} : ∀ {l : List Int} (j : Nat), UA r l B → UA r (l.drop j) B
  | [], j, _ => by rw [List.drop_nil]; trivial
  | x :: l, 0, h => h
  | x :: l, j + 1, ⟨_, h2⟩ => h2.drop j
theorem UB.less {r B x y : Int} (h : y ≤ x) {l2 : List Int} : ∀ {l1 : List Int} {t : Int}, UB r (l1 ++ x :: l2) t B → UB r (l1 ++ y :: l2) t B
  | [], t, ⟨h1, h2⟩ => ⟨by omega, h2.mono (by omega)⟩
  | z :: l1, t, ⟨h1, h2⟩ => ⟨h1, UB.less h (l1 := l1) h2⟩
theorem UA.less {r B x y : Int} (h : y ≤ x) {l2 : List Int} : ∀ {l1 : List Int}, UA r (l1 ++ x :: l2) B → UA r (l1 ++ y :: l2) B
  | [], ⟨h1, h2⟩ => ⟨UB.less h (l1 := []) h1, h2⟩
  | z :: l1, ⟨h1, h2⟩ => ⟨UB.less h (l1 := z :: l1) h1, UA.less h (l1 := l1) h2⟩
/-! ### a look of the law's own -/
/-! ### the room at a place -/
theorem split_at {l : List Int} {i : Nat} (h : i < l.length) : l = l.take i ++ l.getD i 0 :: l.drop (i + 1) := by
  have e : l.drop i = l.getD i 0 :: l.drop (i + 1) := by rw [List.drop_eq_getElem_cons h, List.getD_eq_getElem?_getD, List.getElem?_eq_getElem h]; rfl
  rw [← e, List.take_append_drop]
structure RowG (r : RowT) : Prop where
  is : RowIs r
  g : r.g ∈ (["over", "under", "each"] : List Str)
def spRow : Sp := fun vs H Q _ => ∃ (a : Addr) (n : Nat) (b : Bool), vs = [.ref a, .bl b] ∧ Tp H a n ∧ n ≤ 800000000 ∧ ∀ v r H', RowG r → At (hid a H') (rowP r) v → Tp H' a (n + 12) → SX a H H' → Q v H'
theorem Row.of {a : Addr} {n : Nat} {b : Bool} {H : Hp} {Q : VK} {E : XK} (t : Tp H a n) (hn : n ≤ 800000000) (q : ∀ v r H', RowG r → At (hid a H') (rowP r) v → Tp H' a (n + 12) → SX a H H' → Q v H') : spRow ([.ref a, .bl b] ++ []) H Q E := ⟨a, n, b, rfl, t, hn, q⟩
theorem row_noL (r : RowT) : noL (rowP r) = true := rfl
theorem rule_noL (rs : List RowT) : noL (ruleP rs) = true := by
  show noLAll (rs.map rowP) = true
  exact noLAll_iff.mpr fun d hd => by obtain ⟨r, _, rfl⟩ := List.mem_map.mp hd; rfl
structure RulG (rs : List RowT) : Prop where
  lo : 1 ≤ rs.length
  hi : rs.length ≤ 4
  g : ∀ r ∈ rs, RowG r
structure PsL (x : Pst) : Prop where
  p : 1 ≤ x.p ∧ x.p ≤ 1000000
  m : U12 x.m
  lo : 0 ≤ x.lo ∧ x.lo ≤ x.hi
  hi : x.hi ≤ 12
  a : x.a ≤ 4
  e : 1 ≤ x.e ∧ x.e ≤ 6
  u : 0 ≤ x.u ∧ x.u ≤ 9
  d : 0 ≤ x.d ∧ x.d ≤ 9
  n : x.rss.length ≤ 3
  r : ∀ rs ∈ x.rss, RulG rs
theorem PsL.is {x : Pst} (h : PsL x) : PsIs x := ⟨h.a, by have := h.p; omega, by have := h.n; omega, fun rs hrs r hr => ((h.r rs hrs).g r hr).is⟩
def spPost : Sp := fun vs H Q _ => ∃ (a : Addr) (n : Nat), vs = [.ref a] ∧ Tp H a n ∧ n ≤ 100000000 ∧ ∀ p x H', PsL x → At (hid a H') (pstD x) (.ref p) → Tp H' a (n + 400) → SX a H H' → Q (.ref p) H'
def spRowL : Sp := fun vs H Q _ => ∃ (a : Addr) (n : Nat), vs = [.ref a] ∧ Tp H a n ∧ n ≤ 800000000 ∧ ∀ v r H', RowG r → At (hid a H') (rowP r) v → Tp H' a (n + 12) → SX a H H' → Q v H'
theorem RowL.of {a : Addr} {n : Nat} {H : Hp} {Q : VK} {E : XK} (t : Tp H a n) (hn : n ≤ 800000000) (q : ∀ v r H', RowG r → At (hid a H') (rowP r) v → Tp H' a (n + 12) → SX a H H' → Q v H') : spRowL ([.ref a] ++ []) H Q E := ⟨a, n, rfl, t, hn, q⟩
theorem sc_l_a_row : FnScope ["_law_tape_here", "_law_sign", "_law_what", "_law_span", "_law_number", "_law_step"] ["_law_tape_here"] (defScope s_l_a_row) := ⟨rfl, rfl, rfl, by decide +kernel, rfl, by decide +kernel, by decide +kernel⟩
theorem ok_l_a_row (F : Fun K "_law_a_row" "_law_a_row" s_l_a_row f fd) (B : Bi mg) (c_l_draw : Ct P w K mg base k "_law_draw" ["_law_tape_here", "_law_many"] spDraw) : FnOk P w K mg base CX0 (k + 1) f fd ["_law_tape_here"] spRowL := by
  refine F.ok sc_l_a_row (by rintro vs H Q E ⟨a, n, rfl, _⟩; rfl) (fun cdv A outer s H vs Q E hr h => ?_)
  obtain ⟨a, n, rfl, tp, hn, q⟩ := h
  have ND := sc_l_a_row.nd
  refine ⟨_, (pss_cons (ps_set (i := 1) ND rfl (by first | exact Or.inl rfl | exact Or.inr rfl) (pe_ix ix_obj (pe_lstW (pa_c pe_str (pa_c pe_str (pa_c pe_str pa_nil)))) (pf c_l_draw hr (pa_c (pv 0) (pa_c pe_int pa_nil))) (fun _ _ => rfl))) (pss_cons (ps_set (i := 2) ND rfl (by first | exact Or.inl rfl | exact Or.inr rfl) (pe_ix ix_obj (pe_lstW (pa_c pe_str (pa_c pe_str (pa_c pe_str (pa_c pe_str pa_nil))))) (pf c_l_draw hr (pa_c (pv 0) (pa_c pe_int pa_nil))) (fun _ _ => rfl))) (pss_cons (ps_set (i := 3) ND rfl (by first | exact Or.inl rfl | exact Or.inr rfl) (pe_ix ix_obj (pe_lstW (pa_c pe_int (pa_c pe_int (pa_c pe_int (pa_c (pe_op op_add pe_int (pf c_l_draw hr (pa_c (pv 0) (pa_c pe_int pa_nil)))) pa_nil))))) (pf c_l_draw hr (pa_c (pv 0) (pa_c pe_int pa_nil))) (fun _ _ => rfl))) (pss_cons (ps_set (i := 4) ND rfl (by first | exact Or.inl rfl | exact Or.inr rfl) (pf c_l_draw hr (pa_c (pv 0) (pa_c pe_int pa_nil)))) (pss_cons (ps_if (pt_cmpR op_eq (pv 1) pe_str (nomark _)) (pss_one (ps_ret (pe_tupW (pa_c (pv 2) (pa_c (pv 3) (pa_c (pv 1) (pa_c (pb (call_max2 rfl) B.max bt_max (pa_c pe_int (pa_c (pv 4) pa_nil))) (pa_c pe_int pa_nil)))))))) pss_nil) (pss_cons (ps_set (i := 5) ND rfl (by first | exact Or.inl rfl | exact Or.inr rfl) (pe_op op_add pe_int (pf c_l_draw hr (pa_c (pv 0) (pa_c pe_int pa_nil))))) (pss_one (ps_ret (pe_tupW (pa_c (pv 2) (pa_c (pv 3) (pa_c (pv 1) (pa_c (pv 4) (pa_c (pe_ifExp (pt_cmpR op_lt (pe_op op_add (pf c_l_draw hr (pa_c (pv 0) (pa_c pe_int pa_nil))) (pe_op op_mul (pt (call_intB) B.int bt_int (pa_c (pe_cmpR op_eq (pv 1) pe_str (nomark _)) pa_nil)) pe_int)) pe_int (nomark _)) (pv 5) (pe_op op_sub pe_int (pv 5))) pa_nil)))))))))))))), ?_⟩
  walk_at "rd"
  refine ⟨(by decide), fun p1 H1 f1 s1 e1 => ?_⟩
  refine Draw.of (tp.same s1) (by omega) (by decide) (by decide) fun y1 H2 l2 u2 t2 s2 => ?_
  have n1 : p1 ≠ a := tp.ne f1
  obtain ⟨g, hg, eg⟩ := pick_strs (ts := ["over", "under", "each"]) l2 u2
  refine Ix.lst (s2.get n1 e1) eg ?_
  refine ⟨(by decide), fun p3 H3 f3 s3 e3 => ?_⟩
  refine Draw.of (t2.same s3) (by omega) (by decide) (by decide) fun y4 H4 l4 u4 t4 s4 => ?_
  have n3 : p3 ≠ a := t2.ne f3
  obtain ⟨w, hw, ew⟩ := pick_strs (ts := ["come", "done", "wait", "wait"]) l4 u4
  have hw' : w ∈ (["come", "done", "wait"] : List Str) := by
    simp only [List.mem_cons, List.not_mem_nil, or_false] at hw ⊢
    rcases hw with z | z | z | z
    · exact .inl z
    · exact .inr (.inl z)
    · exact .inr (.inr z)
    · exact .inr (.inr z)
  refine Ix.lst (s4.get n3 e3) ew ?_
  have sx4 : SX a H H4 := (SX.of s1).trans (s2.trans ((SX.of s3).trans s4))
  have fin : ∀ (sp : Nat) (nn tt : Int) (H8 : Hp) (m : Nat), (1 ≤ sp ∧ sp ≤ 4) → Tp H8 a m → m ≤ n + 12 → SX a H H8 → (0 ≤ nn ∧ nn ≤ 1000000000000) → (g = "each" → 1 ≤ nn) → ∀ p H', H8 p = none → Same H8 H' → H' p = some (.tup [.str w, .int sp, .str g, .int nn, .int tt]) → Q (.ref p) H' := fun sp nn tt H8 m hsp t8 hm s8 hnn hge p H' fp sp' ep => by
    have pa : p ≠ a := t8.ne fp
    refine q _ ⟨w, sp, g, nn, tt⟩ H' ⟨⟨hw', hsp, hnn, hge⟩, hg⟩ (At.tup (by rw [hid_ne pa]; exact ep) ?_) ((t8.same sp').mono hm) (s8.trans (SX.of sp'))
    exact AtAll.cons (At.str _) (AtAll.cons (At.int _) (AtAll.cons (At.str _) (AtAll.cons (At.int _) (AtAll.cons (At.int _) AtAll.nil))))
  try walk_at "rd"
  refine Draw.of t4 (by omega) (by decide) (by decide) fun y5 H5 l5 u5 t5 s5 => ?_
  walk_at "rd"
  refine ⟨(by decide), fun p6 H6 f6 s6 e6 => ?_⟩
  refine Draw.of (t5.same s6) (by omega) (by decide) (by decide) fun y7 H7 l7 u7 t7 s7 => ?_
  have n6 : p6 ≠ a := t5.ne f6
  obtain ⟨x, hx, ex⟩ := pick_ints (ts := [1, 1, 1, 1 + y5]) l7 u7
  refine Ix.lst (s7.get n6 e6) ex ?_
  have hx' : 1 ≤ x ∧ x ≤ 4 := by
    simp only [List.mem_cons, List.not_mem_nil, or_false] at hx
    rcases hx with rfl | rfl | rfl | rfl <;> omega
  refine Draw.of t7 (by omega) (by decide) (by decide) fun num H8 l8 u8 t8 s8 => ?_
  walk_at "rd"
  obtain ⟨sp, rfl⟩ : ∃ sp : Nat, x = (sp : Int) := ⟨x.toNat, by omega⟩
  have sx : SX a H H8 := sx4.trans (s5.trans ((SX.of s6).trans (s7.trans s8)))
  refine and_if (fun c1 => ?_) (fun c1 => ?_)
  · exact ⟨(by decide), fin _ _ _ H8 _ (by omega) t8 (by omega) sx (by split <;> omega) (fun _ => by split <;> omega)⟩
  · have c1' := of_decide_eq_false c1
    refine Draw.of t8 (by omega) (by decide) (by decide) fun y8 H9 l9 u9 t9 s9 => ?_
    walk_at "rd"
    refine Draw.of t9 (by omega) (by decide) (by decide) fun y9 H10 l10 u10 t10 s10 => ?_
    walk_at "rd"
    refine ⟨.inr (by decide), ?_⟩
    refine and_if (fun c2 => ?_) (fun c2 => ?_)
    · exact ⟨(by decide), fin _ _ _ H10 _ (by omega) t10 (by omega) (sx.trans (s9.trans s10)) (by omega) (fun z => absurd z c1')⟩
    · exact ⟨(by decide), fin _ _ _ H10 _ (by omega) t10 (by omega) (sx.trans (s9.trans s10)) (by omega) (fun z => absurd z c1')⟩
theorem sc_l_great_row : FnScope ["_law_tape_here", "_law_sign", "_law_what", "_law_span", "_law_number", "_law_step"] ["_law_tape_here"] (defScope s_l_great_row) := ⟨rfl, rfl, rfl, by decide +kernel, rfl, by decide +kernel, by decide +kernel⟩
theorem ok_l_great_row (F : Fun K "_law_great_row" "_law_great_row" s_l_great_row f fd) (B : Bi mg) (c_l_draw : Ct P w K mg base k "_law_draw" ["_law_tape_here", "_law_many"] spDraw) (c_l_a_number : Ct P w K mg base k "_law_a_number" ["_law_tape_here"] spUnits) : FnOk P w K mg base CX0 (k + 1) f fd ["_law_tape_here"] spRowL := by
  refine F.ok sc_l_great_row (by rintro vs H Q E ⟨a, n, rfl, _⟩; rfl) (fun cdv A outer s H vs Q E hr h => ?_)
  obtain ⟨a, n, rfl, tp, hn, q⟩ := h
  have ND := sc_l_great_row.nd
  refine ⟨_, (pss_cons (ps_set (i := 1) ND rfl (by first | exact Or.inl rfl | exact Or.inr rfl) (pe_ix ix_obj (pe_lstW (pa_c pe_str (pa_c pe_str (pa_c pe_str pa_nil)))) (pf c_l_draw hr (pa_c (pv 0) (pa_c pe_int pa_nil))) (fun _ _ => rfl))) (pss_cons (ps_par (i := 2) (j := 3) rfl ND rfl rfl (by decide) rfl rfl (pa_c (pe_ix ix_obj (pe_lstW (pa_c pe_str (pa_c pe_str (pa_c pe_str pa_nil)))) (pf c_l_draw hr (pa_c (pv 0) (pa_c pe_int pa_nil))) (fun _ _ => rfl)) (pa_c (pe_op op_add pe_int (pf c_l_draw hr (pa_c (pv 0) (pa_c pe_int pa_nil)))) pa_nil)) (by rfl)) (pss_cons (ps_par (i := 4) (j := 5) rfl ND rfl rfl (by decide) rfl rfl (pa_c (pf c_l_a_number hr (pa_c (pv 0) pa_nil)) (pa_c (pe_op op_add pe_int (pf c_l_draw hr (pa_c (pv 0) (pa_c pe_int pa_nil)))) pa_nil)) (by rfl)) (pss_cons (ps_if (pt_cmpR op_eq (pv 1) pe_str (nomark _)) (pss_one (ps_ret (pe_tupW (pa_c (pv 2) (pa_c (pv 3) (pa_c (pv 1) (pa_c (pb (call_max2 rfl) B.max bt_max (pa_c pe_int (pa_c (pv 4) pa_nil))) (pa_c pe_int pa_nil)))))))) pss_nil) (pss_one (ps_ret (pe_tupW (pa_c (pv 2) (pa_c (pv 3) (pa_c (pv 1) (pa_c (pv 4) (pa_c (pe_ix ix_obj (pe_lstW (pa_c (pv 5) (pa_c (pe_op op_sub pe_int (pv 5)) pa_nil))) (pf c_l_draw hr (pa_c (pv 0) (pa_c pe_int pa_nil))) (fun _ _ => rfl)) pa_nil)))))))))))), ?_⟩
  walk_at "rd"
  refine ⟨(by decide), fun p1 H1 f1 s1 e1 => ?_⟩
  refine Draw.of (tp.same s1) (by omega) (by decide) (by decide) fun y1 H2 l2 u2 t2 s2 => ?_
  have n1 : p1 ≠ a := tp.ne f1
  obtain ⟨g, hg, eg⟩ := pick_strs (ts := ["over", "under", "each"]) l2 u2
  refine Ix.lst (s2.get n1 e1) eg ?_
  refine ⟨(by decide), fun p3 H3 f3 s3 e3 => ?_⟩
  refine Draw.of (t2.same s3) (by omega) (by decide) (by decide) fun y4 H4 l4 u4 t4 s4 => ?_
  have n3 : p3 ≠ a := t2.ne f3
  obtain ⟨w, hw, ew⟩ := pick_strs (ts := ["come", "done", "wait"]) l4 u4
  refine Ix.lst (s4.get n3 e3) ew ?_
  refine Draw.of t4 (by omega) (by decide) (by decide) fun y5 H5 l5 u5 t5 s5 => ?_
  walk_at "rd"
  try refine ⟨_, _, rfl, ?_⟩
  refine Units.of t5 (by omega) fun num H6 l6 u6 t6 s6 => ?_
  try walk_at "rd"
  refine Draw.of t6 (by omega) (by decide) (by decide) fun y7 H7 l7 u7 t7 s7 => ?_
  walk_at "rd"
  try refine ⟨_, _, rfl, ?_⟩
  have sx : SX a H H7 := (SX.of s1).trans (s2.trans ((SX.of s3).trans (s4.trans (s5.trans (s6.trans s7)))))
  have fin : ∀ (sp : Nat) (nn tt : Int) (H8 : Hp) (m : Nat), (1 ≤ sp ∧ sp ≤ 4) → Tp H8 a m → m ≤ n + 12 → SX a H H8 → (0 ≤ nn ∧ nn ≤ 1000000000000) → (g = "each" → 1 ≤ nn) → ∀ p H', H8 p = none → Same H8 H' → H' p = some (.tup [.str w, .int sp, .str g, .int nn, .int tt]) → Q (.ref p) H' := fun sp nn tt H8 m hsp t8 hm s8 hnn hge p H' fp sp' ep => by
    have pa : p ≠ a := t8.ne fp
    refine q _ ⟨w, sp, g, nn, tt⟩ H' ⟨⟨hw, hsp, hnn, hge⟩, hg⟩ (At.tup (by rw [hid_ne pa]; exact ep) ?_) ((t8.same sp').mono hm) (s8.trans (SX.of sp'))
    exact AtAll.cons (At.str _) (AtAll.cons (At.int _) (AtAll.cons (At.str _) (AtAll.cons (At.int _) (AtAll.cons (At.int _) AtAll.nil))))
  obtain ⟨sp, hsp⟩ : ∃ sp : Nat, 1 + y5 = (sp : Int) := ⟨(1 + y5).toNat, by omega⟩
  try rw [hsp]
  try walk_at "rd"
  refine and_if (fun c1 => ?_) (fun c1 => ?_)
  · exact ⟨(by decide), fin _ _ _ H7 _ (by omega) t7 (by omega) sx (by split <;> omega) (fun _ => by split <;> omega)⟩
  · have c1' := of_decide_eq_false c1
    refine ⟨(by decide), fun p9 H9 f9 s9 e9 => ?_⟩
    have n9 := t7.ne f9
    refine Draw.of (t7.same s9) (by omega) (by decide) (by decide) fun y10 H10 l10 u10 t10 s10 => ?_
    obtain ⟨x, hx, ex⟩ := pick_ints (ts := [1 + y7, 0 - (1 + y7)]) l10 u10
    refine Ix.lst (s10.get n9 e9) ex ?_
    exact ⟨(by decide), fin _ _ _ H10 _ (by omega) t10 (by omega) (sx.trans ((SX.of s9).trans s10)) ⟨l6, u6⟩ (fun z => absurd z c1')⟩
structure StL (x : Stn) : Prop where
  w : U12 x.w
  r : 0 ≤ x.r
  c : x.cs.length = 5
  cn : ∀ y ∈ x.cs, 0 ≤ y
  sm : x.r + x.cs.sum ≤ 12
  s : 0 ≤ x.s ∧ x.s ≤ 5
  t : 0 ≤ x.t ∧ x.t ≤ 9
  u : x.us.length = 3
  ul : ∀ y ∈ x.us, Tri12 y
theorem StL.is {x : Stn} (h : StL x) : StIs x := ⟨h.c, h.u, fun y hy => by obtain ⟨a, b, c, rfl, _⟩ := h.ul y hy; rfl⟩
def spStand : Sp := fun vs H Q _ => ∃ (a : Addr) (n : Nat), vs = [.ref a] ∧ Tp H a n ∧ n ≤ 100000000 ∧ ∀ p x H', StL x → At (hid a H') (stD x) (.ref p) → Tp H' a (n + 60) → SX a H H' → Q (.ref p) H'
theorem sc_l_great_stand : FnScope ["_law_tape_here", "_law_left", "_law_called", "_law_k", "_law_seen", "_law_ready", "_law_since"] ["_law_tape_here"] (defScope s_l_great_stand) := ⟨rfl, rfl, rfl, by decide +kernel, rfl, by decide +kernel, by decide +kernel⟩
theorem ok_l_great_stand (F : Fun K "_law_great_stand" "_law_great_stand" s_l_great_stand f fd) (B : Bi mg) (c_l_draw : Ct P w K mg base k "_law_draw" ["_law_tape_here", "_law_many"] spDraw) (c_l_a_number : Ct P w K mg base k "_law_a_number" ["_law_tape_here"] spUnits) :
    FnOk P w K mg base CX0 (k + 1) f fd ["_law_tape_here"] spStand := by
  refine F.ok sc_l_great_stand (by rintro vs H Q E ⟨a, n, rfl, _⟩; rfl) (fun cdv A outer s H vs Q E hr h => ?_)
  obtain ⟨a, n, rfl, tp, hn, q⟩ := h
  have ND := sc_l_great_stand.nd
  refine ⟨_, (pss_cons (ps_par (i := 1) (j := 2) rfl ND rfl rfl (by decide) rfl rfl (pa_c pe_int (pa_c (pe_lst pa_nil) pa_nil)) (by rfl)) (pss_cons (ps_for PassesOwn.never rfl (pi_range1 (by rfl) B.range (pa_c pe_int pa_nil)) (pg_name (i := 3) ND rfl (by first | exact Or.inl rfl | exact Or.inr rfl)) (pss_cons (ps_expr (pe_bm PySem.F.plainAttrs_list PySem.F.slot_list_append PySem.F.type_list_append mt_append (pv 2) (pa_c (pf c_l_draw hr (pa_c (pv 0) (pa_c (pe_op op_add (pb (call_min2 rfl) B.min bt_min (pa_c (pv 1) (pa_c pe_int pa_nil))) pe_int) pa_nil))) pa_nil))) (pss_one (ps_set (i := 1) ND rfl (by first | exact Or.inl rfl | exact Or.inr rfl) (pe_op op_sub (pv 1) (pe_ix ix_obj (pv 2) (pv 3) (fun _ _ => rfl))))))) (pss_cons (ps_set (i := 4) ND rfl (by first | exact Or.inl rfl | exact Or.inr rfl) (pt (call_tupL) B.tuple bt_tuple (pa_c (pe_comp (N' := ["_law_k", "_law_tape_here"]) (js := [0]) rfl (pi_range1 (by rfl) B.range (pa_c pe_int pa_nil)) CSc.mk1 rfl (by decide) rfl (fun fp s' H' => (pe_tup (pa_c (pf c_l_a_number hr (pa_c (pv 1) pa_nil)) (pa_c (pf c_l_a_number hr (pa_c (pv 1) pa_nil)) (pa_c (pf c_l_a_number hr (pa_c (pv 1) pa_nil)) pa_nil)))))) pa_nil))) (pss_cons (ps_par (i := 5) (j := 6) rfl ND rfl rfl (by decide) rfl rfl (pa_c (pf c_l_draw hr (pa_c (pv 0) (pa_c (pe_op op_add (pv 1) pe_int) pa_nil))) (pa_c (pf c_l_draw hr (pa_c (pv 0) (pa_c pe_int pa_nil))) pa_nil)) (by rfl)) (pss_one (ps_ret (pe_tup (pa_c (pf c_l_a_number hr (pa_c (pv 0) pa_nil)) (pa_c (pv 5) (pa_c (pt (call_tupL) B.tuple bt_tuple (pa_c (pv 2) pa_nil)) (pa_c (pv 6) (pa_c (pf c_l_draw hr (pa_c (pv 0) (pa_c pe_int pa_nil))) (pa_c (pv 4) pa_nil))))))))))))), ?_⟩
  walk_at "rd"
  refine ⟨Nat.zero_le _, fun p hp => ⟨_, _, rfl, ?_⟩⟩
  have pa : p ≠ a := tp.ne hp
  refine for_R (n := 5) (fun R hR => hR) (by decide) (fun i σ H' => ∃ (left : Int) (cs : List Int) (o3 : Option V), σ = [some (.ref a), some (.int left), some (.ref p), o3, none, none, none] ∧ H' p = some (.lst (cs.map V.int)) ∧ cs.length = i ∧ (∀ c ∈ cs, 0 ≤ c) ∧ cs.sum + left = 12 ∧ (0 ≤ left ∧ left ≤ 12) ∧ Tp H' a (n + i) ∧ SX a H H')
    ⟨12, [], none, rfl, upd_same, rfl, fun c h => by simp at h, rfl, ⟨by decide, by decide⟩, tp.same (same_new hp _), SX.of (same_new hp _)⟩ ?_ ?_
  · rintro i σ H1 hi ⟨left, cs, o3, rfl, h1, h2, h3, h4, h5, t1, s1⟩
    walk_at "rd"
    refine ⟨.inl ⟨rfl, _, SqL.of h1⟩, ?_⟩
    refine Draw.of t1 (by omega) (by split <;> omega) (by split <;> omega) fun v H2 l2 u2 t2 s2 => ?_
    have h1' := s2.get pa h1
    refine ⟨p, _, _, rfl, rfl, h1', by rw [List.length_map]; exact small1000 (by omega), ?_⟩
    have e : (cs.map V.int ++ [V.int v]) = (cs ++ [v]).map V.int := by simp
    rw [e]
    refine Ix.lst upd_same (v := .int v) ?_ ?_
    · have := atI_nat (xs := (cs ++ [v]).map V.int) (j := i) (v := .int v) (by subst h2; simp)
      rw [Int.zero_add]; exact this
    · walk_at "rd"
      have lv : v ≤ left := by split at u2 <;> omega
      refine ⟨left - v, cs ++ [v], _, rfl, upd_same, by rw [List.length_append, h2]; rfl, fun c hc => ?_, ?_, by omega, ?_, ?_⟩
      · rcases List.mem_append.mp hc with z | z
        · exact h3 c z
        · rw [List.mem_singleton.mp z]; exact l2
      · rw [List.sum_append]; simp; omega
      · exact t2.updN pa
      · exact (s1.trans s2).updN hp pa
  · rintro σ H1 ⟨left, cs, o3, rfl, h1, h2, h3, h4, h5, t1, s1⟩
    walk_at "rd"
    refine comp_R (n := 3) (fun R hR => hR) (by decide) fun acc hacc => ?_
    have ca : acc ≠ a := t1.ne hacc
    refine ⟨fun i ys H' => ∃ us : List (List Int), us.length = i ∧ (∀ u ∈ us, Tri12 u) ∧ AtAll (hid acc (hid a H')) (us.map triD) ys ∧ ys.length = i ∧ H' acc = some (.lst ys) ∧ Tp H' a (n + 5 + 12 * i) ∧ SX a H1 H', ?_, ?_, ?_⟩
    · exact ⟨[], rfl, fun u h => by simp at h, AtAll.nil, rfl, upd_same, t1.updN ca, (SX.refl a H1).updN hacc ca⟩
    · rintro i ys H2 hi ⟨us, l2, u2, a2, y2, c2, t2, s2⟩
      show tTup _ [some _, some (.ref a)] H2 _
      try walk_at "rd"
      refine Units.of t2 (by omega) fun v1 H3 l3 u3 t3 s3 => ?_
      refine Units.of t3 (by omega) fun v2 H4 l4 u4 t4 s4 => ?_
      refine Units.of t4 (by omega) fun v3 H5 l5 u5 t5 s5 => ?_
      refine ⟨(by show 3 ≤ sizeLine; decide), fun t ht => ?_⟩
      have s25 := s3.trans (s4.trans s5)
      have ta : t ≠ a := t5.ne ht
      have c5 := s25.get ca c2
      have tc : t ≠ acc := fun z => by subst z; rw [ht] at c5; cases c5
      refine ⟨by rw [upd_ne (Ne.symm tc)]; exact c5, small1000 (by omega), us ++ [[v1, v2, v3]], by rw [List.length_append, l2]; rfl, fun u hu => ?_, ?_, by rw [List.length_append, y2]; rfl, upd_same, ?_, ?_⟩
      · rcases List.mem_append.mp hu with z | z
        · exact u2 u z
        · rw [List.mem_singleton.mp z]; exact ⟨v1, v2, v3, rfl, ⟨l3, u3⟩, ⟨l4, u4⟩, ⟨l5, u5⟩⟩
      · rw [hid_upd_ne ca, hid_upd, hid_upd_ne ta, hid_upd_ne tc, List.map_append]
        have fr : (hid acc (hid a H5)) t = none := by rw [hid_ne tc, hid_ne ta]; exact ht
        refine AtAll.append ((a2.mono (Same.hid s25)).mono (same_new fr _)) (AtAll.cons (At.tup upd_same ?_) AtAll.nil)
        exact AtAll.cons (At.int _) (AtAll.cons (At.int _) (AtAll.cons (At.int _) AtAll.nil))
      · exact ((t5.updN ta).updN ca).mono (by omega)
      · exact (((s2.trans s25).trans (SX.of (same_new ht _))).updN hacc ca)
    · rintro ys H2 ⟨us, l2, u2, a2, y2, c2, t2, s2⟩
      refine ⟨acc, ys, rfl, c2, fun l hl => ?_⟩
      have la : l ≠ a := t2.ne hl
      have A1 : At (hid a (upd H2 l (.tup ys))) (.tuple (us.map triD)) (.ref l) := by
        rw [hid_upd_ne la]
        have fr : hid a H2 l = none := by rw [hid_ne la]; exact hl
        exact At.tup upd_same ((a2.mono hid_sub).mono (same_new fr _))
      have p2 : upd H2 l (.tup ys) p = some (.lst (cs.map V.int)) := by
        have := s2.get pa h1
        rw [upd_ne (fun z => by subst z; rw [hl] at this; cases this)]; exact this
      try walk_at "rd"
      refine Draw.of (t2.updN la) (by omega) (by omega) (by omega) fun v4 H4 l4 u4 t4 s4 => ?_
      try walk_at "rd"
      refine Draw.of t4 (by omega) (by decide) (by decide) fun v5 H5 l5 u5 t5 s5 => ?_
      try walk_at "rd"
      refine ⟨_, _, rfl, ?_⟩
      refine Units.of t5 (by omega) fun v3 H3 l3 u3 t3 s3 => ?_
      have x3 : SX a (upd H2 l (.tup ys)) H3 := s4.trans (s5.trans s3)
      refine ⟨p, _, rfl, x3.get pa p2, fun m hm => ?_⟩
      have ma : m ≠ a := t3.ne hm
      have A2 : At (hid a (upd H3 m (.tup (cs.map V.int)))) (.tuple (cs.map .int)) (.ref m) := by
        rw [hid_upd_ne ma]
        exact At.tup upd_same (ats_ints cs)
      have A1' : At (hid a (upd H3 m (.tup (cs.map V.int)))) (.tuple (us.map triD)) (.ref l) := (A1.mono x3).mono (SX.of (same_new hm _))
      refine Draw.of (t3.updN ma) (by omega) (by decide) (by decide) fun v6 H6 l6 u6 t6 s6 => ?_
      refine ⟨(by show 6 ≤ sizeLine; decide), fun z hz => ?_⟩
      have za : z ≠ a := t6.ne hz
      have fr : hid a H6 z = none := by rw [hid_ne za]; exact hz
      refine q z ⟨v3, v4, cs, v5, v6, us⟩ _ ⟨⟨l3, u3⟩, l4, h2, h3, by show v4 + cs.sum ≤ 12; omega, ⟨l5, by show v5 ≤ 5; omega⟩, ⟨l6, by show v6 ≤ 9; omega⟩, l2, u2⟩ ?_ ((t6.updN za).mono (by omega)) ?_
      · rw [hid_upd_ne za]
        exact At.tup upd_same (AtAll.cons (At.int _) (AtAll.cons (At.int _) (AtAll.cons ((A2.mono s6).mono (same_new fr _)) (AtAll.cons (At.int _) (AtAll.cons (At.int _) (AtAll.cons ((A1'.mono s6).mono (same_new fr _)) AtAll.nil))))))
      · exact SX.trans s1 (SX.trans s2 (SX.trans (SX.of (same_new hl _)) (SX.trans x3 (SX.trans (SX.of (same_new hm _)) (SX.trans s6 (SX.of (same_new hz _)))))))
def spStand2 : Sp := fun vs H Q _ => ∃ (a : Addr) (n : Nat) (v : V) (x : Pst), vs = [.ref a, v] ∧ At H (pstD x) v ∧ PsL x ∧ Tp H a n ∧ n ≤ 100000000 ∧ ∀ p y H', StL y → At (hid a H') (stD y) (.ref p) → Tp H' a (n + 60) → SX a H H' → Q (.ref p) H'
theorem sc_l_a_stand : FnScope ["_law_tape_here", "_law_post", "_law_seen", "_law_called"] ["_law_tape_here", "_law_post"] (defScope s_l_a_stand) := ⟨rfl, rfl, rfl, by decide +kernel, rfl, by decide +kernel, by decide +kernel⟩
theorem ok_l_a_stand (F : Fun K "_law_a_stand" "_law_a_stand" s_l_a_stand f fd) (B : Bi mg) (c_l_draw : Ct P w K mg base k "_law_draw" ["_law_tape_here", "_law_many"] spDraw) : FnOk P w K mg base CX0 (k + 1) f fd ["_law_tape_here", "_law_post"] spStand2 := by
  refine F.ok sc_l_a_stand (by rintro vs H Q E ⟨a, n, v, x, rfl, _⟩; rfl) (fun cdv A outer s H vs Q E hr h => ?_)
  obtain ⟨a, n, pA, x, rfl, aA, hx, tp, hn, q⟩ := h
  have ND := sc_l_a_stand.nd
  refine ⟨_, (pss_cons (ps_if (pt_cmpR op_eq (pf c_l_draw hr (pa_c (pv 0) (pa_c pe_int pa_nil))) pe_int (nomark _)) (pss_one (ps_ret (pe_tupW (pa_c pe_int (pa_c (pe_ix ix_obj (pe_ix ix_obj (pv 1) pe_int (fun _ _ => rfl)) pe_int (fun _ _ => rfl)) (pa_c (pe_tupW (pa_c pe_int (pa_c pe_int (pa_c pe_int (pa_c pe_int (pa_c pe_int pa_nil)))))) (pa_c pe_int (pa_c pe_int (pa_c (pe_tupW (pa_c (pe_tupW (pa_c pe_int (pa_c pe_int (pa_c pe_int pa_nil)))) (pa_c (pe_tupW (pa_c pe_int (pa_c pe_int (pa_c pe_int pa_nil)))) (pa_c (pe_tupW (pa_c pe_int (pa_c pe_int (pa_c pe_int pa_nil)))) pa_nil)))) pa_nil))))))))) pss_nil) (pss_cons (ps_set (i := 2) ND rfl (by first | exact Or.inl rfl | exact Or.inr rfl) (pt (call_tupL) B.tuple bt_tuple (pa_c (pe_comp (N' := ["_law_k", "_law_tape_here"]) (js := [0]) rfl (pi_range1 (by rfl) B.range (pa_c pe_int pa_nil)) CSc.mk1 rfl (by decide) rfl (fun fp s' H' => (pe_tupW (pa_c (pf c_l_draw hr (pa_c (pv 1) (pa_c pe_int pa_nil))) (pa_c (pf c_l_draw hr (pa_c (pv 1) (pa_c pe_int pa_nil))) (pa_c (pf c_l_draw hr (pa_c (pv 1) (pa_c pe_int pa_nil))) pa_nil)))))) pa_nil))) (pss_cons (ps_set (i := 3) ND rfl (by first | exact Or.inl rfl | exact Or.inr rfl) (pt (call_tupL) B.tuple bt_tuple (pa_c (pe_comp (N' := ["_law_k", "_law_tape_here"]) (js := [0]) rfl (pi_range1 (by rfl) B.range (pa_c pe_int pa_nil)) CSc.mk1 rfl (by decide) rfl (fun fp s' H' => (pf c_l_draw hr (pa_c (pv 1) (pa_c pe_int pa_nil))))) pa_nil))) (pss_one (ps_ret (pe_tupW (pa_c (pf c_l_draw hr (pa_c (pv 0) (pa_c pe_int pa_nil))) (pa_c (pf c_l_draw hr (pa_c (pv 0) (pa_c pe_int pa_nil))) (pa_c (pv 3) (pa_c (pf c_l_draw hr (pa_c (pv 0) (pa_c pe_int pa_nil))) (pa_c (pf c_l_draw hr (pa_c (pv 0) (pa_c pe_int pa_nil))) (pa_c (pv 2) pa_nil)))))))))))), ?_⟩
  walk_at "rd"
  refine Draw.of tp (by omega) (by decide) (by decide) fun y1 H1 l1 u1 t1 s1 => ?_
  walk_at "rd"
  have tri : ∀ v1 v2 v3 : Int, (0 ≤ v1 ∧ v1 < 4) → (0 ≤ v2 ∧ v2 < 4) → (0 ≤ v3 ∧ v3 < 4) → Tri12 [v1, v2, v3] := fun v1 v2 v3 h1 h2 h3 => ⟨v1, v2, v3, rfl, ⟨h1.1, by omega⟩, ⟨h2.1, by omega⟩, ⟨h3.1, by omega⟩⟩
  refine and_if (fun c1 => ?_) (fun c1 => ?_)
  · obtain ⟨pa, pb, pc, pd, rfl, p1, p2, _, _⟩ := pst_shape2 aA
    have na := tp.neT p1
    have nb := tp.neT p2
    refine Ix.tup (s1.get na p1) (v := .ref pb) rfl (Ix.tup (s1.get nb p2) (v := .int x.lo) rfl ⟨(by decide), fun q1 G1 g1 r1 d1 => ⟨(by decide), fun q2 G2 g2 r2 d2 => ⟨(by decide), fun q3 G3 g3 r3 d3 => ⟨(by decide), fun q4 G4 g4 r4 d4 => ⟨(by decide), fun q5 G5 g5 r5 d5 => ⟨(by decide), fun q6 G6 g6 r6 d6 => ?_⟩⟩⟩⟩⟩⟩)
    have m1 := t1.ne g1
    have m2 := (t1.same r1).ne g2
    have m3 := ((t1.same r1).same r2).ne g3
    have m4 := (((t1.same r1).same r2).same r3).ne g4
    have m5 := ((((t1.same r1).same r2).same r3).same r4).ne g5
    have m6 := (((((t1.same r1).same r2).same r3).same r4).same r5).ne g6
    have r16 := r1.trans (r2.trans (r3.trans (r4.trans (r5.trans r6))))
    have T0 : ∀ qq : Addr, qq ≠ a → G6 qq = some (.tup [.int 0, .int 0, .int 0]) → At (hid a G6) (triD [0, 0, 0]) (.ref qq) := fun qq mq dq => At.tup (by rw [hid_ne mq]; exact dq) (ats_ints [0, 0, 0])
    have hlo := hx.lo
    have hhi := hx.hi
    refine q q6 ⟨0, x.lo, [0, 0, 0, 0, 0], 0, 0, [[0, 0, 0], [0, 0, 0], [0, 0, 0]]⟩ G6 ⟨by show U12 0; exact ⟨by decide, by decide⟩, hlo.1, rfl, fun y hy => ?_, by show x.lo + 0 ≤ 12; omega, by show (0 : Int) ≤ 0 ∧ (0 : Int) ≤ 5; decide, by show (0 : Int) ≤ 0 ∧ (0 : Int) ≤ 9; decide, rfl, fun y hy => ?_⟩ ?_ ((t1.same r16).mono (by omega)) (s1.trans (SX.of r16))
    · simp only [List.mem_cons, List.not_mem_nil, or_false, or_self] at hy
      rw [hy]; decide
    · simp only [List.mem_cons, List.not_mem_nil, or_false, or_self] at hy
      rw [hy]; exact tri 0 0 0 (by decide) (by decide) (by decide)
    · exact At.tup (by rw [hid_ne m6]; exact d6) (AtAll.cons (At.int _) (AtAll.cons (At.int _) (AtAll.cons (At.tup (by rw [hid_ne m1]; exact r6 _ _ (r5 _ _ (r4 _ _ (r3 _ _ (r2 _ _ d1))))) (ats_ints [0, 0, 0, 0, 0])) (AtAll.cons (At.int _) (AtAll.cons (At.int _) (AtAll.cons (At.tup (by rw [hid_ne m5]; exact r6 _ _ d5) (AtAll.cons (T0 q2 m2 (r6 _ _ (r5 _ _ (r4 _ _ (r3 _ _ d2))))) (AtAll.cons (T0 q3 m3 (r6 _ _ (r5 _ _ (r4 _ _ d3)))) (AtAll.cons (T0 q4 m4 (r6 _ _ (r5 _ _ d4))) AtAll.nil)))) AtAll.nil))))))
  · rw [tComp_rng]
    walk_at "rd"
    refine CK.of (n := 3) rfl (by decide) fun acc hacc => ?_
    have ca : acc ≠ a := t1.ne hacc
    refine ⟨fun i ys H' => ∃ us : List (List Int), us.length = i ∧ (∀ u ∈ us, Tri12 u) ∧ AtAll (hid acc (hid a H')) (us.map triD) ys ∧ ys.length = i ∧ H' acc = some (.lst ys) ∧ Tp H' a (n + 1 + 3 * i) ∧ SX a H1 H', ⟨[], rfl, fun u h => by simp at h, AtAll.nil, rfl, upd_same, t1.updN ca, (SX.refl a H1).updN hacc ca⟩, ?_, ?_⟩
    · rintro i ys H2 hi ⟨us, l2, u2, a2, y2, c2, t2, s2⟩
      show tTupW _ [some _, some (.ref a)] H2 _
      walk_at "rd"
      refine Draw.of t2 (by omega) (by decide) (by decide) fun v1 H3 l3 u3 t3 s3 => ?_
      refine Draw.of t3 (by omega) (by decide) (by decide) fun v2 H4 l4 u4 t4 s4 => ?_
      refine Draw.of t4 (by omega) (by decide) (by decide) fun v3 H5 l5 u5 t5 s5 => ⟨(by decide), fun t H6 ht s6 e6 => ?_⟩
      have s25 := s3.trans (s4.trans s5)
      have s26 := s25.trans (SX.of s6)
      have ta : t ≠ a := t5.ne ht
      have c5 := s25.get ca c2
      have tc : t ≠ acc := fun z => by subst z; rw [ht] at c5; cases c5
      refine ⟨s6 _ _ c5, small1000 (by omega), us ++ [[v1, v2, v3]], by rw [List.length_append, l2]; rfl, fun u hu => ?_, ?_, by rw [List.length_append, y2]; rfl, upd_same, ?_, ?_⟩
      · rcases List.mem_append.mp hu with z | z
        · exact u2 u z
        · rw [List.mem_singleton.mp z]; exact tri v1 v2 v3 ⟨l3, u3⟩ ⟨l4, u4⟩ ⟨l5, u5⟩
      · rw [hid_upd_ne ca, hid_upd, List.map_append]
        refine AtAll.append (a2.mono (Same.hid s26)) (AtAll.cons (At.tup (by rw [hid_ne tc, hid_ne ta]; exact e6) (ats_ints [v1, v2, v3])) AtAll.nil)
      · exact ((t5.same s6).updN ca).mono (by omega)
      · exact (s2.trans s26).updN hacc ca
    · rintro ys H2 ⟨us, l2, u2, a2, y2, c2, t2, s2⟩
      refine ⟨acc, ys, rfl, c2, fun l hl => ?_⟩
      have la : l ≠ a := t2.ne hl
      have A1 : At (hid a (upd H2 l (.tup ys))) (.tuple (us.map triD)) (.ref l) := by
        rw [hid_upd_ne la]
        have fr : hid a H2 l = none := by rw [hid_ne la]; exact hl
        exact At.tup upd_same ((a2.mono hid_sub).mono (same_new fr _))
      have t3 : Tp (upd H2 l (.tup ys)) a (n + 1 + 9) := t2.updN la
      have x3 : SX a H1 (upd H2 l (.tup ys)) := s2.trans (SX.of (same_new hl _))
      generalize upd H2 l (.tup ys) = H3 at *
      show tComp _ _ _ _ _ _
      rw [tComp_rng]
      walk_at "rd"
      refine CK.of (n := 5) rfl (by decide) fun acc2 hacc2 => ?_
      have ca2 : acc2 ≠ a := t3.ne hacc2
      refine ⟨fun i zs H' => ∃ cs : List Int, zs = cs.map V.int ∧ cs.length = i ∧ (∀ c ∈ cs, 0 ≤ c ∧ c ≤ 1) ∧ H' acc2 = some (.lst zs) ∧ Tp H' a (n + 1 + 9 + i) ∧ SX a H3 H', ⟨[], rfl, rfl, fun c h => by simp at h, upd_same, t3.updN ca2, (SX.refl a H3).updN hacc2 ca2⟩, ?_, ?_⟩
      · rintro i zs H4 hi ⟨cs, rfl, lc, hc, c4, t4, s4⟩
        show tCall _ _ _ _ [some _, some (.ref a)] H4 _
        walk_at "rd"
        refine Draw.of t4 (by omega) (by decide) (by decide) fun v H5 l5 u5 t5 s5 => ⟨s5.get ca2 c4, by rw [List.length_map]; exact small1000 (by omega), cs ++ [v], by rw [List.map_append]; rfl, by rw [List.length_append, lc]; rfl, fun c hc' => ?_, upd_same, (t5.updN ca2).mono (by omega), (s4.trans s5).updN hacc2 ca2⟩
        rcases List.mem_append.mp hc' with z | z
        · exact hc c z
        · rw [List.mem_singleton.mp z]; omega
      · rintro zs H4 ⟨cs, rfl, lc, hc, c4, t4, s4⟩
        refine ⟨acc2, _, rfl, c4, fun l2' hl2 => ?_⟩
        have la2 : l2' ≠ a := t4.ne hl2
        have A2 : At (hid a (upd H4 l2' (.tup (cs.map V.int)))) (.tuple (cs.map .int)) (.ref l2') := by
          rw [hid_upd_ne la2]
          exact At.tup upd_same (ats_ints cs)
        have t5 : Tp (upd H4 l2' (.tup (cs.map V.int))) a (n + 1 + 9 + 5) := t4.updN la2
        have x5 : SX a H3 (upd H4 l2' (.tup (cs.map V.int))) := s4.trans (SX.of (same_new hl2 _))
        generalize upd H4 l2' (.tup (cs.map V.int)) = H5 at *
        try walk_at "rd"
        refine Draw.of t5 (by omega) (by decide) (by decide) fun v6 H6 l6 u6 t6 s6 => ?_
        refine Draw.of t6 (by omega) (by decide) (by decide) fun v7 H7 l7 u7 t7 s7 => ?_
        refine Draw.of t7 (by omega) (by decide) (by decide) fun v8 H8 l8 u8 t8 s8 => ?_
        refine Draw.of t8 (by omega) (by decide) (by decide) fun v9 H9 l9 u9 t9 s9 => ⟨(by decide), fun z H10 hz s10 e10 => ?_⟩
        have za : z ≠ a := t9.ne hz
        have x10 : SX a H5 H10 := s6.trans (s7.trans (s8.trans (s9.trans (SX.of s10))))
        have hsum : cs.sum ≤ 5 := by
          obtain ⟨e0, e1, e2, e3, e4, rfl⟩ := len5 lc
          have h0 := hc e0 (by simp)
          have h1 := hc e1 (by simp)
          have h2 := hc e2 (by simp)
          have h3 := hc e3 (by simp)
          have h4 := hc e4 (by simp)
          simp only [List.sum_cons, List.sum_nil]
          omega
        refine q z ⟨v6, v7, cs, v8, v9, us⟩ H10 ⟨by show 0 ≤ v6 ∧ v6 ≤ 1000000000000; omega, l7, lc, fun y hy => (hc y hy).1, by show v7 + cs.sum ≤ 12; omega, ⟨l8, by show v8 ≤ 5; omega⟩, ⟨l9, by show v9 ≤ 9; omega⟩, l2, u2⟩ ?_ ((t9.same s10).mono (by omega)) (s1.trans (x3.trans (x5.trans x10)))
        exact At.tup (by rw [hid_ne za]; exact e10) (AtAll.cons (At.int _) (AtAll.cons (At.int _) (AtAll.cons (A2.mono x10) (AtAll.cons (At.int _) (AtAll.cons (At.int _) (AtAll.cons ((A1.mono x5).mono x10) AtAll.nil))))))
theorem Stand2.of {a : Addr} {n : Nat} {v : V} {x : Pst} {H : Hp} {Q : VK} {E : XK} (aA : At H (pstD x) v) (hx : PsL x) (tp : Tp H a n) (hn : n ≤ 100000000) (q : ∀ p y H', StL y → At (hid a H') (stD y) (.ref p) → Tp H' a (n + 60) → SX a H H' → Q (.ref p) H') : spStand2 ([.ref a, v] ++ []) H Q E := ⟨a, n, v, x, rfl, aA, hx, tp, hn, q⟩
def spRowW : Sp := fun vs H Q _ => ∃ (v : V) (p : Addr) (h : Int) (r : RowT) (trs : List (List Int)) (xs : List V), vs = [v, .int h, .ref p] ∧ At H (rowP r) v ∧ H p = some (.lst xs) ∧ AtAll H (trs.map triD) xs ∧ RowG r ∧ Newest trs ∧ ∀ H', Same H H' → Q (saidV (says r h trs)) H'
theorem sc_l_row_wish : FnScope ["_law_row", "_law_hands", "_law_newest", "_law_what", "_law_span", "_law_sign", "_law_number", "_law_step", "_law_at", "_law_whole"] ["_law_row", "_law_hands", "_law_newest"] (defScope s_l_row_wish) := ⟨rfl, rfl, rfl, by decide +kernel, rfl, by decide +kernel, by decide +kernel⟩
theorem ok_l_row_wish (F : Fun K "_law_row_wish" "_law_row_wish" s_l_row_wish f fd) (B : Bi mg) : FnOk P w K mg base CX0 (k + 1) f fd ["_law_row", "_law_hands", "_law_newest"] spRowW := by
  refine F.ok sc_l_row_wish (by rintro vs H Q E ⟨v, p, h, r, trs, xs, rfl, _⟩; rfl) (fun cdv A outer s H vs Q E hr h => ?_)
  obtain ⟨rA, p, hh, r, trs, xs, rfl, a1, h1, a2, hR, hN, q⟩ := h
  have ND := sc_l_row_wish.nd
  refine ⟨_, (pss_cons (ps_asg (pv 0) (pg_tup rfl (pgs_cons (pg_name (i := 3) ND rfl (by first | exact Or.inl rfl | exact Or.inr rfl)) (pgs_cons (pg_name (i := 4) ND rfl (by first | exact Or.inl rfl | exact Or.inr rfl)) (pgs_cons (pg_name (i := 5) ND rfl (by first | exact Or.inl rfl | exact Or.inr rfl)) (pgs_cons (pg_name (i := 6) ND rfl (by first | exact Or.inl rfl | exact Or.inr rfl)) (pgs_cons (pg_name (i := 7) ND rfl (by first | exact Or.inl rfl | exact Or.inr rfl)) pgs_nil))))))) (pss_cons (ps_set (i := 8) ND rfl (by first | exact Or.inl rfl | exact Or.inr rfl) (pe_bm PySem.F.plainAttrs_list PySem.F.slot_list_index PySem.F.type_list_index mt_lindex (pe_lstW (pa_c pe_str (pa_c pe_str (pa_c pe_str pa_nil)))) (pa_c (pv 3) pa_nil))) (pss_cons (ps_set (i := 9) ND rfl (by first | exact Or.inl rfl | exact Or.inr rfl) (pb (call_sumI rfl) B.sum bt_sum (pa_c (pe_comp (N' := ["_law_one", "_law_at"]) (js := [8]) rfl (pi_list (pe_slice sl_list (pv 2) po_none (po_some (pv 4)))) CSc.mk1 rfl (by decide) rfl (fun fp s' H' => (pe_ix ix_obj (pv 0) (pv 1) (fun _ _ => rfl)))) pa_nil))) (pss_cons (ps_if (pt_cmpR op_eq (pv 5) pe_str (nomark _)) (pss_one (ps_ret (pe_op op_fdivB (pe_op op_sub (pe_op op_add (pv 9) (pe_op op_mul (pv 6) (pv 4))) pe_int) (pe_op op_mul (pv 6) (pv 4))))) pss_nil) (pss_cons (ps_if (pt_cmpR op_eq (pv 5) pe_str (nomark _)) (pss_one (ps_ret (pe_ifExp (pt_cmpR op_gt (pv 9) (pe_op op_mul (pv 6) (pv 4)) (nomark _)) (pe_op op_add (pv 1) (pv 7)) pe_non))) pss_nil) (pss_one (ps_ret (pe_ifExp (pt_cmpR op_lt (pv 9) (pe_op op_mul (pv 6) (pv 4)) (nomark _)) (pe_op op_add (pv 1) (pv 7)) pe_non)))))))), ?_⟩
  obtain ⟨ra, rfl, g1⟩ := row_shape a1
  walk_at "rd"
  refine ⟨ra, _, rfl, SqT.of g1, rfl, ?_⟩
  walk_at "rd"
  have hRi := hR.is
  refine ⟨(by decide), fun p2 H2 f2 s2 e2 => ⟨.inl ⟨rfl, _, SqL.of e2⟩, p2, r.w, rfl, e2, rfl, hRi.w, ?_⟩⟩
  show tComp _ _ _ _ _ _
  rw [tComp_lst]
  walk_at "rd"
  refine ⟨p, _, rfl, SqL.of (s2 _ _ h1), fun p3 f3 => ?_⟩
  rw [cut_to (by omega), Int.toNat_natCast]
  have s3 := same_new f3 (HO.lst (xs.take r.s))
  have e3 : upd H2 p3 (HO.lst (xs.take r.s)) p3 = some (.lst (xs.take r.s)) := upd_same
  generalize upd H2 p3 (HO.lst (xs.take r.s)) = H3 at s3 e3 ⊢
  have a3 : AtAll H3 ((trs.take r.s).map triD) (xs.take r.s) := by rw [List.map_take]; exact (a2.take r.s).mono (s2.trans s3)
  have hs4 := hRi.s
  have htl : (trs.take r.s).length ≤ 4 := by rw [List.length_take]; omega
  refine LCK.of (es := ((trs.take r.s).map fun l => l.getD (whatIx r.w) 0).map .int) e3 (by rw [a3.length, List.length_map, List.length_map, List.length_map]) (Nat.le_of_lt (small1000 (by rw [List.length_map, List.length_map]; omega))) (ints_noL _) (fun i y e H' hy he s' R hR' => ?_) (fun acc ys H' s' facc hl hA => ?_)
  · obtain ⟨d, q1, q2⟩ := a3.get hy
    rw [List.getElem?_map] at q1
    obtain ⟨l, el, rfl⟩ := Option.map_eq_some_iff.mp q1
    obtain ⟨c, zs, rfl, k1, k2⟩ := tup_ats (q2.mono s')
    cases ats_back k2
    rw [List.getElem?_map, List.getElem?_map, el] at he
    cases he
    have l3 : l.length = 3 := hN.l l (List.mem_of_mem_take (List.mem_of_getElem? el))
    have hw := whatIx_lt r.w
    show tOp _ _ _ [some _, some (.int _)] H' R
    walk_at "rd"
    refine Ix.tup k1 (v := .int (l.getD (whatIx r.w) 0)) (atI_nat (by rw [List.getElem?_map, List.getElem?_eq_getElem (by omega), List.getD_eq_getElem?_getD, List.getElem?_eq_getElem (by omega)]; rfl)) ?_
    exact hR' _ _ (Same.refl _) (At.int _)
  · have hys := ats_back hA
    rw [hys] at hl
    refine ⟨acc, _, rfl, .inl hl, ?_⟩
    have sm := s2.trans (s3.trans s')
    have q1 := q H' sm
    unfold says at q1
    have et : ((trs.take r.s).map fun l => l.getD (whatIx r.w) 0).sum = totOf r.w r.s trs := rfl
    rw [et]
    have cm : CMul r.n r.s := .inr (by omega)
    refine and_if (fun c1 => ?_) (fun c1 => ?_)
    · have c1' := of_decide_eq_true c1
      rw [if_pos c1'] at q1
      have h1n := hRi.e c1'
      have hpos : 0 < r.n * (r.s : Int) := Int.mul_pos (by omega) (by omega)
      have hup : r.n * (r.s : Int) ≤ 1000000000000 * 4 := Int.mul_le_mul hRi.n.2 (by omega) (by omega) (by decide)
      exact ⟨cm, cm, ⟨hpos, Int.lt_of_le_of_lt hup (by decide)⟩, q1⟩
    · have c1' := of_decide_eq_false c1
      rw [if_neg c1'] at q1
      generalize totOf r.w r.s trs = tot at q1 ⊢
      refine and_if (fun c2 => ⟨cm, ?_⟩) (fun c2 => ⟨cm, ?_⟩)
      · have o1 := of_decide_eq_true c2
        have u1 : ¬ r.g = "under" := by rw [o1]; decide +kernel
        refine and_if (fun c3 => ?_) (fun c3 => ?_)
        · rw [if_pos (.inl ⟨o1, of_decide_eq_true c3⟩)] at q1; exact q1
        · rw [if_neg (fun z => by rcases z with z | z; exact of_decide_eq_false c3 z.2; exact u1 z.1)] at q1; exact q1
      · have o1 := of_decide_eq_false c2
        have u1 : r.g = "under" := by
          have hG3 := hR.g
          simp only [List.mem_cons, List.not_mem_nil, or_false] at hG3
          rcases hG3 with z | z | z
          · exact absurd z o1
          · exact z
          · exact absurd z c1'
        refine and_if (fun c3 => ?_) (fun c3 => ?_)
        · rw [if_pos (.inr ⟨u1, of_decide_eq_true c3⟩)] at q1; exact q1
        · rw [if_neg (fun z => by rcases z with z | z; exact o1 z.1; exact of_decide_eq_false c3 z.2)] at q1; exact q1
theorem lint_data (is : List Int) : PyData.hasDict (.list (is.map .int)) = false ∧ PyData.canLay0 (.list (is.map .int)) = true ∧ PyData.depth (.list (is.map .int)) ≤ 60 := by
  obtain ⟨d1, d2, d3⟩ := ints_data is
  exact ⟨by simpa [PyData.hasDict] using d1, by simpa [PyData.canLay0] using d2, by show PyData.depthAll _ + 1 ≤ 60; rw [d3]; decide⟩
def saidD : Option Int → PyData
  | none => .none
  | some i => .int i
theorem said_noL : ∀ os : List (Option Int), noLAll (os.map saidD) = true
  | [] => rfl
  | o :: os => by
    show (noL (saidD o) && noLAll (os.map saidD)) = true
    rw [said_noL os]; cases o <;> rfl
theorem said_back {G : Hp} : ∀ {os : List (Option Int)} {xs : List V}, AtAll G (os.map saidD) xs → xs = os.map saidV
  | [], xs, h => AtAll.unnil h
  | o :: os, xs, h => by
    obtain ⟨x, r, rfl, h1, h2⟩ := AtAll.uncons h
    rw [said_back h2]
    cases o with
    | none => unfold saidD At at h1; rw [h1]; rfl
    | some i => unfold saidD At at h1; rw [h1]; rfl
theorem range_filter {l : List V} {d : V} {P : V → Bool} : ((List.range l.length).filter fun i => P (l.getD i d)).map (fun i => l.getD i d) = l.filter P := by
  have e : (List.range l.length).map (fun i => l.getD i d) = l := by
    apply List.ext_getElem
    · simp
    · intro i h1 h2
      rw [List.getElem_map, List.getElem_range, List.getD_eq_getElem?_getD, List.getElem?_eq_getElem h2]; rfl
  have := congrArg (List.filter P) e
  rw [List.filter_map] at this
  exact this
theorem said_some : ∀ os : List (Option Int), (os.map saidV).filter (fun v => !decide (v = V.non)) = (os.filterMap id).map V.int
  | [] => rfl
  | none :: os => by
    rw [List.map_cons, List.filter_cons, List.filterMap_cons]
    simp only [saidV, decide_true, Bool.not_true, Bool.false_eq_true, if_false, id]
    exact said_some os
  | some i :: os => by
    rw [List.map_cons, List.filter_cons, List.filterMap_cons]
    have e : (!decide (saidV (some i) = V.non)) = true := by simp [saidV]
    rw [if_pos e, said_some os]; rfl
def firstOr (h : Int) : List Int → Int
  | [] => h
  | i :: _ => i
theorem rwish_first (h : Int) (trs : List (List Int)) : ∀ rs : List RowT, rwish h trs rs = firstOr h ((rs.map fun r => says r h trs).filterMap id)
  | [] => rfl
  | r :: rs => by
    rw [rwish, List.map_cons, List.filterMap_cons]
    cases e : says r h trs with
    | none => simp only [id]; exact rwish_first h trs rs
    | some i => rfl
def spLWish : Sp := fun vs H Q _ => ∃ (v : V) (p : Addr) (h : Int) (x : Pst) (trs : List (List Int)) (xs : List V), vs = [v, .int h, .ref p] ∧ At H (pstD x) v ∧ H p = some (.lst xs) ∧ AtAll H (trs.map triD) xs ∧ PsL x ∧ Newest trs ∧ ∀ H', Same H H' → Q (.int (wishI x.rss x.lo x.hi h trs)) H'
theorem sc_l_wish : FnScope ["_law_post", "_law_hands", "_law_newest", "_law_wishes", "_law_rule", "_law_some", "_law_wanted"] ["_law_post", "_law_hands", "_law_newest"] (defScope s_l_wish) := ⟨rfl, rfl, rfl, by decide +kernel, rfl, by decide +kernel, by decide +kernel⟩
theorem ok_l_wish (F : Fun K "_law_wish" "_law_wish" s_l_wish f fd) (B : Bi mg) (c_l_row_wish : Ct P w K mg base k "_law_row_wish" ["_law_row", "_law_hands", "_law_newest"] spRowW) : FnOk P w K mg base CX0 (k + 1) f fd ["_law_post", "_law_hands", "_law_newest"] spLWish := by
  refine F.ok sc_l_wish (by rintro vs H Q E ⟨v, p, h, x, trs, xs, rfl, _⟩; rfl) (fun cdv A outer s H vs Q E hr h => ?_)
  obtain ⟨pA, p, hh, x, trs, xs, rfl, a1, h1, a2, hx, hN, q⟩ := h
  have ND := sc_l_wish.nd
  refine ⟨_, (pss_cons (ps_set (i := 3) ND rfl (by first | exact Or.inl rfl | exact Or.inr rfl) (pe_lstW pa_nil)) (pss_cons (ps_for PassesOwn.never rfl (pi_tup (pe_ix ix_obj (pv 0) pe_int (fun _ _ => rfl))) (pg_name (i := 4) ND rfl (by first | exact Or.inl rfl | exact Or.inr rfl)) (pss_cons (ps_compG (i := 5) ND rfl (by first | exact Or.inl rfl | exact Or.inr rfl) (nt := 1) (N' := ["_law_one"]) (js := []) rfl (pi_list (pe_comp (N' := ["_law_row", "_law_hands", "_law_newest"]) (js := [1, 2]) rfl (pi_tup (pv 4)) CSc.mk2 rfl (by decide) rfl (fun fp s' H' => (pf c_l_row_wish hr (pa_c (pv 0) (pa_c (pv 1) (pa_c (pv 2) pa_nil))))))) CScG.of (fun fp s' H' => (pg_name (i := 0) (by show List.Nodup (["_law_one"] : List Str); decide) rfl (.inl (lookup_relabel_local rfl)) (.inr (lookup_relabel_local rfl)))) (fun fp s' H' => ifs_one (pt_cmpR op_notN (pv 0) pe_non (nomark _))) (fun fp s' H' => (pv 0))) (pss_one (ps_expr (pe_bm PySem.F.plainAttrs_list PySem.F.slot_list_append PySem.F.type_list_append mt_append (pv 3) (pa_c (pe_ifExp (pt_cmpR (op_neD hr.units) (pv 5) (pe_lstW pa_nil) (nomark _)) (pe_ix ix_obj (pv 5) pe_int (fun _ _ => rfl)) (pv 1)) pa_nil)))))) (pss_cons (ps_set (i := 6) ND rfl (by first | exact Or.inl rfl | exact Or.inr rfl) (pe_ifExp (pt_cmpR (op_neD hr.units) (pv 3) (pe_lstW pa_nil) (nomark _)) (pb (call_maxL rfl) B.max bt_max (pa_c (pv 3) pa_nil)) (pv 1))) (pss_one (ps_ret (pb (call_max2 rfl) B.max bt_max (pa_c (pe_ix ix_obj (pe_ix ix_obj (pv 0) pe_int (fun _ _ => rfl)) pe_int (fun _ _ => rfl)) (pa_c (pb (call_min2 rfl) B.min bt_min (pa_c (pe_ix ix_obj (pe_ix ix_obj (pv 0) pe_int (fun _ _ => rfl)) pe_int (fun _ _ => rfl)) (pa_c (pv 6) pa_nil))) pa_nil)))))))), ?_⟩
  obtain ⟨pa, pb, pc, pd, rfl, p1, p2, p3, p4⟩ := pst_shape2 a1
  walk_at "rd"
  refine ⟨(by decide), fun pw H2 f2 s2 e2 => ?_⟩
  obtain ⟨_, rs, ep, gr, ar⟩ := tup_ats p4
  cases ep
  have lrs : rs.length = x.rss.length := by rw [ar.length, List.length_map]
  rw [tFor_tup]
  walk_at "rd"
  refine Ix.tup (s2 _ _ p1) (v := .ref pd) rfl ?_
  refine TK.of (s2 _ _ gr) (fun i σ H' => ∃ (o4 o5 o6 : Option V), σ = [some (.ref pa), some (.int hh), some (.ref p), some (.ref pw), o4, o5, o6] ∧ H' pw = some (.lst (((x.rss.take i).map (rwish hh trs)).map V.int)) ∧ SX pw H H')
    ⟨_, _, _, rfl, e2, SX.of s2⟩ (fun i σ H' _ ⟨_, _, _, _, _, sx⟩ => (SX.same f2 sx) _ _ gr) ?_ ?_
  · rintro i y σ H3 hy ⟨o4, o5, o6, rfl, e3, sx⟩
    have sm := SX.same f2 sx
    obtain ⟨d, ed, ad⟩ := ar.get hy
    rw [List.getElem?_map] at ed
    obtain ⟨rl, erl, rfl⟩ := Option.map_eq_some_iff.mp ed
    have hG := hx.r rl (List.mem_of_getElem? erl)
    obtain ⟨ra, zs, rfl, g1, g2⟩ := tup_ats (ad.mono sm)
    have lz : zs.length = rl.length := by rw [g2.length, List.length_map]
    walk_at "rd"
    rw [tCompG_lst]
    refine comp_TV (es := (rl.map fun r => says r hh trs).map saidD) (fun R hR => ?_) g1 (by rw [List.length_map, List.length_map, lz]) (Nat.le_of_lt (small1000 (by rw [List.length_map, List.length_map]; have := hG.hi; omega))) (said_noL _) (fun j z e H' hz he s' R hR => ?_) (fun acc ys H4 s4 facc h4 hA => ?_)
    · walk_at "rd"; exact hR
    · obtain ⟨d, q1, q2⟩ := g2.get hz
      rw [List.getElem?_map] at q1
      obtain ⟨r, er, rfl⟩ := Option.map_eq_some_iff.mp q1
      rw [List.getElem?_map, List.getElem?_map, er] at he
      cases he
      show tCall _ _ _ _ [some _, some (.int hh), some (.ref p)] H' R
      walk_at "rd"
      refine ⟨_, p, hh, r, trs, xs, rfl, q2.mono s', (sm.trans s') _ _ h1, a2.mono (sm.trans s'), hG.g r (List.mem_of_getElem? er), hN, fun H'' s'' => hR _ _ s'' ?_⟩
      show At H'' (saidD (says r hh trs)) (saidV (says r hh trs))
      cases says r hh trs with
      | none => exact At.non
      | some i => exact At.int _
    · have hys := said_back hA
      have lys : ys.length = rl.length := by rw [hys, List.length_map, List.length_map]
      have e4 : H4 pw = some (.lst (((x.rss.take i).map (rwish hh trs)).map V.int)) := s4 _ _ e3
      show tCompG 1 [] (iList K (fun _ G R => R (V.ref acc) G)) _ _ _ _ H4 _
      refine compF_L (fun j => !decide (ys.getD j .non = V.non)) (fun j => ys.getD j .non) (fun R hR => hR) h4 (by have := hG.hi; omega) (fun j z H' hz s' R hR => ?_) (fun j z H' hz hk s' R hR => ?_) (fun acc2 H5 s5 facc2 h5 => ?_)
      · walk_at "rd"
        have ez : ys.getD j .non = z := by rw [List.getD_eq_getElem?_getD, hz]; rfl
        rw [ez] at hR
        exact ⟨trivial, hR⟩
      · walk_at "rd"
        have ez : ys.getD j .non = z := by rw [List.getD_eq_getElem?_getD, hz]; rfl
        rw [ez] at hR
        exact hR
      · rw [range_filter (P := fun v => !decide (v = V.non)), hys, said_some] at h5
        have hrw := rwish_first hh trs rl
        generalize hI : (rl.map fun r => says r hh trs).filterMap id = is at h5 hrw
        have e5 := s5 _ _ e4
        have s35 := s4.trans s5
        have ap : ∀ (v : Int) (H6 : Hp), v = rwish hh trs rl → Same H5 H6 → rAppend (V.ref pw) [V.int v] H6 (fun _ H1 => ∃ (o4 o5 o8 : Option V), [some (V.ref pa), some (V.int hh), some (V.ref p), some (V.ref pw), some (V.ref ra), some (V.ref acc2), o6] = [some (V.ref pa), some (V.int hh), some (V.ref p), some (V.ref pw), o4, o5, o8] ∧ H1 pw = some (HO.lst (List.map V.int (List.map (rwish hh trs) (List.take (i + 1) x.rss)))) ∧ SX pw H H1) := fun v H6 hv s6 => by
          refine ⟨pw, _, _, rfl, rfl, s6 _ _ e5, small1000 (by rw [List.length_map, List.length_map, List.length_take]; have := hx.n; omega), ?_⟩
          refine ⟨_, _, _, rfl, ?_, (sx.trans (SX.of (s35.trans s6))).trans SX.upd⟩
          rw [take_snoc erl, List.map_append, List.map_append, hv]
          exact upd_same
        refine ⟨.inl ⟨rfl, _, SqL.of e5⟩, (by decide), fun p6 H6 f6 s6 e6 => ?_⟩
        have z := lint_data is
        refine ⟨.list (is.map .int), .list [], At.lst (s6 _ _ h5) (ats_ints _), At.lst e6 AtAll.nil, z.1, rfl, z.2.1, rfl, z.2.2, ?_⟩
        cases is with
        | nil =>
          have eq : PyData.eqv (.list (([] : List Int).map .int)) (.list []) = true := rfl
          rw [eq, if_neg (by decide)]
          exact ap hh H6 hrw.symm s6
        | cons i0 is' =>
          have eq : PyData.eqv (.list ((i0 :: is').map .int)) (.list []) = false := rfl
          rw [eq, if_pos (by decide)]
          exact Ix.lst (s6 _ _ h5) (v := .int i0) (atI_nat (j := 0) rfl) (ap i0 H6 hrw.symm s6)
  · rintro σ H3 ⟨o4, o5, o6, rfl, e3, sx⟩
    have sm := SX.same f2 sx
    rw [lrs, List.take_length] at e3
    walk_at "rd"
    refine ⟨(by decide), fun p4' H4 f4 s4 e4 => ?_⟩
    have fin : ∀ w : Int, w = topOf hh (x.rss.map (rwish hh trs)) → ∀ H5, Same H H5 → rIxO (V.ref pa) (V.int 2) H5 fun x H1 => rIxO x (V.int 0) H1 fun x H1 => rIxO (V.ref pa) (V.int 2) H1 fun x_1 H1 => rIxO x_1 (V.int 1) H1 fun x_2 H1 => ∃ i j, [x_2, V.int w] = [V.int i, V.int j] ∧ ∃ i_1 j_1, [x, V.int (if j < i then j else i)] = [V.int i_1, V.int j_1] ∧ Q (V.int (if j_1 > i_1 then j_1 else i_1)) H1 := fun w hw H5 s5 => by
      refine Ix.tup (s5 _ _ p1) (v := .ref pb) rfl (Ix.tup (s5 _ _ p2) (v := .int x.lo) rfl (Ix.tup (s5 _ _ p1) (v := .ref pb) rfl (Ix.tup (s5 _ _ p2) (v := .int x.hi) rfl ⟨_, _, rfl, _, _, rfl, ?_⟩)))
      have h9 := q H5 s5
      have e9 : wishI x.rss x.lo x.hi hh trs = (if (if w < x.hi then w else x.hi) > x.lo then (if w < x.hi then w else x.hi) else x.lo) := by
        unfold wishI
        rw [← hw]
        have := hx.lo
        simp only
        repeat' split <;> try omega
      rw [e9] at h9
      exact h9
    have z := lint_data (x.rss.map (rwish hh trs))
    refine ⟨.list ((x.rss.map (rwish hh trs)).map .int), .list [], At.lst (s4 _ _ e3) (ats_ints _), At.lst e4 AtAll.nil, z.1, rfl, z.2.1, rfl, z.2.2, ?_⟩
    have sm4 := sm.trans s4
    have e3' := s4 _ _ e3
    cases hW : x.rss.map (rwish hh trs) with
    | nil =>
      have eq : PyData.eqv (.list (([] : List Int).map .int)) (.list []) = true := rfl
      rw [eq, if_neg (by decide)]
      exact fin hh (by rw [hW]; rfl) _ sm4
    | cons w0 ws =>
      have eq : PyData.eqv (.list ((w0 :: ws).map .int)) (.list []) = false := rfl
      rw [eq, if_pos (by decide)]
      rw [hW] at e3'
      refine ⟨pw, w0, ws, rfl, e3', ?_⟩
      exact fin _ (by rw [hW]; rfl) _ sm4
end
end K64
namespace K64
open PySem L2
theorem goHome_sum : ∀ (cs : List Int) (g : Int), (goHome cs g).1.sum = cs.sum - g + (goHome cs g).2
  | [], g => by simp [goHome]; omega
  | c :: cs, g => by
    have := goHome_sum cs g
    rw [goHome, List.sum_cons, List.sum_cons, this]
    simp only
    generalize (if (goHome cs g).2 < c then (goHome cs g).2 else c) = z
    omega
theorem goHome_nn : ∀ (cs : List Int) (g : Int), (∀ c ∈ cs, 0 ≤ c) → 0 ≤ g → (∀ c ∈ (goHome cs g).1, 0 ≤ c) ∧ 0 ≤ (goHome cs g).2 ∧ ((goHome cs g).2 = 0 ∨ (goHome cs g).1.sum = 0)
  | [], g, _, hg => ⟨by simp [goHome], by simpa [goHome] using hg, .inr (by simp [goHome])⟩
  | c :: cs, g, h, hg => by
    obtain ⟨h1, h2, h3⟩ := goHome_nn cs g (fun y hy => h y (List.mem_cons_of_mem _ hy)) hg
    have hc := h c List.mem_cons_self
    rw [goHome]
    simp only
    generalize hG : (goHome cs g).2 = G at *
    refine ⟨fun y hy => ?_, ?_, ?_⟩
    · rcases List.mem_cons.mp hy with z | z
      · rw [z]; split <;> omega
      · exact h1 y z
    · split <;> omega
    · rw [List.sum_cons]
      split <;> omega
/-- what a change makes of hands -/
structure Wth (x : Pst) (st n : Stn) (ch : Int) : Prop where
  w : n.w = st.w
  s : n.s = st.s
  u : n.us = st.us
  r : 0 ≤ n.r
  c : n.cs.length = 5
  cn : ∀ y ∈ n.cs, 0 ≤ y
  sm : n.r + n.cs.sum = st.r + st.cs.sum + ch
  t : n.t = if ch = 0 then st.t else if 0 < ch then x.u else x.d
theorem with_props {x : Pst} {st : Stn} {ch : Int} (ha : x.a ≤ 4) (hr : 0 ≤ st.r) (hl : st.cs.length = 5) (hc : ∀ y ∈ st.cs, 0 ≤ y) (hz : 0 ≤ st.r + st.cs.sum + ch) : Wth x st (withI x st ch) ch := by
  by_cases c1 : ch = 0
  · subst c1
    have e : withI x st 0 = st := rfl
    rw [e]
    exact ⟨rfl, rfl, rfl, hr, hl, hc, by omega, rfl⟩
  · by_cases c2 : 0 < ch
    · have e : withI x st ch = { st with cs := st.cs.take x.a ++ [st.cs.getD x.a 0 + ch] ++ st.cs.drop (x.a + 1), t := x.u } := by unfold withI; rw [if_neg c1, if_pos c2]
      rw [e]
      refine ⟨rfl, rfl, rfl, hr, ?_, ?_, ?_, ?_⟩
      · simp only [List.length_append, List.length_take, List.length_drop, List.length_cons, List.length_nil]
        omega
      · intro y hy
        rcases List.mem_append.mp hy with z | z
        · rcases List.mem_append.mp z with z | z
          · exact hc y (List.mem_of_mem_take z)
          · rw [List.mem_singleton.mp z]
            have hlt : x.a < st.cs.length := by omega
            have : 0 ≤ st.cs.getD x.a 0 := by
              rw [List.getD_eq_getElem?_getD, List.getElem?_eq_getElem hlt]
              exact hc _ (List.getElem_mem hlt)
            omega
        · exact hc y (List.mem_of_mem_drop z)
      · show st.r + (st.cs.take x.a ++ [st.cs.getD x.a 0 + ch] ++ st.cs.drop (x.a + 1)).sum = _
        obtain ⟨y0, y1, y2, y3, y4, ey⟩ := len5 hl
        rw [ey]
        have : x.a = 0 ∨ x.a = 1 ∨ x.a = 2 ∨ x.a = 3 ∨ x.a = 4 := by omega
        rcases this with e | e | e | e | e <;> rw [e] <;> simp <;> omega
      · show x.u = _
        rw [if_neg c1, if_pos c2]
    · have e : withI x st ch = { st with r := st.r - (goHome st.cs (-ch)).2, cs := (goHome st.cs (-ch)).1, t := x.d } := by unfold withI; rw [if_neg c1, if_neg c2]
      rw [e]
      obtain ⟨k1, k2, k3⟩ := goHome_nn st.cs (-ch) hc (by omega)
      have k4 := goHome_sum st.cs (-ch)
      have k5 := sum_nn _ k1
      refine ⟨rfl, rfl, rfl, ?_, ?_, k1, ?_, ?_⟩
      · show 0 ≤ st.r - (goHome st.cs (-ch)).2
        omega
      · show (goHome st.cs (-ch)).1.length = 5
        rw [goHome_len]; exact hl
      · show st.r - (goHome st.cs (-ch)).2 + (goHome st.cs (-ch)).1.sum = _
        omega
      · show x.d = _
        rw [if_neg c1, if_neg c2]
theorem hands_moved {st : Stn} (h : st.cs.length = 5) : readyI st + (st.cs.drop 1 ++ [0]).sum = st.r + st.cs.sum := by
  obtain ⟨a, b, c, d, e, hc⟩ := len5 h
  unfold readyI
  rw [hc]
  simp
  omega
theorem ready_nn {st : Stn} (h : st.cs.length = 5) (hr : 0 ≤ st.r) (hc : ∀ y ∈ st.cs, 0 ≤ y) : 0 ≤ readyI st := by
  obtain ⟨a, b, c, d, e, ec⟩ := len5 h
  have := hc a (by rw [ec]; exact List.mem_cons_self)
  unfold readyI; rw [ec]; show 0 ≤ st.r + a; omega
theorem moved_nn {st : Stn} (hc : ∀ y ∈ st.cs, 0 ≤ y) : ∀ y ∈ st.cs.drop 1 ++ [0], 0 ≤ y := fun y hy => by
  rcases List.mem_append.mp hy with z | z
  · exact hc y (List.mem_of_mem_drop z)
  · rw [List.mem_singleton.mp z]; exact Int.le_refl 0

theorem goHome_zero : ∀ cs : List Int, (∀ c ∈ cs, 0 ≤ c) → goHome cs 0 = (cs, 0)
  | [], _ => rfl
  | c :: cs, h => by
    have hc := h c List.mem_cons_self
    rw [goHome, goHome_zero cs fun y hy => h y (List.mem_cons_of_mem _ hy)]
    simp only
    have e : (if 0 < c then (0 : Int) else c) = 0 := by split <;> omega
    rw [e, Int.sub_zero, Int.sub_zero]
/-- one hand more sent home -/
theorem home_next : ∀ (cs : List Int) (n : Int),
    (∀ j : Nat, j < cs.length → 0 < (goHome cs n).1.getD j 0 → (∀ k : Nat, j < k → k < cs.length → ¬ 0 < (goHome cs n).1.getD k 0) → goHome cs (n + 1) = ((goHome cs n).1.set j ((goHome cs n).1.getD j 0 - 1), (goHome cs n).2)) ∧
    ((∀ k : Nat, k < cs.length → ¬ 0 < (goHome cs n).1.getD k 0) → goHome cs (n + 1) = ((goHome cs n).1, (goHome cs n).2 + 1))
  | [], n => ⟨fun j hj => by simp at hj, fun _ => rfl⟩
  | c :: cs, n => by
    obtain ⟨iA, iB⟩ := home_next cs n
    rw [goHome, goHome]
    generalize hd : (goHome cs n).1 = ds at *
    generalize hm : (goHome cs n).2 = m at *
    simp only
    refine ⟨fun j hj hp hq => ?_, fun hq => ?_⟩
    · cases j with
      | zero =>
        have hB := iB fun k hk => by
          have := hq (k + 1) (by omega) (by rw [List.length_cons]; omega)
          simpa using this
        have hp' : 0 < c - (if m < c then m else c) := by simpa using hp
        rw [hB]
        simp only [List.getD_cons_zero, List.set_cons_zero]
        split at hp'
        · rename_i z
          rw [if_pos z]
          by_cases z2 : m + 1 < c
          · rw [if_pos z2]
            refine Prod.ext ?_ ?_
            · simp only; congr 1; omega
            · simp only; omega
          · rw [if_neg z2]
            refine Prod.ext ?_ ?_
            · simp only; congr 1; omega
            · simp only; omega
        · omega
      | succ j =>
        have hA := iA j (by rw [List.length_cons] at hj; omega) (by simpa using hp) fun k h1 h2 => by
          have := hq (k + 1) (by omega) (by rw [List.length_cons]; omega)
          simpa using this
        rw [hA]
        simp
    · have hB := iB fun k hk => by
        have := hq (k + 1) (by rw [List.length_cons]; omega)
        simpa using this
      have h0 := hq 0 (by rw [List.length_cons]; omega)
      have h0' : ¬ 0 < c - (if m < c then m else c) := by simpa using h0
      rw [hB]
      simp only
      split at h0'
      · omega
      · rename_i z
        rw [if_neg z, if_neg (by omega)]
        refine Prod.ext rfl ?_
        simp only; omega
/-- the last place that has a hand -/
theorem last_at (kp : Nat → Bool) (f : Nat → V) : ∀ n : Nat, (((List.range n).filter kp).map f = [] ∧ ∀ k, k < n → kp k = false) ∨
    ∃ (j : Nat) (ini : List V), j < n ∧ kp j = true ∧ (∀ k, j < k → k < n → kp k = false) ∧ ((List.range n).filter kp).map f = ini ++ [f j]
  | 0 => .inl ⟨rfl, fun k h => by omega⟩
  | n + 1 => by
    have hs := filt_snoc kp f n
    cases e : kp n with
    | true =>
      rw [e, if_pos rfl] at hs
      exact .inr ⟨n, _, by omega, e, fun k h1 h2 => by omega, hs⟩
    | false =>
      rw [e, if_neg (by decide), List.append_nil] at hs
      rcases last_at kp f n with ⟨h1, h2⟩ | ⟨j, ini, h1, h2, h3, h4⟩
      · refine .inl ⟨by rw [hs]; exact h1, fun k hk => ?_⟩
        by_cases z : k = n
        · rw [z]; exact e
        · exact h2 k (by omega)
      · refine .inr ⟨j, ini, by omega, h2, fun k k1 k2 => ?_, by rw [hs]; exact h4⟩
        by_cases z : k = n
        · rw [z]; exact e
        · exact h3 k k1 (by omega)
theorem set_is {l : List Int} {a : Nat} {v : Int} (h : a < l.length) : l.set a v = l.take a ++ [v] ++ l.drop (a + 1) := by
  rw [List.set_eq_take_append_cons_drop, if_pos h, List.append_assoc]; rfl
end K64
namespace K64
open PySem L2
local macro_rules | `(tactic| walk_at "rd") => `(tactic| simp only [L2.start, List.map_cons, List.map_nil, List.length_cons, List.length_nil, Nat.reduceAdd, Nat.reduceSub, List.replicate, List.cons_append, List.nil_append, List.append_nil,
  tSeq, tIfS, tRet, tRetN, tNext, tAsg, gName, tDrop, rd_var0, rd_varS, rd_gcons, rd_gnil, if_true, if_false, Bool.false_eq_true, Bool.not_true, Bool.not_false, rd_set0, rd_setS, rd_eqI, rd_neI, rd_eqS, rd_neS, rd_argI, rd_argB, rd_argII, rd_test, rd_int, rd_ii, tC, tOp, tUn, rI0, rI, rU, tTest, tAnd, tOr, tNot, tAndV, tOrV, tNotV, tIf, tCall, tCB, tCons, tNil, tB, tChain, tSl, tNoPart, tPart, gSub, tPar, tLst, tTup, tLstW, tTupW, tBM, tAug, tPar3, tAugS, ipI, tMaxD, tGT2, tFv, tJs, tJ1, tJ0, tTru, tCallE, tRaise, xPe, xCall, xIf, xSet, xDrop, xIfS, xPs, xSeq])
local macro_rules | `(tactic| walk_at "cap") => `(tactic| simp only [capS, List.map_cons, List.map_nil, List.getElem?_cons_zero, List.getElem?_cons_succ, Option.join_some])
section
variable {P : Program} {w : World} {K : PySem.W.Frag} {mg : Str → Option Value} {base : Heap} {f : Addr} {fd : FuncData} {k : Nat}
structure StW (st : Stn) : Prop where
  is : StIs st
  r : 0 ≤ st.r
  cn : ∀ y ∈ st.cs, 0 ≤ y
  sm : st.r + st.cs.sum ≤ 12
  t : 0 ≤ st.t
def spLBeat : Sp := fun vs H Q _ => ∃ (v u : V) (x : Pst) (st : Stn) (come : Int), vs = [v, u, .int come] ∧ At H (pstD x) v ∧ At H (stD st) u ∧ PsL x ∧ StW st ∧
  ∀ p u' H', Same H H' → At H' (stD (nextI x st come)) u' → H' p = some (.tup [u', .int (come - takenI x st come), .int (chI x st come 12)]) → Q (.ref p) H'
theorem sc_l_beat : FnScope ["_law_post", "_law_stand", "_law_come", "_law_pace", "_law_room", "_law_hands", "_law_late", "_law_every", "_law_rests", "_law_rules", "_law_wait", "_law_ready", "_law_called", "_law_since", "_law_rest", "_law_seen", "_law_line", "_law_here", "_law_done", "_law_newest", "_law_change", "_law_there", "_law_k", "_law_last"] ["_law_post", "_law_stand", "_law_come"] (defScope s_l_beat) := ⟨rfl, rfl, rfl, by decide +kernel, rfl, by decide +kernel, by decide +kernel⟩
theorem ok_l_beat (F : Fun K "_law_beat" "_law_beat" s_l_beat f fd) (B : Bi mg) (c_l_wish : Ct P w K mg base k "_law_wish" ["_law_post", "_law_hands", "_law_newest"] spLWish) : FnOk P w K mg base CX0 (k + 1) f fd ["_law_post", "_law_stand", "_law_come"] spLBeat := by
  refine F.ok sc_l_beat (by rintro vs H Q E ⟨v, u, x, st, come, rfl, _⟩; rfl) (fun cdv A outer s H vs Q E hr h => ?_)
  obtain ⟨pA, sA, x, st, come, rfl, a1, a2, hx, hs, q⟩ := h
  have ND := sc_l_beat.nd
  refine ⟨_, (pss_cons (ps_asg (pv 0) (pg_tup rfl (pgs_cons (pg_name (i := 3) ND rfl (by first | exact Or.inl rfl | exact Or.inr rfl)) (pgs_cons (pg_name (i := 4) ND rfl (by first | exact Or.inl rfl | exact Or.inr rfl)) (pgs_cons (pg_name (i := 5) ND rfl (by first | exact Or.inl rfl | exact Or.inr rfl)) (pgs_cons (pg_name (i := 6) ND rfl (by first | exact Or.inl rfl | exact Or.inr rfl)) (pgs_cons (pg_name (i := 7) ND rfl (by first | exact Or.inl rfl | exact Or.inr rfl)) (pgs_cons (pg_name (i := 8) ND rfl (by first | exact Or.inl rfl | exact Or.inr rfl)) (pgs_cons (pg_name (i := 9) ND rfl (by first | exact Or.inl rfl | exact Or.inr rfl)) pgs_nil))))))))) (pss_cons (ps_asg (pv 1) (pg_tup rfl (pgs_cons (pg_name (i := 10) ND rfl (by first | exact Or.inl rfl | exact Or.inr rfl)) (pgs_cons (pg_name (i := 11) ND rfl (by first | exact Or.inl rfl | exact Or.inr rfl)) (pgs_cons (pg_name (i := 12) ND rfl (by first | exact Or.inl rfl | exact Or.inr rfl)) (pgs_cons (pg_name (i := 13) ND rfl (by first | exact Or.inl rfl | exact Or.inr rfl)) (pgs_cons (pg_name (i := 14) ND rfl (by first | exact Or.inl rfl | exact Or.inr rfl)) (pgs_cons (pg_name (i := 15) ND rfl (by first | exact Or.inl rfl | exact Or.inr rfl)) pgs_nil)))))))) (pss_cons (ps_asg (pe_tupW (pa_c (pe_op op_add (pv 11) (pe_ix ix_obj (pv 12) pe_int (fun _ _ => rfl))) (pa_c (pe_op op_cat (pt (call_lstT) B.list bt_list (pa_c (pe_slice sl_tupW (pv 12) (po_some pe_int) po_none) pa_nil)) (pe_lstW (pa_c pe_int pa_nil))) pa_nil))) (pg_tup rfl (pgs_cons (pg_name (i := 11) ND rfl (by first | exact Or.inl rfl | exact Or.inr rfl)) (pgs_cons (pg_name (i := 16) ND rfl (by first | exact Or.inl rfl | exact Or.inr rfl)) pgs_nil)))) (pss_cons (ps_set (i := 17) ND rfl (by first | exact Or.inl rfl | exact Or.inr rfl) (pe_op op_add (pv 10) (pb (call_min2 rfl) B.min bt_min (pa_c (pv 2) (pa_c (pb (call_max2 rfl) B.max bt_max (pa_c (pe_op op_sub (pv 4) (pv 10)) (pa_c pe_int pa_nil))) pa_nil))))) (pss_cons (ps_set (i := 18) ND rfl (by first | exact Or.inl rfl | exact Or.inr rfl) (pb (call_min2 rfl) B.min bt_min (pa_c (pv 17) (pa_c (pe_op op_mul (pv 11) (pv 3)) pa_nil)))) (pss_cons (ps_set (i := 19) ND rfl (by first | exact Or.inl rfl | exact Or.inr rfl) (pe_op op_cat (pe_lstW (pa_c (pe_tupW (pa_c (pv 2) (pa_c (pv 18) (pa_c (pe_op op_sub (pv 17) (pv 18)) pa_nil)))) pa_nil)) (pt (call_lstT) B.list bt_list (pa_c (pv 15) pa_nil)))) (pss_cons (ps_set (i := 20) ND rfl (by first | exact Or.inl rfl | exact Or.inr rfl) pe_int) (pss_cons (ps_if (PW.pt (pw_and (pt_cmpR op_ge (pe_op op_add (pv 13) pe_int) (pv 7) (nomark _)) (pw_and1 (pt_cmpR op_eq (pv 14) pe_int (nomark _))))) (pss_cons (ps_set (i := 21) ND rfl (by first | exact Or.inl rfl | exact Or.inr rfl) (pe_op op_add (pv 11) (pb (call_sumI rfl) B.sum bt_sum (pa_c (pv 16) pa_nil)))) (pss_one (ps_set (i := 20) ND rfl (by first | exact Or.inl rfl | exact Or.inr rfl) (pb (call_min2 rfl) B.min bt_min (pa_c (pe_op op_sub (pf c_l_wish hr (pa_c (pv 0) (pa_c (pv 21) (pa_c (pv 19) pa_nil)))) (pv 21)) (pa_c pe_int pa_nil)))))) pss_nil) (pss_cons (ps_if (pt_cmpR op_gt (pv 20) pe_int (nomark _)) (pss_one (ps_asg (pe_op op_add (pe_ix ix_obj (pv 16) (pv 6) (fun _ _ => rfl)) (pv 20)) (pg_sub (pv 16) (pv 6) set_list))) pss_nil) (pss_cons (ps_for PassesOwn.never rfl (pi_range1 (by rfl) B.range (pa_c (pb (call_max2 rfl) B.max bt_max (pa_c pe_int (pa_c (pe_op op_sub pe_int (pv 20)) pa_nil))) pa_nil)) (pg_name (i := 22) ND rfl (by first | exact Or.inl rfl | exact Or.inr rfl)) (pss_cons (ps_compG (i := 23) ND rfl (by first | exact Or.inl rfl | exact Or.inr rfl) (nt := 1) (N' := ["_law_place", "_law_line"]) (js := [16]) rfl (pi_range1 (by rfl) B.range (pa_c pe_int pa_nil)) CScG.of (fun fp s' H' => (pg_name (i := 0) (by show List.Nodup (["_law_place", "_law_line"] : List Str); decide) rfl (.inl (lookup_relabel_local rfl)) (.inr (lookup_relabel_local rfl)))) (fun fp s' H' => ifs_one (pt_cmpR op_gt (pe_ix ix_obj (pv 1) (pv 0) (fun _ _ => rfl)) pe_int (nomark _))) (fun fp s' H' => (pv 0))) (pss_one (ps_if (pt_cmpR (op_neD hr.units) (pv 23) (pe_lstW pa_nil) (nomark _)) (pss_one (ps_asg (pe_op op_sub (pe_ix ix_obj (pv 16) (pe_ix ix_obj (pv 23) (pe_un un_neg pe_int) (fun _ _ => rfl)) (fun _ _ => rfl)) pe_int) (pg_sub (pv 16) (pe_ix ix_obj (pv 23) (pe_un un_neg pe_int) (fun _ _ => rfl)) set_list))) (pss_one (ps_set (i := 11) ND rfl (by first | exact Or.inl rfl | exact Or.inr rfl) (pe_op op_sub (pv 11) pe_int))))))) (pss_cons (ps_set (i := 14) ND rfl (by first | exact Or.inl rfl | exact Or.inr rfl) (pe_ifExp (pt_cmpR op_ne (pv 20) pe_int (nomark _)) (pe_ix ix_obj (pv 8) (pt (call_intB) B.int bt_int (pa_c (pe_cmpR op_lt (pv 20) pe_int (nomark _)) pa_nil)) (fun _ _ => rfl)) (pb (call_max2 rfl) B.max bt_max (pa_c pe_int (pa_c (pe_op op_sub (pv 14) pe_int) pa_nil))))) (pss_cons (ps_set (i := 13) ND rfl (by first | exact Or.inl rfl | exact Or.inr rfl) (pe_ifExp (pt_cmpR op_ge (pe_op op_add (pv 13) pe_int) (pv 7) (nomark _)) pe_int (pe_op op_add (pv 13) pe_int))) (pss_one (ps_ret (pe_tupW (pa_c (pe_tupW (pa_c (pe_op op_sub (pv 17) (pv 18)) (pa_c (pv 11) (pa_c (pt (call_tupL) B.tuple bt_tuple (pa_c (pv 16) pa_nil)) (pa_c (pv 13) (pa_c (pv 14) (pa_c (pt (call_tupL) B.tuple bt_tuple (pa_c (pe_slice sl_list (pv 19) po_none (po_some pe_int)) pa_nil)) pa_nil))))))) (pa_c (pe_op op_sub (pe_op op_add (pv 10) (pv 2)) (pv 17)) (pa_c (pv 20) pa_nil)))))))))))))))))), ?_⟩
  obtain ⟨pa, pb, pc, pd, rfl, p1, p2, p3, p4⟩ := pst_shape2 a1
  obtain ⟨sa, sb, sc, rfl, g1, g2, g3⟩ := stn_shape a2
  simp only [seqOi, seqOa 15, seqOa 14]
  walk_at "rd"
  refine ⟨pa, _, rfl, SqT.of p1, rfl, ?_⟩
  walk_at "rd"
  refine ⟨sa, _, rfl, SqT.of g1, rfl, ?_⟩
  walk_at "rd"
  have hc5 := hs.is.c
  have hxp := hx.p
  have gc0 : atI (st.cs.map V.int) 0 = some (.int (st.cs.getD 0 0)) := by
    obtain ⟨y0, y1, y2, y3, y4, ey⟩ := len5 hc5
    rw [ey]; rfl
  refine Ix.tup g2 (v := .int (st.cs.getD 0 0)) gc0 ⟨_, _, rfl, rfl, sb, _, rfl, g2, fun q1 H1 s1 e1 => ⟨q1, _, rfl, e1, fun l2 f2 => ⟨(by decide), fun q3 H3 f3 s3 e3 => ?_⟩⟩⟩
  rw [cut_from (by decide)] at s3
  have s2 := same_new f2 (HO.lst ((st.cs.map V.int).drop (Int.toNat 1)))
  refine ⟨l2, q3, _, _, rfl, rfl, s3 _ _ upd_same, e3, by simp [hc5]; decide, fun pl fl => ?_⟩
  have s13 : Same H H3 := s1.trans (s2.trans s3)
  have fl' : H pl = none := s13.free fl
  have el : (st.cs.map V.int).drop (Int.toNat 1) ++ [V.int 0] = (st.cs.drop 1 ++ [0]).map V.int := by simp
  rw [el]
  have s4 : Same H (upd H3 pl (HO.lst ((st.cs.drop 1 ++ [0]).map V.int))) := s13.trans (same_new fl _)
  have e4 : upd H3 pl (HO.lst ((st.cs.drop 1 ++ [0]).map V.int)) pl = some (.lst ((st.cs.drop 1 ++ [0]).map V.int)) := upd_same
  generalize upd H3 pl (HO.lst ((st.cs.drop 1 ++ [0]).map V.int)) = H4 at s4 e4 ⊢
  refine ⟨(by decide), fun q5 H5 f5 s5 e5 => ⟨q5, _, rfl, SqT.of e5, rfl, ?_⟩⟩
  have s45 := s4.trans s5
  have e45 := s5 _ _ e4
  clear e1 e3 f2 f3 s1 s2 s3 s13 e4 el
  walk_at "rd"
  refine ⟨.inr (by omega), ?_⟩
  have ert : (st.r + st.cs.getD 0 0) = readyI st := rfl
  have etk : (if (if 0 > x.m - st.w then 0 else x.m - st.w) < come then (if 0 > x.m - st.w then 0 else x.m - st.w) else come) = takenI x st come := rfl
  rw [ert, etk]
  have edn : (if readyI st * x.p < st.w + takenI x st come then readyI st * x.p else st.w + takenI x st come) = doneI x st come := rfl
  rw [edn]
  obtain ⟨_, us, esc, gu, au⟩ := tup_ats g3
  cases esc
  have lus : us.length = 3 := by rw [au.length, List.length_map, hs.is.u]
  refine ⟨(by decide), fun q6 H6 f6 s6 e6 => ⟨(by decide), fun q7 H7 f7 s7 e7 => lst_cat e7 ((s45.trans (s6.trans s7)) _ _ gu) (by rw [lus]; exact (by decide : 4 ≤ sizeLine)) fun pn H8 s8 e8 => ?_⟩⟩
  have s58 := s6.trans (s7.trans s8)
  have s48 := s45.trans s58
  have e48 := s58 _ _ e45
  replace e8 : H8 pn = some (.lst (V.ref q6 :: us)) := e8
  have aN : AtAll H8 ((newestI x st come).map triD) (V.ref q6 :: us) := AtAll.cons (At.tup ((s7.trans s8) _ _ e6) (ats_ints [come, doneI x st come, st.w + takenI x st come - doneI x st come])) (au.mono s48)
  have hN : Newest (newestI x st come) := ⟨by show st.us.length + 1 = 4; rw [hs.is.u], fun y hy => by
    rcases List.mem_cons.mp hy with z | z
    · rw [z]; rfl
    · exact hs.is.l y z⟩
  have npl : pn ≠ pl := fun z => by
    rw [z, e48] at e8
    have := congrArg List.length (HO.lst.inj (Option.some.inj e8))
    rw [List.length_map, List.length_cons, lus] at this
    simp [hc5] at this
  clear e6 e7 f6 f7 s6 s7 s8 e5 f5 s5 e45
  have hml : (st.cs.drop 1 ++ [0]).length = 5 := by simp [hc5]
  have hmn : ∀ y ∈ st.cs.drop 1 ++ [0], 0 ≤ y := moved_nn hs.cn
  have hrn := ready_nn hc5 hs.r hs.cn
  refine tSeqO.of (fun σ' H' => Same H8 H' ∧ ∃ o : Option V, σ' = [some (V.ref pa), some (V.ref sa), some (V.int come), some (V.int x.p), some (V.int x.m), some (V.ref pb), some (V.int ↑x.a), some (V.int x.e), some (V.ref pc), some (V.ref pd), some (V.int st.w), some (V.int (readyI st)), some (V.ref sb), some (V.int st.s), some (V.int st.t), some (V.ref sc), some (V.ref pl), some (V.int (st.w + takenI x st come)), some (V.int (doneI x st come)), some (V.ref pn), some (V.int (chI x st come 12)), o, none, none]) ?_ ?_
  rotate_left 1
  · intro N hNx
    walk_at "rd"
    by_cases c1 : x.e ≤ st.s + 1
    · rw [if_pos (decide_eq_true c1)]
      by_cases c2 : st.t = 0
      · rw [if_pos (decide_eq_true c2)]
        refine ⟨pl, _, rfl, .inl e48, .ref pa, pn, _, x, newestI x st come, _, rfl, a1.mono s48, e8, aN, hx, hN, fun H9 s9 => ⟨_, _, rfl, rfl, hNx _ _ ⟨s9, some (V.int (readyI st + (st.cs.drop 1 ++ [0]).sum)), ?_⟩⟩⟩
        have e : chI x st come 12 = (if 12 < wishI x.rss x.lo x.hi (readyI st + (st.cs.drop 1 ++ [0]).sum) (newestI x st come) - (readyI st + (st.cs.drop 1 ++ [0]).sum) then 12 else wishI x.rss x.lo x.hi (readyI st + (st.cs.drop 1 ++ [0]).sum) (newestI x st come) - (readyI st + (st.cs.drop 1 ++ [0]).sum)) := by
          have hl : looksI x.e st.s st.t = true := by unfold looksI; rw [if_neg (by omega)]; exact decide_eq_true c2
          unfold chI
          rw [if_pos hl]; rfl
        rw [e]
      · rw [if_neg (by simpa using c2)]
        have e : chI x st come 12 = 0 := by
          have hl : looksI x.e st.s st.t = false := by unfold looksI; rw [if_neg (by omega)]; exact decide_eq_false c2
          unfold chI
          rw [hl, if_neg (by decide)]
        rw [e] at hNx
        exact hNx _ _ ⟨Same.refl _, _, rfl⟩
    · rw [if_neg (by simpa using c1)]
      have e : chI x st come 12 = 0 := by
        have hl : looksI x.e st.s st.t = false := by unfold looksI; rw [if_pos (by omega)]
        unfold chI
        rw [hl, if_neg (by decide)]
      rw [e] at hNx
      exact hNx _ _ ⟨Same.refl _, _, rfl⟩
  rintro σ' H9 ⟨s89, o, rfl⟩
  have hbd : 0 ≤ st.r + st.cs.sum + chI x st come 12 := by
    have h0 := sum_nn _ hs.cn
    have h1 := hs.r
    unfold chI
    rw [hands_moved hc5]
    split
    · unfold changeI
      have h2 : 0 ≤ wishI x.rss x.lo x.hi (st.r + st.cs.sum) (newestI x st come) := by
        have h3 := hx.lo
        unfold wishI
        simp only
        repeat' split <;> try omega
      split <;> omega
    · omega
  have hcx : nextI x st come = withI x (movedI x st come) (chI x st come 12) := rfl
  rw [hcx] at q
  generalize chI x st come 12 = ch at q hbd ⊢
  have e9 := s89 _ _ e48
  have s49 := s48.trans s89
  refine tSeqO.of (fun σ' H' => σ' = [some (V.ref pa), some (V.ref sa), some (V.int come), some (V.int x.p), some (V.int x.m), some (V.ref pb), some (V.int ↑x.a), some (V.int x.e), some (V.ref pc), some (V.ref pd), some (V.int st.w), some (V.int (readyI st)), some (V.ref sb), some (V.int st.s), some (V.int st.t), some (V.ref sc), some (V.ref pl), some (V.int (st.w + takenI x st come)), some (V.int (doneI x st come)), some (V.ref pn), some (V.int ch), o, none, none] ∧ H' pl = some (.lst ((if 0 < ch then (st.cs.drop 1 ++ [0]).set x.a ((st.cs.drop 1 ++ [0]).getD x.a 0 + ch) else st.cs.drop 1 ++ [0]).map V.int)) ∧ SX pl H H' ∧ SX pl H9 H') ?_ ?_
  rotate_left 1
  · intro N hNx
    walk_at "rd"
    have ha := hx.a
    by_cases c1 : 0 < ch
    · rw [if_pos (decide_eq_true c1)]
      rw [if_pos c1] at hNx
      refine Ix.lst e9 (v := .int ((st.cs.drop 1 ++ [0]).getD x.a 0)) (atI_nat (by rw [List.getElem?_map, List.getElem?_eq_getElem (by omega), List.getD_eq_getElem?_getD, List.getElem?_eq_getElem (by omega)]; rfl)) ⟨_, _, rfl, rfl, pl, _, _, x.a, rfl, rfl, e9, ixN_nat (by rw [List.length_map]; omega), ?_⟩
      refine hNx _ _ ⟨rfl, ?_, (SX.of s49).trans SX.upd, SX.upd⟩
      rw [upd_same, List.map_set]
    · rw [if_neg (by simpa using c1)]
      rw [if_neg c1] at hNx
      exact hNx _ _ ⟨rfl, e9, SX.of s49, SX.refl _ _⟩
  rintro σ' H10 ⟨rfl, e10, x10, y10⟩
  obtain ⟨hm, hm0, hmS, hmE⟩ : ∃ hm : Nat → List Int × Int, hm 0 = (if 0 < ch then (st.cs.drop 1 ++ [0]).set x.a ((st.cs.drop 1 ++ [0]).getD x.a 0 + ch) else st.cs.drop 1 ++ [0], 0) ∧ (¬ 0 < ch → ∀ i : Nat, hm i = goHome (st.cs.drop 1 ++ [0]) i) ∧ (0 < ch → ∀ i, hm i = hm 0) := by
    by_cases c1 : 0 < ch
    · exact ⟨fun _ => ((st.cs.drop 1 ++ [0]).set x.a ((st.cs.drop 1 ++ [0]).getD x.a 0 + ch), 0), by rw [if_pos c1], fun z => absurd c1 z, fun _ _ => rfl⟩
    · exact ⟨fun i => goHome (st.cs.drop 1 ++ [0]) i, by rw [if_neg c1]; exact goHome_zero _ hmn, fun _ _ => rfl, fun z => absurd z c1⟩
  obtain ⟨n, hn, hn12⟩ : ∃ n : Nat, (if 0 - ch > 0 then 0 - ch else 0) = (n : Int) ∧ n ≤ 24 := ⟨(if 0 - ch > 0 then 0 - ch else 0).toNat, by split <;> omega, by have := hs.sm; split <;> omega⟩
  have ep10 : H10 pn = some (.lst (V.ref q6 :: us)) := y10.get npl (s89 _ _ e8)
  have aN10 : AtAll (hid pl H10) ((newestI x st come).map triD) (V.ref q6 :: us) := (AtAll.hidL e9 _ _ (tris_noL _) (aN.mono s89)).mono y10
  walk_at "rd"
  refine for_R (n := n) (fun R hR => ?_) (by omega) (fun i σ H' => ∃ (o1 o2 : Option V), σ = [some (V.ref pa), some (V.ref sa), some (V.int come), some (V.int x.p), some (V.int x.m), some (V.ref pb), some (V.int ↑x.a), some (V.int x.e), some (V.ref pc), some (V.ref pd), some (V.int st.w), some (V.int (readyI st - (hm i).2)), some (V.ref sb), some (V.int st.s), some (V.int st.t), some (V.ref sc), some (V.ref pl), some (V.int (st.w + takenI x st come)), some (V.int (doneI x st come)), some (V.ref pn), some (V.int ch), o, o1, o2] ∧ H' pl = some (.lst ((hm i).1.map V.int)) ∧ SX pl H10 H') ⟨_, _, by rw [hm0, Int.sub_zero], by rw [hm0]; exact e10, SX.refl _ _⟩ ?_ ?_
  · walk_at "rd"
    rw [hn]; exact hR
  · rintro i σ H11 hi ⟨o1, o2, rfl, e11, y11⟩
    have hneg : ¬ 0 < ch := fun z => by rw [if_neg (by omega)] at hn; omega
    rw [hmS hneg i] at e11 ⊢
    rw [hmS hneg (i + 1)]
    obtain ⟨nA, nB⟩ := home_next (st.cs.drop 1 ++ [0]) (i : Int)
    have hgl : (goHome (st.cs.drop 1 ++ [0]) (i : Int)).1.length = 5 := by rw [goHome_len]; exact hml
    rw [hml] at nA nB
    have ei1 : ((i + 1 : Nat) : Int) = (i : Int) + 1 := by omega
    rw [ei1]
    generalize hG : goHome (st.cs.drop 1 ++ [0]) (i : Int) = G at e11 nA nB hgl ⊢
    obtain ⟨L, m⟩ := G
    simp only at e11 nA nB hgl ⊢
    walk_at "rd"
    refine compF_R (n := 5) (fun j => decide (0 < L.getD j 0)) (fun j => V.int (0 + (j : Nat))) (fun R hR => hR) (by decide) (fun j H' hj s' R hR => ?_) (fun j H' hj hk s' R hR => ?_) (fun acc H12 s12 facc h12 => ?_)
    · show tTest _ [some _, some (.ref pl)] H' R
      walk_at "rd"
      rw [Int.zero_add]
      refine Ix.lst (s' _ _ e11) (v := .int (L.getD j 0)) (atI_nat (by rw [List.getElem?_map, List.getElem?_eq_getElem (by omega), List.getD_eq_getElem?_getD, List.getElem?_eq_getElem (by omega)]; rfl)) ?_
      walk_at "rd"
      exact hR
    · show tVar 0 [some _, some (.ref pl)] H' R
      walk_at "rd"
      exact hR
    · have e12 := s12 _ _ e11
      have eI : ((List.range 5).filter fun j => decide (0 < L.getD j 0)).map (fun j => V.int (0 + (j : Nat))) = (((List.range 5).filter fun j => decide (0 < L.getD j 0)).map (fun j => (0 : Int) + (j : Nat))).map V.int := by rw [List.map_map]; rfl
      have z := lint_data (((List.range 5).filter fun j => decide (0 < L.getD j 0)).map (fun j => (0 : Int) + (j : Nat)))
      refine ⟨(by decide), fun p13 H13 f13 s13 e13 => ⟨.list ((((List.range 5).filter fun j => decide (0 < L.getD j 0)).map (fun j => (0 : Int) + (j : Nat))).map .int), .list [], At.lst (by rw [← eI]; exact s13 _ _ h12) (ats_ints _), At.lst e13 AtAll.nil, z.1, rfl, z.2.1, rfl, z.2.2, ?_⟩⟩
      have s113 := s12.trans s13
      have e113 := s13 _ _ e12
      have h13 := s13 _ _ h12
      rcases last_at (fun j => decide (0 < L.getD j 0)) (fun j => V.int (0 + (j : Nat))) 5 with ⟨l1, l2⟩ | ⟨j, ini, j5, hj, hjk, hl⟩
      · have en : ((List.range 5).filter fun j => decide (0 < L.getD j 0)).map (fun j => (0 : Int) + (j : Nat)) = [] := by
          have := List.map_eq_nil_iff.mp l1
          rw [this]; rfl
        rw [en]
        have eq : PyData.eqv (.list (([] : List Int).map .int)) (.list []) = true := rfl
        rw [eq, if_neg (by decide)]
        have hB := nB fun k hk => by have := l2 k hk; simpa using this
        rw [hB, show readyI st - m - 1 = readyI st - (m + 1) by omega]
        exact ⟨_, _, rfl, e113, y11.trans (SX.of s113)⟩
      · have hA := nA j j5 (by simpa using hj) fun k k1 k2 => by have := hjk k k1 k2; simpa using this
        rw [hA]
        have eq : PyData.eqv (.list ((((List.range 5).filter fun j => decide (0 < L.getD j 0)).map (fun j => (0 : Int) + (j : Nat))).map .int)) (.list []) = false := by
          cases hz : ((List.range 5).filter fun j => decide (0 < L.getD j 0)).map (fun j => (0 : Int) + (j : Nat)) with
          | nil =>
            rw [hz] at eI
            rw [eI] at hl
            simp at hl
          | cons a b => rfl
        rw [eq, if_pos (by decide)]
        rw [hl] at h13
        rw [Int.zero_add] at h13
        refine Ix.lst h13 (v := .int (j : Nat)) (atI_last _ _) (Ix.lst e113 (v := .int (L.getD j 0)) (atI_nat (by rw [List.getElem?_map, List.getElem?_eq_getElem (by omega), List.getD_eq_getElem?_getD, List.getElem?_eq_getElem (by omega)]; rfl)) ⟨_, _, rfl, rfl, Ix.lst h13 (v := .int (j : Nat)) (atI_last _ _) ⟨pl, _, _, j, rfl, rfl, e113, ixN_nat (by rw [List.length_map]; omega), ?_⟩⟩)
        refine ⟨_, _, rfl, ?_, (y11.trans (SX.of s113)).trans SX.upd⟩
        rw [upd_same, List.map_set]
  rintro σ H11 ⟨o1, o2, rfl, e11, y11⟩
  dsimp only
  have hfin : (withI x (movedI x st come) ch).r = readyI st - (hm n).2 ∧ (withI x (movedI x st come) ch).cs = (hm n).1 ∧ (withI x (movedI x st come) ch).t = (if ch ≠ 0 then (if ch < 0 then x.d else x.u) else (if st.t - 1 > 0 then st.t - 1 else 0)) ∧
      (withI x (movedI x st come) ch).w = st.w + takenI x st come - doneI x st come ∧ (withI x (movedI x st come) ch).s = sinceI x.e st.s ∧ (withI x (movedI x st come) ch).us = (newestI x st come).take 3 := by
    have hW := with_props (x := x) (st := movedI x st come) (ch := ch) hx.a hrn hml hmn (by show 0 ≤ readyI st + (st.cs.drop 1 ++ [0]).sum + ch; rw [hands_moved hc5]; exact hbd)
    refine ⟨?_, ?_, ?_, hW.w, hW.s, hW.u⟩
    · unfold withI
      by_cases c0 : ch = 0
      · rw [if_pos c0]
        rw [c0] at hn
        have : n = 0 := by simpa using hn.symm
        rw [this, hm0, Int.sub_zero]; rfl
      · rw [if_neg c0]
        by_cases c1 : 0 < ch
        · rw [if_pos c1, hmE c1 n, hm0, Int.sub_zero]; rfl
        · rw [if_neg c1, hmS c1 n]
          rw [if_pos (by omega)] at hn
          rw [show -ch = (n : Int) by omega]; rfl
    · unfold withI
      by_cases c0 : ch = 0
      · rw [if_pos c0]
        have hn' := hn
        rw [c0] at hn'
        have : n = 0 := by simpa using hn'.symm
        rw [this, hm0, if_neg (by omega)]; rfl
      · rw [if_neg c0]
        by_cases c1 : 0 < ch
        · rw [if_pos c1, hmE c1 n, hm0, if_pos c1]
          exact (set_is (l := st.cs.drop 1 ++ [0]) (by rw [hml]; have := hx.a; omega)).symm
        · rw [if_neg c1, hmS c1 n]
          rw [if_pos (by omega)] at hn
          rw [show -ch = (n : Int) by omega]; rfl
    · rw [hW.t]
      show (if ch = 0 then (if 0 > st.t - 1 then 0 else st.t - 1) else if 0 < ch then x.u else x.d) = _
      repeat' split <;> try omega
  obtain ⟨k1, k2, k3, k4, k5, k6⟩ := hfin
  generalize hnx : withI x (movedI x st come) ch = nx at q k1 k2 k3 k4 k5 k6
  rw [← k1]
  rw [← k2] at e11
  have x11 : Same H H11 := SX.same fl' (x10.trans y11)
  refine tSeqO.of (fun σ' H' => H11 = H' ∧ σ' = [some (V.ref pa), some (V.ref sa), some (V.int come), some (V.int x.p), some (V.int x.m), some (V.ref pb), some (V.int ↑x.a), some (V.int x.e), some (V.ref pc), some (V.ref pd), some (V.int st.w), some (V.int nx.r), some (V.ref sb), some (V.int st.s), some (V.int nx.t), some (V.ref sc), some (V.ref pl), some (V.int (st.w + takenI x st come)), some (V.int (doneI x st come)), some (V.ref pn), some (V.int ch), o, o1, o2]) ?_ ?_
  rotate_left 1
  · intro N hNx
    walk_at "rd"
    by_cases c1 : ch = 0
    · rw [if_neg (by simpa using c1)]
      rw [if_neg (show ¬ ch ≠ 0 from fun z => z c1)] at k3
      rw [k3] at hNx
      exact hNx _ _ ⟨rfl, rfl⟩
    · rw [if_pos (by simpa using c1)]
      rw [if_pos c1] at k3
      by_cases c2 : ch < 0
      · rw [if_pos (decide_eq_true c2)]
        rw [if_pos c2] at k3
        rw [k3] at hNx
        exact Ix.tup (x11 _ _ p3) (v := .int x.d) rfl (hNx _ _ ⟨rfl, rfl⟩)
      · rw [if_neg (by simpa using c2)]
        rw [if_neg c2] at k3
        rw [k3] at hNx
        exact Ix.tup (x11 _ _ p3) (v := .int x.u) rfl (hNx _ _ ⟨rfl, rfl⟩)
  rintro σ' H' ⟨rfl, rfl⟩
  refine tSeqO.of (fun σ' H' => H11 = H' ∧ σ' = [some (V.ref pa), some (V.ref sa), some (V.int come), some (V.int x.p), some (V.int x.m), some (V.ref pb), some (V.int ↑x.a), some (V.int x.e), some (V.ref pc), some (V.ref pd), some (V.int st.w), some (V.int nx.r), some (V.ref sb), some (V.int nx.s), some (V.int nx.t), some (V.ref sc), some (V.ref pl), some (V.int (st.w + takenI x st come)), some (V.int (doneI x st come)), some (V.ref pn), some (V.int ch), o, o1, o2]) ?_ ?_
  rotate_left 1
  · intro N hNx
    walk_at "rd"
    unfold sinceI at k5
    by_cases c1 : x.e ≤ st.s + 1
    · rw [if_pos (decide_eq_true c1)]
      rw [if_neg (by omega)] at k5
      rw [k5] at hNx
      exact hNx _ _ ⟨rfl, rfl⟩
    · rw [if_neg (by simpa using c1)]
      rw [if_pos (by omega)] at k5
      rw [k5] at hNx
      exact hNx _ _ ⟨rfl, rfl⟩
  rintro σ' H' ⟨rfl, rfl⟩
  walk_at "rd"
  have ep11 : H11 pn = some (.lst (V.ref q6 :: us)) := y11.get npl ep10
  have aN11 : AtAll H11 ((newestI x st come).map triD) (V.ref q6 :: us) := (aN10.mono y11).mono hid_sub
  refine ⟨pl, _, rfl, e11, fun l12 f12 => ?_⟩
  have s12 := same_new f12 (HO.tup (nx.cs.map V.int))
  have e12 : upd H11 l12 (HO.tup (nx.cs.map V.int)) l12 = some (.tup (nx.cs.map V.int)) := upd_same
  generalize upd H11 l12 (HO.tup (nx.cs.map V.int)) = H12 at s12 e12 ⊢
  refine ⟨pn, _, rfl, SqL.of (s12 _ _ ep11), fun p13 f13 => ?_⟩
  rw [cut_to (by decide)]
  have s13 := same_new f13 (HO.lst ((V.ref q6 :: us).take (Int.toNat 3)))
  have e13 : upd H12 p13 (HO.lst ((V.ref q6 :: us).take (Int.toNat 3))) p13 = some (.lst ((V.ref q6 :: us).take (Int.toNat 3))) := upd_same
  generalize upd H12 p13 (HO.lst ((V.ref q6 :: us).take (Int.toNat 3))) = H13 at s13 e13 ⊢
  refine ⟨p13, _, rfl, e13, fun l14 f14 => ?_⟩
  have s14 := same_new f14 (HO.tup ((V.ref q6 :: us).take (Int.toNat 3)))
  have e14 : upd H13 l14 (HO.tup ((V.ref q6 :: us).take (Int.toNat 3))) l14 = some (.tup ((V.ref q6 :: us).take (Int.toNat 3))) := upd_same
  generalize upd H13 l14 (HO.tup ((V.ref q6 :: us).take (Int.toNat 3))) = H14 at s14 e14 ⊢
  refine ⟨(by decide), fun p15 H15 f15 s15 e15 => ⟨(by decide), fun p16 H16 f16 s16 e16 => ?_⟩⟩
  have s1116 : Same H11 H16 := s12.trans (s13.trans (s14.trans (s15.trans s16)))
  have e16' : H16 p16 = some (.tup [.ref p15, .int (come - takenI x st come), .int ch]) := by
    rw [e16, show st.w + come - (st.w + takenI x st come) = come - takenI x st come by omega]
  refine q p16 (.ref p15) H16 (x11.trans s1116) ?_ e16'
  have aU : AtAll H16 (nx.us.map triD) ((V.ref q6 :: us).take (Int.toNat 3)) := by
    rw [k6, List.map_take]
    exact (aN11.take 3).mono s1116
  rw [← k4] at e15
  exact At.tup (s16 _ _ e15) (AtAll.cons (At.int _) (AtAll.cons (At.int _) (AtAll.cons (At.tup ((s13.trans (s14.trans (s15.trans s16))) _ _ e12) (ats_ints _)) (AtAll.cons (At.int _) (AtAll.cons (At.int _) (AtAll.cons (At.tup ((s15.trans s16) _ _ e14) aU) AtAll.nil))))))
theorem StL.toW {x : Stn} (h : StL x) : StW x := ⟨h.is, h.r, h.cn, h.sm, h.t.1⟩
theorem StW.next {x : Pst} {st : Stn} {c : Int} (hx : PsL x) (hs : StW st) : StW (nextI x st c) := by
  have hc5 := hs.is.c
  have h0 := sum_nn _ hs.cn
  have h1 := hs.r
  have h2 := hs.sm
  have hlo := hx.lo
  have hhi := hx.hi
  have hwb : 0 ≤ wishI x.rss x.lo x.hi (st.r + st.cs.sum) (newestI x st c) ∧ wishI x.rss x.lo x.hi (st.r + st.cs.sum) (newestI x st c) ≤ 12 := by
    unfold wishI
    simp only
    repeat' split <;> try omega
  have hbd : 0 ≤ st.r + st.cs.sum + chI x st c 12 ∧ st.r + st.cs.sum + chI x st c 12 ≤ 12 := by
    unfold chI
    rw [hands_moved hc5]
    split
    · unfold changeI
      split <;> omega
    · omega
  have hml : (st.cs.drop 1 ++ [0]).length = 5 := by simp [hc5]
  have hW := with_props (x := x) (st := movedI x st c) (ch := chI x st c 12) hx.a (ready_nn hc5 hs.r hs.cn) hml (moved_nn hs.cn) (by show 0 ≤ readyI st + (st.cs.drop 1 ++ [0]).sum + chI x st c 12; rw [hands_moved hc5]; exact hbd.1)
  refine ⟨next_is hx.is hs.is, hW.r, hW.cn, ?_, ?_⟩
  · show (withI x (movedI x st c) (chI x st c 12)).r + _ ≤ 12
    have := hW.sm
    have e : (movedI x st c).r + (movedI x st c).cs.sum = st.r + st.cs.sum := hands_moved hc5
    rw [e] at this
    show (withI x (movedI x st c) (chI x st c 12)).r + (withI x (movedI x st c) (chI x st c 12)).cs.sum ≤ 12
    omega
  · show 0 ≤ (withI x (movedI x st c) (chI x st c 12)).t
    rw [hW.t]
    have := hx.u
    have := hx.d
    have := hs.t
    show 0 ≤ (if chI x st c 12 = 0 then (if 0 > st.t - 1 then 0 else st.t - 1) else if 0 < chI x st c 12 then x.u else x.d)
    repeat' split <;> try omega
theorem StW.after {x : Pst} (hx : PsL x) : ∀ {l : List Int} {st : Stn}, StW st → StW (afterI x st l)
  | [], _, hs => hs
  | _ :: l, _, hs => StW.after hx (l := l) (hs.next hx)
theorem sc_l_great_post : FnScope ["_law_tape_here", "_law_pace", "_law_most", "_law_rules", "_law_hands", "_law_rests", "_law_late", "_law_every", "_law_room", "_law_k"] ["_law_tape_here"] (defScope s_l_great_post) := ⟨rfl, rfl, rfl, by decide +kernel, rfl, by decide +kernel, by decide +kernel⟩
theorem ok_l_great_post (F : Fun K "_law_great_post" "_law_great_post" s_l_great_post f fd) (B : Bi mg) (c_l_draw : Ct P w K mg base k "_law_draw" ["_law_tape_here", "_law_many"] spDraw) (c_l_a_number : Ct P w K mg base k "_law_a_number" ["_law_tape_here"] spUnits) (c_l_great_row : Ct P w K mg base k "_law_great_row" ["_law_tape_here"] spRowL) :
    FnOk P w K mg base CX0 (k + 1) f fd ["_law_tape_here"] spPost := by
  refine F.ok sc_l_great_post (by rintro vs H Q E ⟨a, n, rfl, _⟩; rfl) (fun cdv A outer s H vs Q E hr h => ?_)
  obtain ⟨a, n, rfl, tp, hn, q⟩ := h
  have ND := sc_l_great_post.nd
  refine ⟨_, (pss_cons (ps_set (i := 1) ND rfl (by first | exact Or.inl rfl | exact Or.inr rfl) (pe_ix ix_obj (pe_lstW (pa_c pe_int (pa_c (pe_op op_add pe_int (pf c_l_draw hr (pa_c (pv 0) (pa_c pe_int pa_nil)))) (pa_c (pe_op op_add pe_int (pf c_l_draw hr (pa_c (pv 0) (pa_c (pe_op op_pow pe_int pe_int) pa_nil)))) pa_nil)))) (pf c_l_draw hr (pa_c (pv 0) (pa_c pe_int pa_nil))) (fun _ _ => rfl))) (pss_cons (ps_par (i := 2) (j := 3) rfl ND rfl rfl (by decide) rfl rfl (pa_c (pf c_l_draw hr (pa_c (pv 0) (pa_c pe_int pa_nil))) (pa_c (pe_lstW pa_nil) pa_nil)) (by rfl)) (pss_cons (ps_set (i := 4) ND rfl (by first | exact Or.inl rfl | exact Or.inr rfl) (pe_tupW (pa_c (pf c_l_draw hr (pa_c (pv 0) (pa_c (pe_op op_add (pv 2) pe_int) pa_nil))) (pa_c (pv 2) pa_nil)))) (pss_cons (ps_set (i := 5) ND rfl (by first | exact Or.inl rfl | exact Or.inr rfl) (pe_tupW (pa_c (pf c_l_draw hr (pa_c (pv 0) (pa_c pe_int pa_nil))) (pa_c (pf c_l_draw hr (pa_c (pv 0) (pa_c pe_int pa_nil))) pa_nil)))) (pss_cons (ps_par3 (i := 6) (j := 7) (l := 8) rfl ND rfl rfl rfl rfl rfl rfl (pa_c (pf c_l_draw hr (pa_c (pv 0) (pa_c pe_int pa_nil))) (pa_c (pe_op op_add pe_int (pf c_l_draw hr (pa_c (pv 0) (pa_c pe_int pa_nil)))) (pa_c (pf c_l_a_number hr (pa_c (pv 0) pa_nil)) pa_nil))) (by rfl)) (pss_cons (ps_for PassesOwn.never rfl (pi_range1 (by rfl) B.range (pa_c (pf c_l_draw hr (pa_c (pv 0) (pa_c pe_int pa_nil))) pa_nil)) (pg_name (i := 9) ND rfl (by first | exact Or.inl rfl | exact Or.inr rfl)) (pss_one (ps_expr (pe_bm PySem.F.plainAttrs_list PySem.F.slot_list_append PySem.F.type_list_append mt_append (pv 3) (pa_c (pt (call_tupL) B.tuple bt_tuple (pa_c (pe_comp (N' := ["_law_j", "_law_tape_here"]) (js := [0]) rfl (pi_range1 (by rfl) B.range (pa_c (pe_op op_add pe_int (pf c_l_draw hr (pa_c (pv 0) (pa_c pe_int pa_nil)))) pa_nil)) CSc.mk1 rfl (by decide) rfl (fun fp s' H' => (pf c_l_great_row hr (pa_c (pv 1) pa_nil)))) pa_nil)) pa_nil))))) (pss_one (ps_ret (pe_tupW (pa_c (pv 1) (pa_c (pv 8) (pa_c (pv 4) (pa_c (pv 6) (pa_c (pv 7) (pa_c (pv 5) (pa_c (pt (call_tupL) B.tuple bt_tuple (pa_c (pv 3) pa_nil)) pa_nil)))))))))))))))), ?_⟩
  have e6 : (10 : Int) ^ Int.toNat 6 = 1000000 := by decide
  walk_at "rd"
  refine Draw.of tp (by omega) (by decide) (by decide) fun y1 H1 l1 u1 t1 s1 => ?_
  walk_at "rd"
  refine ⟨⟨by decide, by decide, by decide⟩, Draw.of t1 (by omega) (by decide) (by decide) fun y2 H2 l2 u2 t2 s2 => ⟨_, _, rfl, rfl, (by decide), fun p3 H3 f3 s3 e3 => ?_⟩⟩
  rw [e6] at u2
  have n3 := t2.ne f3
  refine Draw.of (t2.same s3) (by omega) (by decide) (by decide) fun y4 H4 l4 u4 t4 s4 => ?_
  obtain ⟨pc, hpc, epc⟩ := pick_ints (ts := [1, 1 + y1, 1 + y2]) l4 u4
  have hpc' : 1 ≤ pc ∧ pc ≤ 1000000 := by
    simp only [List.mem_cons, List.not_mem_nil, or_false] at hpc
    rcases hpc with rfl | rfl | rfl <;> omega
  refine Ix.lst (s4.get n3 e3) epc ?_
  clear hpc epc l4 u4
  refine Draw.of t4 (by omega) (by decide) (by decide) fun y5 H5 l5 u5 t5 s5 => ?_
  try walk_at "rd"
  refine ⟨Nat.zero_le _, fun p H6 f6 s6 e6' => ?_⟩
  have pa : p ≠ a := t5.ne f6
  try walk_at "rd"
  refine ⟨_, _, rfl, _, _, rfl, rfl, ?_⟩
  refine Draw.of (t5.same s6) (by omega) (by omega) (by omega) fun y7 H7 l7 u7 t7 s7 => ⟨(by decide), fun p8 H8 f8 s8 e8 => ?_⟩
  have n8 := t7.ne f8
  refine Draw.of (t7.same s8) (by omega) (by decide) (by decide) fun y9 H9 l9 u9 t9 s9 => ?_
  refine Draw.of t9 (by omega) (by decide) (by decide) fun y10 H10 l10 u10 t10 s10 => ⟨(by decide), fun p11 H11 f11 s11 e11 => ?_⟩
  have n11 := t10.ne f11
  try walk_at "rd"
  refine Draw.of (t10.same s11) (by omega) (by decide) (by decide) fun y12 H12 l12 u12 t12 s12 => ?_
  refine Draw.of t12 (by omega) (by decide) (by decide) fun y13 H13 l13 u13 t13 s13 => ⟨_, _, rfl, rfl, ?_⟩
  refine Units.of t13 (by omega) fun y14 H14 l14 u14 t14 s14 => ⟨_, _, _, rfl, ?_⟩
  rw [tFor_rng]
  walk_at "rd"
  refine Draw.of t14 (by omega) (by decide) (by decide) fun m H15 l15 u15 t15 s15 => ?_
  have x6 : SX a H H6 := s1.trans (s2.trans ((SX.of s3).trans (s4.trans (s5.trans (SX.of s6)))))
  have x15 : SX a H11 H15 := s12.trans (s13.trans (s14.trans s15))
  have x8 : SX a H8 H15 := s9.trans (s10.trans ((SX.of s11).trans x15))
  have x615 : SX a H6 H15 := s7.trans ((SX.of s8).trans x8)
  have fp : H p = none := by
    cases e : H p with
    | none => rfl
    | some o => exact absurd ((s1.trans (s2.trans ((SX.of s3).trans (s4.trans s5)))).get pa e) (by rw [f6]; simp)
  have m8 : p8 ≠ p := fun z => by rw [z, s7.get pa e6'] at f8; cases f8
  have m11 : p11 ≠ p := fun z => by rw [z, (s7.trans ((SX.of s8).trans (s9.trans s10))).get pa e6'] at f11; cases f11
  obtain ⟨la, hla⟩ : ∃ la : Nat, y12 = (la : Int) := ⟨y12.toNat, by omega⟩
  refine FK.of (n := m.toNat) (by omega) (by omega) (fun i σ H' => ∃ (rss : List (List RowT)) (ys : List V) (o3 : Option V), σ = [some (.ref a), some (.int pc), some (.int y5), some (.ref p), some (.ref p8), some (.ref p11), some (.int y12), some (.int (1 + y13)), some (.int y14), o3] ∧ rss.length = i ∧ ys.length = i ∧ (∀ rs ∈ rss, RulG rs) ∧ H' p = some (.lst ys) ∧ AtAll (hid p (hid a H')) (rss.map ruleP) ys ∧ Tp H' a (n + 20 + 60 * i) ∧ SX a H H' ∧ H' p8 = some (.tup [.int y7, .int y5]) ∧ H' p11 = some (.tup [.int y9, .int y10]))
    ⟨[], [], _, rfl, rfl, rfl, fun d h => by simp at h, x615.get pa e6', AtAll.nil, t15.mono (by omega), x6.trans x615, x8.get n8 e8, x15.get n11 e11⟩ ?_ ?_
  · rintro i σ H3 hi ⟨rss, ys, o3, rfl, ld, ly, od, h3, a3, t3, s3, z8, z11⟩
    walk_at "rd"
    refine ⟨.inl ⟨rfl, _, SqL.of h3⟩, ?_⟩
    rw [tComp_rng]
    walk_at "rd"
    refine Draw.of t3 (by omega) (by decide) (by decide) fun r H4 l4 u4 t4 s4 => ?_
    have h4 := s4.get pa h3
    walk_at "rd"
    refine CK.of (n := (1 + r).toNat) (by omega) (by omega) fun acc hacc => ?_
    have ca : acc ≠ a := t4.ne hacc
    have cp : acc ≠ p := fun z => by subst z; rw [hacc] at h4; cases h4
    refine ⟨fun j zs H' => ∃ es : List RowT, es.length = j ∧ zs.length = j ∧ (∀ d ∈ es, RowG d) ∧ AtAll (hid acc (hid a H')) (es.map rowP) zs ∧ H' acc = some (.lst zs) ∧ Tp H' a (n + 20 + 60 * i + 1 + 12 * j) ∧ SX a H4 H', ?_, ?_, ?_⟩
    · exact ⟨[], rfl, rfl, fun d h => by simp at h, AtAll.nil, upd_same, t4.updN ca, (SX.refl a H4).updN hacc ca⟩
    · rintro j zs H5 hj ⟨es, le, lz, oe, a5, c5, t5, s5⟩
      show tCall _ _ _ _ [some _, some (.ref a)] H5 _
      walk_at "rd"
      refine RowL.of t5 (by omega) fun v d H6 rk a6 t6 s6 => ?_
      have c6 := s6.get ca c5
      have c6' : hid a H6 acc = some (.lst zs) := by rw [hid_ne ca]; exact c6
      refine ⟨c6, (by rw [lz]; exact small1000 (by omega)), es ++ [d], by rw [List.length_append, le]; rfl, by rw [List.length_append, lz]; rfl, fun x hx => ?_, ?_, upd_same, ?_, ?_⟩
      · rcases List.mem_append.mp hx with z | z
        · exact oe x z
        · rw [List.mem_singleton.mp z]; exact rk
      · rw [hid_upd_ne ca, hid_upd, List.map_append]
        exact (a5.mono (Same.hid s6)).append (AtAll.cons (At.hidL c6' _ v (row_noL d) a6) AtAll.nil)
      · exact (t6.updN ca).mono (by omega)
      · exact (s5.trans s6).updN hacc ca
    · rintro zs H6 ⟨es, le, lz, oe, a6, c6, t6, s6⟩
      have h6 := s6.get pa h4
      refine ⟨acc, zs, rfl, c6, fun l hl => ?_⟩
      have la : l ≠ a := t6.ne hl
      have lp : l ≠ p := fun z => by subst z; rw [hl] at h6; cases h6
      refine ⟨p, ys, _, rfl, rfl, by rw [upd_ne (Ne.symm lp)]; exact h6, by rw [ly]; exact small1000 (by omega), ?_⟩
      have A1 : At (hid a (upd H6 l (.tup zs))) (ruleP es) (.ref l) := by
        rw [hid_upd_ne la]
        have fr : hid a H6 l = none := by rw [hid_ne la]; exact hl
        exact At.tup upd_same ((a6.mono hid_sub).mono (same_new fr _))
      have h7 : hid a (upd H6 l (.tup zs)) p = some (.lst ys) := by rw [hid_ne pa, upd_ne (Ne.symm lp)]; exact h6
      have s67 : SX a H3 (upd H6 l (.tup zs)) := (s4.trans s6).trans (SX.of (same_new hl _))
      refine ⟨rss ++ [es], ys ++ [.ref l], _, rfl, by rw [List.length_append, ld]; rfl, by rw [List.length_append, ly]; rfl, fun x hx => ?_, upd_same, ?_, ?_, ?_, ?_, ?_⟩
      · rcases List.mem_append.mp hx with z | z
        · exact od x z
        · rw [List.mem_singleton.mp z]; exact ⟨by omega, by omega, oe⟩
      · rw [hid_upd_ne pa, hid_upd, List.map_append]
        exact (a3.mono (Same.hid s67)).append (AtAll.cons (At.hidL h7 _ _ (rule_noL es) A1) AtAll.nil)
      · exact ((t6.updN la).updN pa).mono (by omega)
      · exact (s3.trans s67).updN fp pa
      · rw [upd_ne m8]; exact s67.get n8 z8
      · rw [upd_ne m11]; exact s67.get n11 z11
  · rintro σ H3 ⟨rss, ys, o3, rfl, ld, ly, od, h3, a3, t3, s3, z8, z11⟩
    walk_at "rd"
    refine ⟨p, ys, rfl, h3, fun l hl => ?_⟩
    have la' : l ≠ a := t3.ne hl
    have A1 : At (hid a (upd H3 l (.tup ys))) (rulesP rss) (.ref l) := by
      rw [hid_upd_ne la']
      have fr : hid a H3 l = none := by rw [hid_ne la']; exact hl
      exact At.tup upd_same ((a3.mono hid_sub).mono (same_new fr _))
    have s4 := same_new hl (HO.tup ys)
    have t4 := t3.updN (o := .tup ys) la'
    generalize upd H3 l (.tup ys) = H4 at A1 s4 t4 ⊢
    refine ⟨(by decide), fun p5 H5 f5 s5 e5 => ?_⟩
    have n5 := t4.ne f5
    rw [hla] at e5
    have z45 := s4.trans s5
    refine q p5 ⟨pc, y14, y7, y5, la, 1 + y13, y9, y10, rss⟩ H5 ⟨hpc', ⟨l14, u14⟩, by show 0 ≤ y7 ∧ y7 ≤ y5; omega, by show y5 ≤ 12; omega, by show la ≤ 4; omega, by show 1 ≤ 1 + y13 ∧ 1 + y13 ≤ 6; omega, by show 0 ≤ y9 ∧ y9 ≤ 9; omega, by show 0 ≤ y10 ∧ y10 ≤ 9; omega, by show rss.length ≤ 3; omega, od⟩ ?_ ((t4.same s5).mono (by omega)) (s3.trans (SX.of z45))
    exact At.tup (by rw [hid_ne n5]; exact e5) (AtAll.cons (At.int _) (AtAll.cons (At.int _) (AtAll.cons (At.tup (by rw [hid_ne n8]; exact z45 _ _ z8) (ats_ints [y7, y5])) (AtAll.cons (At.int _) (AtAll.cons (At.int _) (AtAll.cons (At.tup (by rw [hid_ne n11]; exact z45 _ _ z11) (ats_ints [y9, y10])) (AtAll.cons (A1.mono (SX.of s5)) AtAll.nil)))))))
def spPost2 : Sp := fun vs H Q _ => ∃ (a : Addr) (n : Nat) (v : V) (c : Cv), vs = [.ref a, v] ∧ At H (cvD c) v ∧ c ≠ [] ∧ c.length ≤ 100 ∧ (∀ p ∈ c, 0 ≤ p.2 ∧ p.2 ≤ 9) ∧ Tp H a n ∧ n ≤ 100000000 ∧ ∀ p x H', PsL x → At (hid a H') (pstD x) (.ref p) → Tp H' a (n + 400) → SX a H H' → Q (.ref p) H'
theorem pick_V {ts : List V} {y : Int} (h1 : 0 ≤ y) (h2 : y < ts.length) : ∃ v, v ∈ ts ∧ atI ts y = some v := by
  obtain ⟨j, rfl⟩ : ∃ j : Nat, y = (j : Int) := ⟨y.toNat, by omega⟩
  exact ⟨ts[j]'(by omega), List.getElem_mem _, atI_nat (List.getElem?_eq_getElem _)⟩
theorem sc_l_a_post : FnScope ["_law_tape_here", "_law_curve", "_law_pace", "_law_rate", "_law_rules", "_law_least", "_law_hands", "_law_rests", "_law_late", "_law_every", "_law_room", "_law_k"] ["_law_tape_here", "_law_curve"] (defScope s_l_a_post) := ⟨rfl, rfl, rfl, by decide +kernel, rfl, by decide +kernel, by decide +kernel⟩
theorem ok_l_a_post (F : Fun K "_law_a_post" "_law_a_post" s_l_a_post f fd) (B : Bi mg) (c_l_draw : Ct P w K mg base k "_law_draw" ["_law_tape_here", "_law_many"] spDraw) (c_l_a_row : Ct P w K mg base k "_law_a_row" ["_law_tape_here"] spRowL) :
    FnOk P w K mg base CX0 (k + 1) f fd ["_law_tape_here", "_law_curve"] spPost2 := by
  refine F.ok sc_l_a_post (by rintro vs H Q E ⟨a, n, v, c, rfl, _⟩; rfl) (fun cdv A outer s H vs Q E hr h => ?_)
  obtain ⟨a, n, v, c, rfl, hv, hne, hcl, hcp, tp, hn, q⟩ := h
  have ND := sc_l_a_post.nd
  refine ⟨_, (pss_cons (ps_par3 (i := 2) (j := 3) (l := 4) rfl ND rfl rfl rfl rfl rfl rfl (pa_c (pe_op op_add pe_int (pf c_l_draw hr (pa_c (pv 0) (pa_c pe_int pa_nil)))) (pa_c (pb (call_minL rfl) B.min bt_min (pa_c (pe_comp (N' := ["_law_pair"]) (js := []) rfl (pi_tup (pv 1)) CSc.mk0 rfl (by decide) rfl (fun fp s' H' => (pe_ix ix_obj (pv 0) pe_int (fun _ _ => rfl)))) pa_nil)) (pa_c (pe_lstW pa_nil) pa_nil))) (by rfl)) (pss_cons (ps_set (i := 5) ND rfl (by first | exact Or.inl rfl | exact Or.inr rfl) (pe_ifExp (pt_cmpR op_gt (pf c_l_draw hr (pa_c (pv 0) (pa_c pe_int pa_nil))) pe_int (nomark _)) (pe_op op_fdivB (pe_op op_sub (pe_op op_add (pv 3) (pv 2)) pe_int) (pv 2)) (pf c_l_draw hr (pa_c (pv 0) (pa_c pe_int pa_nil))))) (pss_cons (ps_set (i := 6) ND rfl (by first | exact Or.inl rfl | exact Or.inr rfl) (pe_tupW (pa_c (pv 5) (pa_c (pe_op op_add (pv 5) (pf c_l_draw hr (pa_c (pv 0) (pa_c pe_int pa_nil)))) pa_nil)))) (pss_cons (ps_set (i := 7) ND rfl (by first | exact Or.inl rfl | exact Or.inr rfl) (pe_ix ix_obj (pe_lstW (pa_c (pe_tupW (pa_c pe_int (pa_c pe_int pa_nil))) (pa_c (pe_tupW (pa_c pe_int (pa_c pe_int pa_nil))) (pa_c (pe_tupW (pa_c pe_int (pa_c pe_int pa_nil))) (pa_c (pe_tupW (pa_c pe_int (pa_c pe_int pa_nil))) pa_nil))))) (pf c_l_draw hr (pa_c (pv 0) (pa_c pe_int pa_nil))) (fun _ _ => rfl))) (pss_cons (ps_par (i := 8) (j := 9) rfl ND rfl rfl (by decide) rfl rfl (pa_c (pe_ix ix_obj (pe_lstW (pa_c pe_int (pa_c pe_int (pa_c pe_int (pa_c pe_int pa_nil))))) (pf c_l_draw hr (pa_c (pv 0) (pa_c pe_int pa_nil))) (fun _ _ => rfl)) (pa_c (pe_ix ix_obj (pe_lstW (pa_c pe_int (pa_c pe_int (pa_c pe_int (pa_c pe_int pa_nil))))) (pf c_l_draw hr (pa_c (pv 0) (pa_c pe_int pa_nil))) (fun _ _ => rfl)) pa_nil)) (by rfl)) (pss_cons (ps_set (i := 10) ND rfl (by first | exact Or.inl rfl | exact Or.inr rfl) (pe_ix ix_obj (pe_lstW (pa_c (pe_op op_pow pe_int pe_int) (pa_c (pe_op op_add pe_int (pf c_l_draw hr (pa_c (pv 0) (pa_c pe_int pa_nil)))) (pa_c (pf c_l_draw hr (pa_c (pv 0) (pa_c pe_int pa_nil))) pa_nil)))) (pf c_l_draw hr (pa_c (pv 0) (pa_c pe_int pa_nil))) (fun _ _ => rfl))) (pss_cons (ps_for PassesOwn.never rfl (pi_range1 (by rfl) B.range (pa_c (pf c_l_draw hr (pa_c (pv 0) (pa_c pe_int pa_nil))) pa_nil)) (pg_name (i := 11) ND rfl (by first | exact Or.inl rfl | exact Or.inr rfl)) (pss_one (ps_expr (pe_bm PySem.F.plainAttrs_list PySem.F.slot_list_append PySem.F.type_list_append mt_append (pv 4) (pa_c (pt (call_tupL) B.tuple bt_tuple (pa_c (pe_comp (N' := ["_law_j", "_law_tape_here"]) (js := [0]) rfl (pi_range1 (by rfl) B.range (pa_c (pe_op op_add pe_int (pf c_l_draw hr (pa_c (pv 0) (pa_c pe_int pa_nil)))) pa_nil)) CSc.mk1 rfl (by decide) rfl (fun fp s' H' => (pf c_l_a_row hr (pa_c (pv 1) pa_nil)))) pa_nil)) pa_nil))))) (pss_one (ps_ret (pe_tupW (pa_c (pv 2) (pa_c (pv 10) (pa_c (pv 6) (pa_c (pv 8) (pa_c (pv 9) (pa_c (pv 7) (pa_c (pt (call_tupL) B.tuple bt_tuple (pa_c (pv 4) pa_nil)) pa_nil))))))))))))))))), ?_⟩
  obtain ⟨ca, xs, rfl, h1, h2⟩ := tup_ats hv
  have hlen : xs.length = c.length := by rw [h2.length, List.length_map]
  have nca : ca ≠ a := tp.neT h1
  simp only [seqOa 5]
  walk_at "rd"
  refine Draw.of tp (by omega) (by decide) (by decide) fun y1 H1 l1 u1 t1 s1 => ?_
  refine ⟨_, _, rfl, rfl, ?_⟩
  refine comp_TV (es := (c.map (·.2)).map PyData.int) (fun R hR => ?_) (s1.get nca h1) (by rw [List.length_map, List.length_map, hlen]) (by rw [List.length_map, List.length_map]; exact Nat.le_of_lt (small1000 (by omega))) (noL_ints _) (fun i x e H' hx he s' R hR => ?_) (fun acc zs H2 s2 hacc hl hA => ?_)
  · walk_at "rd"
    exact hR
  · obtain ⟨hi, rfl⟩ := intsD_get he
    obtain ⟨_, _, _, ht, _⟩ := tp
    have h2' : AtAll (hid a H1) (c.map prD) xs := (AtAll.hidL ht _ _ (cv_noL c) h2).mono s1
    obtain ⟨b, rfl, hi', hb⟩ := cv_get (h2'.mono hid_sub) hx
    walk_at "rd"
    refine Ix.tup (s' _ _ hb) (v := .int (c.getD i (0, 0)).2) rfl (hR _ _ (Same.refl _) ?_)
    have e : (c.map (·.2)).getD i 0 = (c.getD i (0, 0)).2 := by
      rw [List.getD_eq_getElem?_getD, List.getD_eq_getElem?_getD, List.getElem?_map, List.getElem?_eq_getElem hi']; rfl
    rw [e]
    exact At.int _
  · cases ats_back hA
    have zn : c.map (·.2) ≠ [] := fun z => hne (List.map_eq_nil_iff.mp z)
    have hB : ∀ b ∈ c.map (·.2), 0 ≤ b ∧ b ≤ 9 := fun b hb => by obtain ⟨p, hp, rfl⟩ := List.mem_map.mp hb; exact hcp p hp
    generalize c.map (·.2) = zz at *
    obtain ⟨b, r, rfl⟩ : ∃ b r, zz = b :: r := by
      cases zz with
      | nil => exact absurd rfl zn
      | cons b r => exact ⟨b, r, rfl⟩
    refine ⟨acc, b, r, rfl, hl, Nat.zero_le _, fun p H6 f6 s6 e6' => ⟨_, _, _, rfl, ?_⟩⟩
    have hR := hB _ (minI_mem r b).1
    generalize minI b r = rt at hR ⊢
    have t2 := t1.same s2
    have pa : p ≠ a := t2.ne f6
    have t6 := t2.same s6
    refine tSeqO.of (fun σ' H' => ∃ lo : Int, (0 ≤ lo ∧ lo ≤ 9) ∧ Tp H' a (n + 3) ∧ SX a H6 H' ∧ σ' = [some (.ref a), some (.ref ca), some (.int (1 + y1)), some (.int rt), some (.ref p), some (.int lo), none, none, none, none, none, none]) ?_ ?_
    rotate_left 1
    · intro N hNx
      walk_at "rd"
      refine Draw.of t6 (by omega) (by decide) (by decide) fun y7 H7 l7 u7 t7 s7 => ?_
      walk_at "rd"
      by_cases c1 : 0 < y7
      · rw [if_pos (decide_eq_true c1)]
        refine ⟨⟨by omega, by omega⟩, hNx _ _ ⟨_, ?_, t7.mono (by omega), s7, rfl⟩⟩
        have hy : y1 = 0 ∨ y1 = 1 ∨ y1 = 2 := by omega
        rcases hy with rfl | rfl | rfl <;> omega
      · rw [if_neg (by simpa using c1)]
        refine Draw.of t7 (by omega) (by decide) (by decide) fun y8 H8 l8 u8 t8 s8 => hNx _ _ ⟨_, by omega, t8.mono (by omega), s7.trans s8, rfl⟩
    rintro σ' H7 ⟨lo, hlo, t7, s7, rfl⟩
    walk_at "rd"
    refine Draw.of t7 (by omega) (by decide) (by decide) fun y8 H8 l8 u8 t8 s8 => ⟨_, _, rfl, rfl, (by decide), fun p9 H9 f9 s9 e9 => ?_⟩
    have n9 := t8.ne f9
    have t9 := t8.same s9
    refine ⟨(by decide), fun q1 G1 g1 r1 d1 => ⟨(by decide), fun q2 G2 g2 r2 d2 => ⟨(by decide), fun q3 G3 g3 r3 d3 => ⟨(by decide), fun q4 G4 g4 r4 d4 => ⟨(by decide), fun q5 G5 g5 r5 d5 => ?_⟩⟩⟩⟩⟩
    have m1 := t9.ne g1
    have m2 := (t9.same r1).ne g2
    have m3 := ((t9.same r1).same r2).ne g3
    have m4 := (((t9.same r1).same r2).same r3).ne g4
    have m5 := ((((t9.same r1).same r2).same r3).same r4).ne g5
    have r15 := r1.trans (r2.trans (r3.trans (r4.trans r5)))
    have hp9 : H9 p = some (.lst []) := (s7.trans (s8.trans (SX.of s9))).get pa e6'
    refine Draw.of (t9.same r15) (by omega) (by decide) (by decide) fun y10 H10 l10 u10 t10 s10 => ?_
    have pk : ∃ (qq : Addr) (u d : Int), atI [V.ref q1, V.ref q2, V.ref q3, V.ref q4] y10 = some (.ref qq) ∧ qq ≠ a ∧ H10 qq = some (.tup [.int u, .int d]) ∧ (0 ≤ u ∧ u ≤ 9) ∧ (0 ≤ d ∧ d ≤ 9) := by
      have hy : y10 = 0 ∨ y10 = 1 ∨ y10 = 2 ∨ y10 = 3 := by omega
      rcases hy with rfl | rfl | rfl | rfl
      · exact ⟨q1, 0, 0, rfl, m1, s10.get m1 ((r2.trans (r3.trans (r4.trans r5))) _ _ d1), by decide, by decide⟩
      · exact ⟨q2, 1, 0, rfl, m2, s10.get m2 ((r3.trans (r4.trans r5)) _ _ d2), by decide, by decide⟩
      · exact ⟨q3, 0, 1, rfl, m3, s10.get m3 ((r4.trans r5) _ _ d3), by decide, by decide⟩
      · exact ⟨q4, 2, 1, rfl, m4, s10.get m4 (r5 _ _ d4), by decide, by decide⟩
    obtain ⟨qq, ru, rd, hq1, hq2, hq3, hq4, hq5⟩ := pk
    have mq : qq ≠ p := fun z => by
      rw [z, ((SX.of r15).trans s10).get pa hp9] at hq3
      cases hq3
    have m9 : p9 ≠ p := fun z => by rw [z] at e9; rw [e9] at hp9; cases hp9
    refine Ix.lst (s10.get m5 d5) hq1 ?_
    refine ⟨(by decide), fun p11 H11 f11 s11 e11 => Draw.of (t10.same s11) (by omega) (by decide) (by decide) fun y12 H12 l12 u12 t12 s12 => ?_⟩
    have n11 := t10.ne f11
    obtain ⟨la, hla, ela⟩ := pick_ints (ts := [0, 1, 0, 2]) l12 u12
    have hla' : 0 ≤ la ∧ la ≤ 4 := by
      simp only [List.mem_cons, List.not_mem_nil, or_false] at hla
      rcases hla with rfl | rfl | rfl | rfl <;> decide
    refine Ix.lst (s12.get n11 e11) ela ?_
    refine ⟨(by decide), fun p13 H13 f13 s13 e13 => Draw.of (t12.same s13) (by omega) (by decide) (by decide) fun y14 H14 l14 u14 t14 s14 => ?_⟩
    have n13 := t12.ne f13
    obtain ⟨ev, hev, eev⟩ := pick_ints (ts := [1, 2, 1, 3]) l14 u14
    have hev' : 1 ≤ ev ∧ ev ≤ 6 := by
      simp only [List.mem_cons, List.not_mem_nil, or_false] at hev
      rcases hev with rfl | rfl | rfl | rfl <;> decide
    refine Ix.lst (s14.get n13 e13) eev ⟨_, _, rfl, ?_⟩
    try walk_at "rd"
    refine ⟨⟨by decide, by decide, by decide⟩, Draw.of t14 (by omega) (by decide) (by decide) fun y15 H15 l15 u15 t15 s15 => ⟨_, _, rfl, rfl, Draw.of t15 (by omega) (by decide) (by decide) fun y16 H16 l16 u16 t16 s16 => ⟨(by decide), fun p17 H17 f17 s17 e17 => Draw.of (t16.same s17) (by omega) (by decide) (by decide) fun y18 H18 l18 u18 t18 s18 => ?_⟩⟩⟩
    have n17 := t16.ne f17
    have e12' : (10 : Int) ^ Int.toNat 12 = 1000000000000 := by decide
    rw [e12'] at e17
    obtain ⟨rm, hrm, erm⟩ := pick_ints (ts := [1000000000000, 3 + y15, y16]) l18 u18
    have hrm' : 0 ≤ rm ∧ rm ≤ 1000000000000 := by
      simp only [List.mem_cons, List.not_mem_nil, or_false] at hrm
      rcases hrm with rfl | rfl | rfl <;> omega
    refine Ix.lst (s18.get n17 e17) erm ?_
    rw [tFor_rng]
    walk_at "rd"
    refine Draw.of t18 (by omega) (by decide) (by decide) fun m H20 l20 u20 t20 s20 => ?_
    have z10 : SX a H10 H20 := (SX.of s11).trans (s12.trans ((SX.of s13).trans (s14.trans (s15.trans (s16.trans ((SX.of s17).trans (s18.trans s20)))))))
    have z9 : SX a H9 H20 := (SX.of r15).trans (s10.trans z10)
    have z6 : SX a H6 H20 := s7.trans (s8.trans ((SX.of s9).trans z9))
    have xx : SX a H H6 := s1.trans ((SX.of s2).trans (SX.of s6))
    have fp : H p = none := by
      cases e : H p with
      | none => rfl
      | some o => exact absurd ((s1.trans (SX.of s2)).get pa e) (by rw [f6]; simp)
    refine FK.of (n := m.toNat) (by omega) (by omega) (fun i σ H' => ∃ (rss : List (List RowT)) (ys : List V) (o3 : Option V), σ = [some (.ref a), some (.ref ca), some (.int (1 + y1)), some (.int rt), some (.ref p), some (.int lo), some (.ref p9), some (.ref qq), some (.int la), some (.int ev), some (.int rm), o3] ∧ rss.length = i ∧ ys.length = i ∧ (∀ rs ∈ rss, RulG rs) ∧ H' p = some (.lst ys) ∧ AtAll (hid p (hid a H')) (rss.map ruleP) ys ∧ Tp H' a (n + 20 + 60 * i) ∧ SX a H H' ∧ H' p9 = some (.tup [.int lo, .int (lo + y8)]) ∧ H' qq = some (.tup [.int ru, .int rd]))
      ⟨[], [], _, rfl, rfl, rfl, fun d h => by simp at h, z6.get pa e6', AtAll.nil, t20.mono (by omega), xx.trans z6, z9.get n9 e9, z10.get hq2 hq3⟩ ?_ ?_
    · rintro i σ H3 hi ⟨rss, ys, o3, rfl, ld, ly, od, h3, a3, t3, s3, z8, z11⟩
      walk_at "rd"
      refine ⟨.inl ⟨rfl, _, SqL.of h3⟩, ?_⟩
      rw [tComp_rng]
      walk_at "rd"
      refine Draw.of t3 (by omega) (by decide) (by decide) fun r H4 l4 u4 t4 s4 => ?_
      have h4 := s4.get pa h3
      walk_at "rd"
      refine CK.of (n := (1 + r).toNat) (by omega) (by omega) fun acc hacc => ?_
      have ca : acc ≠ a := t4.ne hacc
      have cp : acc ≠ p := fun z => by subst z; rw [hacc] at h4; cases h4
      refine ⟨fun j zs H' => ∃ es : List RowT, es.length = j ∧ zs.length = j ∧ (∀ d ∈ es, RowG d) ∧ AtAll (hid acc (hid a H')) (es.map rowP) zs ∧ H' acc = some (.lst zs) ∧ Tp H' a (n + 20 + 60 * i + 1 + 12 * j) ∧ SX a H4 H', ?_, ?_, ?_⟩
      · exact ⟨[], rfl, rfl, fun d h => by simp at h, AtAll.nil, upd_same, t4.updN ca, (SX.refl a H4).updN hacc ca⟩
      · rintro j zs H5 hj ⟨es, le, lz, oe, a5, c5, t5, s5⟩
        show tCall _ _ _ _ [some _, some (.ref a)] H5 _
        walk_at "rd"
        refine RowL.of t5 (by omega) fun v d H6 rk a6 t6 s6 => ?_
        have c6 := s6.get ca c5
        have c6' : hid a H6 acc = some (.lst zs) := by rw [hid_ne ca]; exact c6
        refine ⟨c6, (by rw [lz]; exact small1000 (by omega)), es ++ [d], by rw [List.length_append, le]; rfl, by rw [List.length_append, lz]; rfl, fun x hx => ?_, ?_, upd_same, ?_, ?_⟩
        · rcases List.mem_append.mp hx with z | z
          · exact oe x z
          · rw [List.mem_singleton.mp z]; exact rk
        · rw [hid_upd_ne ca, hid_upd, List.map_append]
          exact (a5.mono (Same.hid s6)).append (AtAll.cons (At.hidL c6' _ v (row_noL d) a6) AtAll.nil)
        · exact (t6.updN ca).mono (by omega)
        · exact (s5.trans s6).updN hacc ca
      · rintro zs H6 ⟨es, le, lz, oe, a6, c6, t6, s6⟩
        have h6 := s6.get pa h4
        refine ⟨acc, zs, rfl, c6, fun l hl => ?_⟩
        have la : l ≠ a := t6.ne hl
        have lp : l ≠ p := fun z => by subst z; rw [hl] at h6; cases h6
        refine ⟨p, ys, _, rfl, rfl, by rw [upd_ne (Ne.symm lp)]; exact h6, by rw [ly]; exact small1000 (by omega), ?_⟩
        have A1 : At (hid a (upd H6 l (.tup zs))) (ruleP es) (.ref l) := by
          rw [hid_upd_ne la]
          have fr : hid a H6 l = none := by rw [hid_ne la]; exact hl
          exact At.tup upd_same ((a6.mono hid_sub).mono (same_new fr _))
        have h7 : hid a (upd H6 l (.tup zs)) p = some (.lst ys) := by rw [hid_ne pa, upd_ne (Ne.symm lp)]; exact h6
        have s67 : SX a H3 (upd H6 l (.tup zs)) := (s4.trans s6).trans (SX.of (same_new hl _))
        refine ⟨rss ++ [es], ys ++ [.ref l], _, rfl, by rw [List.length_append, ld]; rfl, by rw [List.length_append, ly]; rfl, fun x hx => ?_, upd_same, ?_, ?_, ?_, ?_, ?_⟩
        · rcases List.mem_append.mp hx with z | z
          · exact od x z
          · rw [List.mem_singleton.mp z]; exact ⟨by omega, by omega, oe⟩
        · rw [hid_upd_ne pa, hid_upd, List.map_append]
          exact (a3.mono (Same.hid s67)).append (AtAll.cons (At.hidL h7 _ _ (rule_noL es) A1) AtAll.nil)
        · exact ((t6.updN la).updN pa).mono (by omega)
        · exact (s3.trans s67).updN fp pa
        · rw [upd_ne m9]; exact s67.get n9 z8
        · rw [upd_ne mq]; exact s67.get hq2 z11
    · rintro σ H3 ⟨rss, ys, o3, rfl, ld, ly, od, h3, a3, t3, s3, z8, z11⟩
      walk_at "rd"
      refine ⟨p, ys, rfl, h3, fun l hl => ?_⟩
      have la' : l ≠ a := t3.ne hl
      have A1 : At (hid a (upd H3 l (.tup ys))) (rulesP rss) (.ref l) := by
        rw [hid_upd_ne la']
        have fr : hid a H3 l = none := by rw [hid_ne la']; exact hl
        exact At.tup upd_same ((a3.mono hid_sub).mono (same_new fr _))
      have s4 := same_new hl (HO.tup ys)
      have t4 := t3.updN (o := .tup ys) la'
      generalize upd H3 l (.tup ys) = H4 at A1 s4 t4 ⊢
      refine ⟨(by decide), fun p5 H5 f5 s5 e5 => ?_⟩
      have n5 := t4.ne f5
      have z45 := s4.trans s5
      obtain ⟨la', rfl⟩ : ∃ la' : Nat, la = (la' : Int) := ⟨la.toNat, by omega⟩
      refine q p5 ⟨1 + y1, rm, lo, lo + y8, la', ev, ru, rd, rss⟩ H5 ⟨by show 1 ≤ 1 + y1 ∧ 1 + y1 ≤ 1000000; omega, hrm', by show 0 ≤ lo ∧ lo ≤ lo + y8; omega, by show lo + y8 ≤ 12; omega, by show la' ≤ 4; omega, hev', hq4, hq5, by show rss.length ≤ 3; omega, od⟩ ?_ ((t4.same s5).mono (by omega)) (s3.trans (SX.of z45))
      exact At.tup (by rw [hid_ne n5]; exact e5) (AtAll.cons (At.int _) (AtAll.cons (At.int _) (AtAll.cons (At.tup (by rw [hid_ne n9]; exact z45 _ _ z8) (ats_ints [lo, lo + y8])) (AtAll.cons (At.int _) (AtAll.cons (At.int _) (AtAll.cons (At.tup (by rw [hid_ne hq2]; exact z45 _ _ z11) (ats_ints [ru, rd])) (AtAll.cons (A1.mono (SX.of s5)) AtAll.nil)))))))
def spLoad : Sp := fun vs H Q _ => ∃ (a : Addr) (n : Nat), vs = [.ref a] ∧ Tp H a n ∧ n ≤ 100000000 ∧ ∀ (p : Addr) (load : List Int) (H' : Hp), 1 ≤ load.length → load.length ≤ 600 → (∀ x ∈ load, U12 x) → p ≠ a → H' p = some (.lst (load.map V.int)) → Tp H' a (n + 700) → SX a H H' → Q (.ref p) H'
theorem sc_l_a_load : FnScope ["_law_tape_here", "_law_way", "_law_many", "_law_some"] ["_law_tape_here"] (defScope s_l_a_load) := ⟨rfl, rfl, rfl, by decide +kernel, rfl, by decide +kernel, by decide +kernel⟩
theorem ok_l_a_load (F : Fun K "_law_a_load" "_law_a_load" s_l_a_load f fd) (B : Bi mg) (c_l_draw : Ct P w K mg base k "_law_draw" ["_law_tape_here", "_law_many"] spDraw) (c_l_a_number : Ct P w K mg base k "_law_a_number" ["_law_tape_here"] spUnits) :
    FnOk P w K mg base CX0 (k + 1) f fd ["_law_tape_here"] spLoad := by
  refine F.ok sc_l_a_load (by rintro vs H Q E ⟨a, n, rfl, _⟩; rfl) (fun cdv A outer s H vs Q E hr h => ?_)
  obtain ⟨a, n, rfl, tp, hn, q⟩ := h
  have ND := sc_l_a_load.nd
  refine ⟨_, (pss_cons (ps_set (i := 1) ND rfl (by first | exact Or.inl rfl | exact Or.inr rfl) (pe_ix ix_obj (pe_lstW (pa_c pe_int (pa_c pe_int (pa_c pe_int (pa_c pe_int (pa_c pe_int (pa_c pe_int (pa_c pe_int (pa_c pe_int pa_nil))))))))) (pf c_l_draw hr (pa_c (pv 0) (pa_c pe_int pa_nil))) (fun _ _ => rfl))) (pss_cons (ps_set (i := 2) ND rfl (by first | exact Or.inl rfl | exact Or.inr rfl) (pe_ix ix_obj (pe_lstW (pa_c (pe_op op_add pe_int (pf c_l_draw hr (pa_c (pv 0) (pa_c pe_int pa_nil)))) (pa_c (pe_op op_add pe_int (pf c_l_draw hr (pa_c (pv 0) (pa_c pe_int pa_nil)))) (pa_c (pe_op op_add pe_int (pf c_l_draw hr (pa_c (pv 0) (pa_c pe_int pa_nil)))) pa_nil)))) (pv 1) (fun _ _ => rfl))) (pss_cons (ps_set (i := 3) ND rfl (by first | exact Or.inl rfl | exact Or.inr rfl) (pe_comp (N' := ["_law_k", "_law_tape_here"]) (js := [0]) rfl (pi_range1 (by rfl) B.range (pa_c (pe_op op_add pe_int (pf c_l_draw hr (pa_c (pv 0) (pa_c pe_int pa_nil)))) pa_nil)) CSc.mk1 rfl (by decide) rfl (fun fp s' H' => (pf c_l_a_number hr (pa_c (pv 1) pa_nil))))) (pss_one (ps_ret (pe_comp (N' := ["_law_k", "_law_some", "_law_tape_here"]) (js := [3, 0]) rfl (pi_range1 (by rfl) B.range (pa_c (pv 2) pa_nil)) CSc.mk2 rfl (by decide) rfl (fun fp s' H' => (pe_ix ix_obj (pv 1) (pf c_l_draw hr (pa_c (pv 2) (pa_c (pb (call_lenK (K := K) rfl) B.len bt_len (pa_c (pv 1) pa_nil)) pa_nil))) (fun _ _ => rfl))))))))), ?_⟩
  walk_at "rd"
  refine ⟨(by decide), fun p1 H1 f1 s1 e1 => Draw.of (tp.same s1) (by omega) (by decide) (by decide) fun y2 H2 l2 u2 t2 s2 => ?_⟩
  have n1 := tp.ne f1
  obtain ⟨wy, hwy, ewy⟩ := pick_ints (ts := [0, 0, 0, 0, 0, 1, 1, 2]) l2 u2
  have hwy' : 0 ≤ wy ∧ wy < 3 := by
    simp only [List.mem_cons, List.not_mem_nil, or_false] at hwy
    rcases hwy with rfl | rfl | rfl | rfl | rfl | rfl | rfl | rfl <;> decide
  refine Ix.lst (s2.get n1 e1) ewy ?_
  try walk_at "rd"
  refine Draw.of t2 (by omega) (by decide) (by decide) fun y3 H3 l3 u3 t3 s3 => ⟨_, _, rfl, rfl, Draw.of t3 (by omega) (by decide) (by decide) fun y4 H4 l4 u4 t4 s4 => ⟨_, _, rfl, rfl, Draw.of t4 (by omega) (by decide) (by decide) fun y5 H5 l5 u5 t5 s5 => ⟨_, _, rfl, rfl, (by decide), fun p6 H6 f6 s6 e6 => ?_⟩⟩⟩
  have n6 := t5.ne f6
  obtain ⟨mn, hmn, emn⟩ := pick_ints (ts := [1 + y3, 1 + y4, 590 + y5]) hwy'.1 hwy'.2
  have hmn' : 1 ≤ mn ∧ mn ≤ 600 := by
    simp only [List.mem_cons, List.not_mem_nil, or_false] at hmn
    rcases hmn with rfl | rfl | rfl <;> omega
  refine Ix.lst e6 emn ?_
  have x6 : SX a H H6 := (SX.of s1).trans (s2.trans (s3.trans (s4.trans (s5.trans (SX.of s6)))))
  have t6 := t5.same s6
  rw [tComp_rng]
  walk_at "rd"
  refine Draw.of t6 (by omega) (by decide) (by decide) fun r H7 l7 u7 t7 s7 => ?_
  walk_at "rd"
  refine CK.of (n := (1 + r).toNat) (by omega) (by omega) fun acc hacc => ?_
  have ca : acc ≠ a := t7.ne hacc
  refine ⟨fun j zs H' => ∃ es : List Int, zs = es.map V.int ∧ es.length = j ∧ (∀ d ∈ es, U12 d) ∧ H' acc = some (.lst zs) ∧ Tp H' a (n + 6 + 4 * j) ∧ SX a H7 H', ⟨[], rfl, rfl, fun d h => by simp at h, upd_same, (t7.updN ca).mono (by omega), (SX.refl a H7).updN hacc ca⟩, ?_, ?_⟩
  · rintro j zs H8 hj ⟨es, rfl, le, oe, c8, t8, s8⟩
    show tCall _ _ _ _ [some _, some (.ref a)] H8 _
    walk_at "rd"
    refine Units.of t8 (by omega) fun v H9 l9 u9 t9 s9 => ?_
    refine ⟨s9.get ca c8, (by rw [List.length_map, le]; exact small1000 (by omega)), es ++ [v], by simp, by rw [List.length_append, le]; rfl, fun x hx => ?_, upd_same, ?_, ?_⟩
    · rcases List.mem_append.mp hx with z | z
      · exact oe x z
      · rw [List.mem_singleton.mp z]; exact ⟨l9, u9⟩
    · exact (t9.updN ca).mono (by omega)
    · exact (s8.trans s9).updN hacc ca
  · rintro zs H8 ⟨es, rfl, le, oe, c8, t8, s8⟩
    try walk_at "rd"
    rw [tComp_rng]
    walk_at "rd"
    refine CK.of (n := mn.toNat) (by omega) (by omega) fun ac2 hac2 => ?_
    have ca2 : ac2 ≠ a := t8.ne hac2
    have fac2 : H ac2 = none := by
      cases e : H ac2 with
      | none => rfl
      | some o => exact absurd ((x6.trans (s7.trans s8)).get ca2 e) (by rw [hac2]; simp)
    have cc : ac2 ≠ acc := fun z => by rw [z, c8] at hac2; cases hac2
    refine ⟨fun j zs H' => ∃ ld : List Int, zs = ld.map V.int ∧ ld.length = j ∧ (∀ d ∈ ld, U12 d) ∧ H' ac2 = some (.lst zs) ∧ H' acc = some (.lst (es.map V.int)) ∧ Tp H' a (n + 40 + j) ∧ SX a H H', ⟨[], rfl, rfl, fun d h => by simp at h, upd_same, by rw [upd_ne (Ne.symm cc)]; exact c8, (t8.updN ca2).mono (by omega), ?_⟩, ?_, ?_⟩
    · exact (x6.trans (s7.trans s8)).trans (SX.of (same_new hac2 _))
    · rintro j zs H9 hj ⟨ld, rfl, le9, oe9, c9, d9, t9, s9⟩
      show tOp _ _ _ [some _, some (.ref acc), some (.ref a)] H9 _
      walk_at "rd"
      refine ⟨acc, _, rfl, .inl (SqL.of d9), ?_⟩
      rw [show (es.map V.int).length = es.length from List.length_map _]
      refine Draw.of t9 (by omega) (by omega) (by omega) fun v H10 l10 u10 t10 s10 => ?_
      have d10 := s10.get ca d9
      obtain ⟨x, hx, ex⟩ := pick_ints (ts := es) l10 u10
      refine Ix.lst d10 ex ⟨s10.get ca2 c9, (by rw [List.length_map, le9]; exact small1000 (by omega)), ld ++ [x], by simp, by rw [List.length_append, le9]; rfl, fun z hz => ?_, upd_same, by rw [upd_ne (Ne.symm cc)]; exact d10, ?_, ?_⟩
      · rcases List.mem_append.mp hz with z | z
        · exact oe9 _ z
        · rw [List.mem_singleton.mp z]; exact oe x hx
      · exact (t10.updN ca2).mono (by omega)
      · exact (s9.trans s10).updN fac2 ca2
    · rintro zs H9 ⟨ld, rfl, le9, oe9, c9, d9, t9, s9⟩
      exact q ac2 ld H9 (by omega) (by omega) oe9 ca2 c9 (t9.mono (by omega)) s9
theorem sc_l_burst_of : FnScope ["_law_load", "_law_rate", "_law_sums", "_law_least", "_law_most", "_law_come"] ["_law_load", "_law_rate"] (defScope s_l_burst_of) := ⟨rfl, rfl, rfl, by decide +kernel, rfl, by decide +kernel, by decide +kernel⟩
theorem ok_l_burst_of (F : Fun K "_law_burst_of" "_law_burst_of" s_l_burst_of f fd) (B : Bi mg) : FnOk P w K mg base CX0 (k + 1) f fd ["_law_load", "_law_rate"] spKad := by
  refine F.ok sc_l_burst_of (by rintro vs H Q E ⟨q, l, r, rfl, _⟩; rfl) (fun cdv A outer s H vs Q E hr h => ?_)
  obtain ⟨p, l, r, rfl, hp, q⟩ := h
  have ND := sc_l_burst_of.nd
  refine ⟨_, (pss_cons (ps_asg (pe_tupW (pa_c pe_int (pa_c pe_int (pa_c pe_int pa_nil)))) (pg_tup rfl (pgs_cons (pg_name (i := 2) ND rfl (by first | exact Or.inl rfl | exact Or.inr rfl)) (pgs_cons (pg_name (i := 3) ND rfl (by first | exact Or.inl rfl | exact Or.inr rfl)) (pgs_cons (pg_name (i := 4) ND rfl (by first | exact Or.inl rfl | exact Or.inr rfl)) pgs_nil))))) (pss_cons (ps_for PassesOwn.never rfl (pi_list (pv 0)) (pg_name (i := 5) ND rfl (by first | exact Or.inl rfl | exact Or.inr rfl)) (pss_cons (ps_set (i := 2) ND rfl (by first | exact Or.inl rfl | exact Or.inr rfl) (pe_op op_sub (pe_op op_add (pv 2) (pv 5)) (pv 1))) (pss_cons (ps_set (i := 3) ND rfl (by first | exact Or.inl rfl | exact Or.inr rfl) (pb (call_min2 rfl) B.min bt_min (pa_c (pv 3) (pa_c (pv 2) pa_nil)))) (pss_one (ps_set (i := 4) ND rfl (by first | exact Or.inl rfl | exact Or.inr rfl) (pb (call_max2 rfl) B.max bt_max (pa_c (pv 4) (pa_c (pe_op op_sub (pv 2) (pv 3)) pa_nil)))))))) (pss_one (ps_ret (pv 4))))), ?_⟩
  walk_at "rd"
  refine ⟨(by decide), fun p1 H1 f1 s1 e1 => ⟨p1, _, rfl, SqT.of e1, rfl, ?_⟩⟩
  walk_at "rd"
  rw [tFor_lst]
  walk_at "rd"
  refine LK.of (s1 _ _ hp) (fun i σ H' => ∃ (su le mo : Int) (o5 : Option V), σ = [some (.ref p), some (.int r), some (.int su), some (.int le), some (.int mo), o5] ∧ le ≤ su ∧ kadF r (l.drop i) mo (su - le) = kadI l r ∧ Same H H') ⟨0, 0, 0, _, rfl, by decide, rfl, s1⟩ (fun i σ H' _ ⟨_, _, _, _, _, _, _, sm⟩ => sm _ _ hp) ?_ ?_
  · rintro i x σ H' hx ⟨su, le, mo, o5, rfl, h1, h2, h3⟩
    obtain ⟨hi, rfl⟩ := ints_get hx
    walk_at "rd"
    refine ⟨_, _, _, _, rfl, ?_, ?_, h3⟩
    · split <;> omega
    · rw [← h2, List.drop_eq_getElem_cons hi, kadF]
      have eg : l.getD i 0 = l[i] := by rw [List.getD_eq_getElem?_getD, List.getElem?_eq_getElem hi]; rfl
      rw [eg]
      have ea : (su + l[i] - r) - (if su + l[i] - r < le then su + l[i] - r else le) = mx (su - le + l[i] - r) 0 := by unfold mx; repeat' split <;> try omega
      rw [ea]
      rfl
  · rintro σ H' ⟨su, le, mo, o5, rfl, h1, h2, h3⟩
    walk_at "rd"
    rw [List.length_map, List.drop_length] at h2
    have h4 := q H' h3
    rw [← h2] at h4
    exact h4
theorem noL_bools (l : List Bool) : noLAll (l.map PyData.bool) = true := noLAll_iff.mpr fun d hd => by obtain ⟨z, _, rfl⟩ := List.mem_map.mp hd; rfl
theorem bools_map {G : Hp} : ∀ {bs : List Bool} {xs : List V}, AtAll G (bs.map PyData.bool) xs → xs = bs.map V.bl
  | [], xs, h => by unfold AtAll at h; exact h
  | b :: bs, xs, h => by
    obtain ⟨x, r, rfl, h1, h2⟩ := AtAll.uncons h
    unfold At at h1
    rw [h1, bools_map h2]; rfl
theorem within_kad {c : Cv} (h : CvOk c) (l : List Int) : ((c.map fun p => decide (kadI l p.2 ≤ p.1)).all id) = withinI c l := by
  have hi : withinI c l = true ↔ ∀ p ∈ c, kadI l p.2 ≤ p.1 := by
    unfold withinI
    constructor
    · intro z p hp
      have g := gd_fits.mp (some_gd h.ne (fun p hp => (h.u p hp).1.1) (by rw [List.length_map]) z) p hp
      exact kadI_le.mpr ⟨(h.u p hp).1.1, g⟩
    · intro z
      exact gd_some h.ne (gd_fits.mpr fun p hp => (kadI_le.mp (z p hp)).2)
  rw [Bool.eq_iff_iff, hi, List.all_map, List.all_eq_true]
  simp
def spWith2 : Sp := fun vs H Q _ => ∃ (v : V) (c : Cv) (q : Addr) (l : List Int), vs = [v, .ref q] ∧ At H (cvD c) v ∧ H q = some (.lst (l.map V.int)) ∧ CvOk c ∧ ∀ H', Same H H' → Q (.bl (withinI c l)) H'
theorem sc_l_is_within : FnScope ["_law_curve", "_law_load"] ["_law_curve", "_law_load"] (defScope s_l_is_within) := ⟨rfl, rfl, rfl, by decide +kernel, rfl, by decide +kernel, by decide +kernel⟩
theorem ok_l_is_within (F : Fun K "_law_is_within" "_law_is_within" s_l_is_within f fd) (B : Bi mg) (c_l_burst_of : Ct P w K mg base k "_law_burst_of" ["_law_load", "_law_rate"] spKad) : FnOk P w K mg base CX0 (k + 1) f fd ["_law_curve", "_law_load"] spWith2 := by
  refine F.ok sc_l_is_within (by rintro vs H Q E ⟨v, c, q, l, rfl, _⟩; rfl) (fun cdv A outer s H vs Q E hr h => ?_)
  obtain ⟨v, c, qa, l, rfl, hv, hq, hC, q⟩ := h
  have ND := sc_l_is_within.nd
  refine ⟨_, (pss_one (ps_ret (pb (call_allB rfl) B.all bt_all (pa_c (pe_compG (nt := 2) (N' := ["_law_burst", "_law_rate", "_law_load"]) (js := [1]) rfl (pi_tup (pv 0)) CScG.of (fun fp s' H' => (pg_tupK (K := K) (n := 2) rfl rfl (pgs_cons (pg_name (i := 0) (by show List.Nodup (["_law_burst", "_law_rate", "_law_load"] : List Str); decide) rfl (.inl (lookup_relabel_local rfl)) (.inr (lookup_relabel_local rfl))) (pgs_cons (pg_name (i := 1) (by show List.Nodup (["_law_burst", "_law_rate", "_law_load"] : List Str); decide) rfl (.inl (lookup_relabel_local rfl)) (.inr (lookup_relabel_local rfl))) pgs_nil)))) (fun fp s' H' => ifs_nil) (fun fp s' H' => (pe_cmpR op_le (pf c_l_burst_of hr (pa_c (pv 2) (pa_c (pv 1) pa_nil))) (pv 0) (nomark _)))) pa_nil)))), ?_⟩
  obtain ⟨a, xs, rfl, h1, h2⟩ := tup_ats hv
  walk_at "rd"
  have hlen : xs.length = c.length := by rw [h2.length, List.length_map]
  have hn := hC.n
  refine comp_TQ (es := (c.map fun p => decide (kadI l p.2 ≤ p.1)).map PyData.bool) (fun i => [some (.int (c.getD i (0, 0)).1), some (.int (c.getD i (0, 0)).2)]) (fun i => rfl) (fun R hR => ?_) h1 (by rw [List.length_map, List.length_map, hlen]) (by rw [List.length_map, List.length_map]; exact Nat.le_of_lt (small1000 (by omega))) (noL_bools _) (fun i x H' hx s' R hR => ?_) (fun i e H' he s' R hR => ?_) (fun acc zs H' s' hacc hl hA => ?_)
  · walk_at "rd"; exact hR
  · obtain ⟨b, rfl, hi, hb⟩ := cv_get h2 hx
    refine ⟨b, _, rfl, SqT.of (s' _ _ hb), rfl, ?_⟩
    walk_at "rd"
    exact hR
  · show tOp _ _ _ [some _, some _, some (.ref qa)] H' R
    walk_at "rd"
    rw [List.getElem?_map, List.getElem?_map] at he
    obtain ⟨b, hb, rfl⟩ := Option.map_eq_some_iff.mp he
    obtain ⟨p, hp, rfl⟩ := Option.map_eq_some_iff.mp hb
    have ec : c.getD i (0, 0) = p := by rw [List.getD_eq_getElem?_getD, hp]; rfl
    rw [ec]
    refine ⟨qa, l, _, rfl, s' _ _ hq, fun H'' s'' => ?_⟩
    try walk_at "rd"
    exact hR _ _ s'' (At.bool _)
  · cases bools_map hA
    refine ⟨acc, _, rfl, hl, ?_⟩
    rw [within_kad hC]
    exact q _ s'
theorem maxI_mem : ∀ (r : List Int) (b : Int), maxI b r ∈ b :: r
  | [], b => by simp [maxI]
  | x :: r, b => by
    rw [maxI]
    split
    · have := maxI_mem r x
      rcases List.mem_cons.mp this with z | z
      · rw [z]; simp
      · exact List.mem_cons_of_mem _ (List.mem_cons_of_mem _ z)
    · have := maxI_mem r b
      rcases List.mem_cons.mp this with z | z
      · rw [z]; simp
      · exact List.mem_cons_of_mem _ (List.mem_cons_of_mem _ z)
def spCurve : Sp := fun vs H Q _ => ∃ (a l : Addr) (n : Nat) (load : List Int), vs = [.ref a, .ref l] ∧ Tp H a n ∧ n ≤ 100000000 ∧ H l = some (.lst (load.map V.int)) ∧ l ≠ a ∧ 1 ≤ load.length ∧ load.length ≤ 600 ∧ (∀ x ∈ load, U12 x) ∧ ∀ (p : Addr) (c : Cv) (H' : Hp), CvOk c → At (hid a H') (cvD c) (.ref p) → Tp H' a (n + 30) → SX a H H' → Q (.ref p) H'
theorem sc_l_curve_of : FnScope ["_law_tape_here", "_law_load", "_law_pairs", "_law_k", "_law_rate", "_law_burst"] ["_law_tape_here", "_law_load"] (defScope s_l_curve_of) := ⟨rfl, rfl, rfl, by decide +kernel, rfl, by decide +kernel, by decide +kernel⟩
theorem ok_l_curve_of (F : Fun K "_law_curve_of" "_law_curve_of" s_l_curve_of f fd) (B : Bi mg) (c_l_draw : Ct P w K mg base k "_law_draw" ["_law_tape_here", "_law_many"] spDraw) (c_l_burst_of : Ct P w K mg base k "_law_burst_of" ["_law_load", "_law_rate"] spKad) :
    FnOk P w K mg base CX0 (k + 1) f fd ["_law_tape_here", "_law_load"] spCurve := by
  refine F.ok sc_l_curve_of (by rintro vs H Q E ⟨a, l, n, load, rfl, _⟩; rfl) (fun cdv A outer s H vs Q E hr h => ?_)
  obtain ⟨a, l, n, load, rfl, tp, hn, hl, nla, hl1, hl2, hu, q⟩ := h
  have ND := sc_l_curve_of.nd
  refine ⟨_, (pss_cons (ps_set (i := 2) ND rfl (by first | exact Or.inl rfl | exact Or.inr rfl) (pe_lstW pa_nil)) (pss_cons (ps_for PassesOwn.never rfl (pi_range1 (by rfl) B.range (pa_c (pe_op op_add pe_int (pf c_l_draw hr (pa_c (pv 0) (pa_c pe_int pa_nil)))) pa_nil)) (pg_name (i := 3) ND rfl (by first | exact Or.inl rfl | exact Or.inr rfl)) (pss_cons (ps_set (i := 4) ND rfl (by first | exact Or.inl rfl | exact Or.inr rfl) (pe_op op_sub (pb (call_maxL rfl) B.max bt_max (pa_c (pe_op op_cat (pv 1) (pe_lstW (pa_c pe_int pa_nil))) pa_nil)) (pe_op op_mul (pf c_l_draw hr (pa_c (pv 0) (pa_c pe_int pa_nil))) (pf c_l_draw hr (pa_c (pv 0) (pa_c pe_int pa_nil)))))) (pss_cons (ps_set (i := 5) ND rfl (by first | exact Or.inl rfl | exact Or.inr rfl) (pe_op op_add (pf c_l_burst_of hr (pa_c (pv 1) (pa_c (pb (call_max2 rfl) B.max bt_max (pa_c pe_int (pa_c (pv 4) pa_nil))) pa_nil))) (pe_ix ix_obj (pe_lstW (pa_c pe_int (pa_c pe_int (pa_c (pf c_l_draw hr (pa_c (pv 0) (pa_c pe_int pa_nil))) pa_nil)))) (pf c_l_draw hr (pa_c (pv 0) (pa_c pe_int pa_nil))) (fun _ _ => rfl)))) (pss_one (ps_expr (pe_bm PySem.F.plainAttrs_list PySem.F.slot_list_append PySem.F.type_list_append mt_append (pv 2) (pa_c (pe_tupW (pa_c (pb (call_min2 rfl) B.min bt_min (pa_c (pv 5) (pa_c (pe_op op_pow pe_int pe_int) pa_nil))) (pa_c (pe_ifExp (pt_cmpR op_le (pv 5) (pe_op op_pow pe_int pe_int) (nomark _)) (pb (call_max2 rfl) B.max bt_max (pa_c pe_int (pa_c (pv 4) pa_nil))) (pe_op op_pow pe_int pe_int)) pa_nil))) pa_nil))))))) (pss_one (ps_ret (pt (call_tupL) B.tuple bt_tuple (pa_c (pv 2) pa_nil)))))), ?_⟩
  walk_at "rd"
  refine ⟨Nat.zero_le _, fun p H1 f1 s1 e1 => ?_⟩
  have pa : p ≠ a := tp.ne f1
  have e12 : (10 : Int) ^ Int.toNat 12 = 1000000000000 := by decide
  rw [tFor_rng]
  walk_at "rd"
  refine Draw.of (tp.same s1) (by omega) (by decide) (by decide) fun m H2 l2 u2 t2 s2 => ?_
  try walk_at "rd"
  refine FK.of (n := (1 + m).toNat) (by omega) (by omega) (fun i σ H' => ∃ (c : Cv) (ys : List V) (o3 o4 o5 : Option V), σ = [some (.ref a), some (.ref l), some (.ref p), o3, o4, o5] ∧ c.length = i ∧ ys.length = i ∧ (∀ p ∈ c, (0 ≤ p.1 ∧ p.1 ≤ 1000000000000) ∧ 0 ≤ p.2 ∧ p.2 ≤ 1000000000000) ∧ H' p = some (.lst ys) ∧ AtAll (hid p (hid a H')) (c.map prD) ys ∧ Tp H' a (n + 1 + 4 * i) ∧ SX a H H')
    ⟨[], [], _, _, _, rfl, rfl, rfl, fun d h => by simp at h, s2.get pa e1, AtAll.nil, t2.mono (by omega), (SX.of s1).trans s2⟩ ?_ ?_
  · rintro i σ H3 hi ⟨c, ys, o3, o4, o5, rfl, ld, ly, od, h3, a3, t3, s3⟩
    walk_at "rd"
    refine ⟨(by decide), fun q1 H4 f4 s4 e4 => ⟨l, q1, _, _, rfl, rfl, s4 _ _ (s3.get nla hl), e4, (by rw [List.length_map]; exact Nat.le_of_lt (small1000 (by show load.length + 1 ≤ 1000; omega))), fun pl fl => ?_⟩⟩
    have el : load.map V.int ++ [V.int 0] = (load ++ [0]).map V.int := by simp
    rw [el]
    have hw : ∀ x ∈ load ++ [0], U12 x := fun x hx => by
      rcases List.mem_append.mp hx with z | z
      · exact hu x z
      · rw [List.mem_singleton.mp z]; exact ⟨by decide, by decide⟩
    have hwn : load ++ [0] ≠ [] := by simp
    generalize load ++ [0] = lw at hw hwn
    obtain ⟨b, r, rfl⟩ : ∃ b r, lw = b :: r := by
      cases lw with
      | nil => exact absurd rfl hwn
      | cons b r => exact ⟨b, r, rfl⟩
    have s5 := same_new fl (HO.lst ((b :: r).map V.int))
    have e5 : upd H4 pl (HO.lst ((b :: r).map V.int)) pl = some (.lst ((b :: r).map V.int)) := upd_same
    generalize upd H4 pl (HO.lst ((b :: r).map V.int)) = H5 at s5 e5 ⊢
    have hM := hw _ (maxI_mem r b)
    refine ⟨pl, b, r, rfl, e5, ?_⟩
    generalize maxI b r = M at hM ⊢
    have s35 := s4.trans s5
    refine Draw.of (t3.same s35) (by omega) (by decide) (by decide) fun y6 H6 l6 u6 t6 s6 => Draw.of t6 (by omega) (by decide) (by decide) fun y7 H7 l7 u7 t7 s7 => ⟨_, _, rfl, rfl, .inr (by omega), ?_⟩
    have y67 : 0 ≤ y6 * y7 := Int.mul_nonneg l6 l7
    have x37 : SX a H3 H7 := (SX.of s35).trans (s6.trans s7)
    refine ⟨l, load, _, rfl, (s3.trans x37).get nla hl, fun H8 s8 => Draw.of (t7.same s8) (by omega) (by decide) (by decide) fun y9 H9 l9 u9 t9 s9 => ⟨(by decide), fun p10 H10 f10 s10 e10 => Draw.of (t9.same s10) (by omega) (by decide) (by decide) fun y11 H11 l11 u11 t11 s11 => ?_⟩⟩
    obtain ⟨ad, had, ead⟩ := pick_ints (ts := [0, 1, y9]) l11 u11
    have had' : 0 ≤ ad := by
      simp only [List.mem_cons, List.not_mem_nil, or_false] at had
      rcases had with rfl | rfl | rfl <;> omega
    refine Ix.lst (s11.get (t9.ne f10) e10) ead ⟨_, _, rfl, rfl, ?_⟩
    have hk := kad_nn (l := load) (r := if M - y6 * y7 > 0 then M - y6 * y7 else 0)
    generalize kadI load (if M - y6 * y7 > 0 then M - y6 * y7 else 0) = kd at hk ⊢
    have x311 : SX a H3 H11 := x37.trans ((SX.of s8).trans (s9.trans ((SX.of s10).trans s11)))
    have h11 := x311.get pa h3
    have fin : ∀ (u v : Int), (0 ≤ u ∧ u ≤ 1000000000000) → (0 ≤ v ∧ v ≤ 1000000000000) → ∀ (t : Addr) (H12 : Hp) (o3 o4 o5 : Option V), H11 t = none → Same H11 H12 → H12 t = some (.tup [.int u, .int v]) →
        ∃ (c : Cv) (ys' : List V) (o3' o4' o5' : Option V), [some (V.ref a), some (V.ref l), some (V.ref p), o3, o4, o5] = [some (V.ref a), some (V.ref l), some (V.ref p), o3', o4', o5'] ∧ c.length = i + 1 ∧ ys'.length = i + 1 ∧ (∀ p ∈ c, (0 ≤ p.1 ∧ p.1 ≤ 1000000000000) ∧ 0 ≤ p.2 ∧ p.2 ≤ 1000000000000) ∧ upd H12 p (.lst (ys ++ [.ref t])) p = some (.lst ys') ∧ AtAll (hid p (hid a (upd H12 p (.lst (ys ++ [.ref t]))))) (c.map prD) ys' ∧ Tp (upd H12 p (.lst (ys ++ [.ref t]))) a (n + 1 + 4 * (i + 1)) ∧ SX a H (upd H12 p (.lst (ys ++ [.ref t]))) := fun u v hu hv t H12 o3 o4 o5 ft s12 e12' => by
      have ta : t ≠ a := t11.ne ft
      have tpn : t ≠ p := fun z => by rw [z, h11] at ft; cases ft
      have x312 : SX a H3 H12 := x311.trans (SX.of s12)
      refine ⟨c ++ [(u, v)], ys ++ [.ref t], _, _, _, rfl, by rw [List.length_append, ld]; rfl, by rw [List.length_append, ly]; rfl, fun x hx => ?_, upd_same, ?_, ?_, ?_⟩
      · rcases List.mem_append.mp hx with z | z
        · exact od x z
        · rw [List.mem_singleton.mp z]; exact ⟨hu, hv⟩
      · rw [hid_upd_ne pa, hid_upd, List.map_append]
        exact (a3.mono (Same.hid x312)).append (AtAll.cons (At.tup (by rw [hid_ne tpn, hid_ne ta]; exact e12') (ats_ints [u, v])) AtAll.nil)
      · exact ((t11.same s12).updN pa).mono (by omega)
      · exact (s3.trans x312).updN f1 pa
    refine ⟨.inl ⟨rfl, _, SqL.of h11⟩, ⟨by decide, by decide, by decide⟩, ⟨by decide, by decide, by decide⟩, ?_⟩
    rw [e12]
    have hr1 : 0 ≤ (if M - y6 * y7 > 0 then M - y6 * y7 else 0) ∧ (if M - y6 * y7 > 0 then M - y6 * y7 else 0) ≤ 1000000000000 := by
      obtain ⟨hM1, hM2⟩ := hM
      generalize y6 * y7 = yy at y67 ⊢
      split <;> omega
    have hr2 : 0 ≤ (if 1000000000000 < kd + ad then 1000000000000 else kd + ad) ∧ (if 1000000000000 < kd + ad then 1000000000000 else kd + ad) ≤ 1000000000000 := by split <;> omega
    by_cases c1 : kd + ad ≤ 1000000000000
    · rw [if_pos (decide_eq_true c1)]
      exact ⟨(by decide), fun t H12 ft s12 et => ⟨p, ys, _, rfl, rfl, s12 _ _ h11, by rw [ly]; exact small1000 (by omega), fin _ _ hr2 hr1 t H12 _ _ _ ft s12 et⟩⟩
    · rw [if_neg (by simpa using c1)]
      exact ⟨⟨by decide, by decide, by decide⟩, (by decide), fun t H12 ft s12 et => ⟨p, ys, _, rfl, rfl, s12 _ _ h11, by rw [ly]; exact small1000 (by omega), fin _ _ hr2 ⟨by decide, by decide⟩ t H12 _ _ _ ft s12 et⟩⟩
  · rintro σ H3 ⟨c, ys, o3, o4, o5, rfl, ld, ly, od, h3, a3, t3, s3⟩
    walk_at "rd"
    refine ⟨p, ys, rfl, h3, fun l' hl' => ?_⟩
    have la : l' ≠ a := t3.ne hl'
    refine q l' c _ ⟨fun z => by rw [z] at ld; simp at ld; omega, by omega, od⟩ ?_ ((t3.updN la).mono (by omega)) (s3.trans (SX.of (same_new hl' _)))
    rw [hid_upd_ne la]
    have fr : hid a H3 l' = none := by rw [hid_ne la]; exact hl'
    exact At.tup upd_same ((a3.mono hid_sub).mono (same_new fr _))
def whole (d : PyData) : Bool := isInt d && !isBool d
def fromD (d : PyData) (i : Int) : Bool := match d with
  | .int n => decide (i ≤ n)
  | _ => false
theorem sc_is_whole : FnScope ["thing"] ["thing"] (defScope s_is_whole) := ⟨rfl, rfl, rfl, by decide +kernel, rfl, by decide +kernel, by decide +kernel⟩
theorem ok_is_whole (F : Fun K "is_whole" "is_whole" s_is_whole f fd) (B : Bi mg) : FnOk P w K mg base CX0 (k + 1) f fd ["thing"] (spB1 whole) := by
  refine F.ok sc_is_whole (spB1.len rfl) (fun cdv A outer s H vs Q E hr h => ?_)
  obtain ⟨v, d, rfl, hv, q⟩ := h
  have ND := sc_is_whole.nd
  refine ⟨_, (pss_one (ps_ret (pe_and (pb isi_int B.isinstance bt_isinstance (pa_c (pv 0) (pa_c (pty (by rfl) B.int bt_int) pa_nil))) (pe_one (pe_not (pb isi_bool B.isinstance bt_isinstance (pa_c (pv 0) (pa_c (pty (by rfl) B.bool bt_bool) pa_nil)))))))), ?_⟩
  walk_at "rd"
  refine Isi.of hv ?_
  walk_at "rd"
  cases e : isInt d with
  | true =>
    rw [if_pos rfl]
    refine Isi.of hv ?_
    walk_at "rd"
    have := q H (Same.refl H)
    unfold whole at this
    rw [e] at this
    exact this
  | false =>
    rw [if_neg (by decide)]
    have := q H (Same.refl H)
    unfold whole at this
    rw [e] at this
    exact this
theorem sc_is_from : FnScope ["thing", "least"] ["thing", "least"] (defScope s_is_from) := ⟨rfl, rfl, rfl, by decide +kernel, rfl, by decide +kernel, by decide +kernel⟩
theorem whole_int {d : PyData} (h : whole d = true) : ∃ i, d = .int i := by
  cases d <;> first | exact ⟨_, rfl⟩ | (exfalso; revert h; simp [whole, isInt, isBool])
theorem ok_is_from (F : Fun K "is_from" "is_from" s_is_from f fd) (c_is_whole : Ct P w K mg base k "is_whole" ["thing"] (spB1 whole)) : FnOk P w K mg base CX0 (k + 1) f fd ["thing", "least"] (spBI1 fromD) := by
  refine F.ok sc_is_from (spBI1.len rfl) (fun cdv A outer s H vs Q E hr h => ?_)
  obtain ⟨v, d, i, rfl, hv, q⟩ := h
  have ND := sc_is_from.nd
  refine ⟨_, (pss_one (ps_ret (pe_and (pf c_is_whole hr (pa_c (pv 0) pa_nil)) (pe_one (pe_cmpR op_ge (pv 0) (pv 1) (nomark _)))))), ?_⟩
  walk_at "rd"
  refine B1.of hv fun H1 s1 => ?_
  walk_at "rd"
  have q1 := q H1 s1
  cases e : whole d with
  | true =>
    rw [if_pos rfl]
    obtain ⟨n, rfl⟩ := whole_int e
    unfold At at hv
    subst hv
    walk_at "rd"
    exact q1
  | false =>
    rw [if_neg (by decide)]
    have : fromD d i = false := by cases d <;> first | rfl | (exfalso; revert e; simp [whole, isInt, isBool])
    rw [this] at q1
    exact q1
theorem lst_ats {H : Hp} {ds : List PyData} {v : V} (h : At H (.list ds) v) : ∃ a xs, v = .ref a ∧ H a = some (.lst xs) ∧ AtAll H ds xs := by unfold At at h; exact h
def intOf : PyData → Int
  | .int i => i
  | _ => 0
def isLoadD (d : PyData) : Bool := match d with
  | .list ds => decide (1 ≤ ds.length ∧ ds.length ≤ 600) && (ds.map (fromD · 0)).all id
  | _ => false
def lenB (d : PyData) : Prop := ∀ ds, d = .list ds → ds.length ≤ 900
def spIL : Sp := fun vs H Q _ => ∃ (v : V) (d : PyData), vs = [v, .int 1] ∧ At H d v ∧ lenB d ∧ ∀ H', Same H H' → Q (.bl (isLoadD d)) H'
theorem sc_is_load : FnScope ["thing", "least"] ["thing", "least"] (defScope s_is_load) := ⟨rfl, rfl, rfl, by decide +kernel, rfl, by decide +kernel, by decide +kernel⟩
theorem ok_is_load (F : Fun K "is_load" "is_load" s_is_load f fd) (B : Bi mg) (O : Co K mg) (c_is_from : Ct P w K mg base k "is_from" ["thing", "least"] (spBI1 fromD)) : FnOk P w K mg base CX0 (k + 1) f fd ["thing", "least"] spIL := by
  refine F.ok sc_is_load (by rintro vs H Q E ⟨v, d, rfl, _⟩; rfl) (fun cdv A outer s H vs Q E hr h => ?_)
  obtain ⟨v, d, rfl, hv, hB, q⟩ := h
  have ND := sc_is_load.nd
  refine ⟨_, (pss_cons (ps_if (PW.pt (pw_or (pt_not (pt_val (pb isi_lst B.isinstance bt_isinstance (pa_c (pv 0) (pa_c (pty (by rfl) B.list bt_list) pa_nil))))) (pw_or1 (pt_not (pt_chain op_le op_le (pv 1) (pb (call_lenK (K := K) rfl) B.len bt_len (pa_c (pv 0) pa_nil)) (pglobI O.MOST_BEATS_SHOWN)))))) (pss_one (ps_ret pe_bl)) pss_nil) (pss_one (ps_ret (pb (call_allB rfl) B.all bt_all (pa_c (pe_comp (N' := ["come"]) (js := []) rfl (pi_list (pv 0)) CSc.mk0 rfl (by decide) rfl (fun fp s' H' => (pf c_is_from hr (pa_c (pv 0) (pa_c pe_int pa_nil))))) pa_nil))))), ?_⟩
  walk_at "rd"
  refine Isi.of hv ?_
  walk_at "rd"
  cases e : isLst d with
  | false =>
    rw [if_pos (by decide)]
    have z : isLoadD d = false := by cases d <;> first | rfl | (exfalso; revert e; simp [isLst])
    have q1 := q H (Same.refl H)
    rw [z] at q1
    exact q1
  | true =>
    rw [if_neg (by decide)]
    obtain ⟨ds, rfl⟩ : ∃ ds, d = .list ds := by cases d <;> first | exact ⟨_, rfl⟩ | (exfalso; revert e; simp [isLst])
    obtain ⟨a, xs, rfl, h1, h2⟩ := lst_ats hv
    have hl : xs.length = ds.length := h2.length
    have hB := hB ds rfl
    refine ⟨a, xs, rfl, .inl (SqL.of h1), ?_⟩
    rw [hl]
    have z : isLoadD (.list ds) = (decide (1 ≤ ds.length ∧ ds.length ≤ 600) && (ds.map (fromD · 0)).all id) := rfl
    rw [z] at q
    refine ⟨_, _, rfl, rfl, ?_⟩
    by_cases c1 : (1 : Int) ≤ ds.length
    · rw [if_pos (decide_eq_true c1)]
      refine ⟨_, _, rfl, rfl, ?_⟩
      by_cases c2 : (ds.length : Int) ≤ 600
      · rw [if_neg (by rw [decide_eq_true c2]; decide)]
        rw [decide_eq_true (show 1 ≤ ds.length ∧ ds.length ≤ 600 by omega)] at q
        refine comp_L (g := (fromD · 0)) (fun R hR => ?_) h1 h2 (Nat.le_of_lt (small1000 (by omega))) (fun x d' H' s' hx R hR => ?_) (fun acc H' s' hl => ?_)
        · walk_at "rd"; exact hR
        · walk_at "rd"
          exact BI1.of hx hR
        · exact ⟨acc, _, rfl, hl, q H' s'⟩
      · rw [if_pos (by rw [decide_eq_false c2]; decide)]
        rw [decide_eq_false (show ¬ (1 ≤ ds.length ∧ ds.length ≤ 600) by omega)] at q
        exact q H (Same.refl H)
    · rw [if_neg (by simpa using c1)]
      rw [decide_eq_false (show ¬ (1 ≤ ds.length ∧ ds.length ≤ 600) by omega)] at q
      exact q H (Same.refl H)
theorem from_int {d : PyData} {i : Int} (h : fromD d i = true) : ∃ n, d = .int n ∧ i ≤ n := by
  cases d <;> first | exact ⟨_, rfl, of_decide_eq_true h⟩ | (exfalso; revert h; simp [fromD])
theorem loads_ints : ∀ {ds : List PyData}, (ds.map (fromD · 0)).all id = true → ∃ l : List Int, ds = l.map .int ∧ ∀ x ∈ l, 0 ≤ x
  | [], _ => ⟨[], rfl, fun _ h => by simp at h⟩
  | d :: ds, h => by
    rw [List.map_cons, List.all_cons, Bool.and_eq_true] at h
    obtain ⟨n, rfl, hn⟩ := from_int h.1
    obtain ⟨l, rfl, hl⟩ := loads_ints h.2
    exact ⟨n :: l, rfl, fun x hx => by rcases List.mem_cons.mp hx with rfl | z; exact hn; exact hl x z⟩
theorem isLoad_ints {d : PyData} (h : isLoadD d = true) : ∃ l : List Int, d = .list (l.map .int) ∧ 1 ≤ l.length ∧ l.length ≤ 600 ∧ ∀ x ∈ l, 0 ≤ x := by
  cases d <;> first | (exfalso; revert h; simp [isLoadD]; done) | skip
  rename_i ds
  have h : (decide (1 ≤ ds.length ∧ ds.length ≤ 600) && (ds.map (fromD · 0)).all id) = true := h
  rw [Bool.and_eq_true] at h
  obtain ⟨l, rfl, hl⟩ := loads_ints h.2
  have := of_decide_eq_true h.1
  rw [List.length_map] at this
  exact ⟨l, rfl, this.1, this.2, hl⟩
def spBreaks : Sp := fun vs H Q _ => ∃ (b aw : Int) (u : V) (st : Stn), vs = [.int b, u, .int aw] ∧ At H (stD st) u ∧ ∀ H', Same H H' → Q (.bl (decide (b < st.w) || decide (0 < aw))) H'
theorem sc_breaks : FnScope ["bound", "behind", "away"] ["bound", "behind", "away"] (defScope s_breaks) := ⟨rfl, rfl, rfl, by decide +kernel, rfl, by decide +kernel, by decide +kernel⟩
theorem ok_breaks (F : Fun K "breaks" "breaks" s_breaks f fd) : FnOk P w K mg base CX0 (k + 1) f fd ["bound", "behind", "away"] spBreaks := by
  refine F.ok sc_breaks (by rintro vs H Q E ⟨b, aw, u, st, rfl, _⟩; rfl) (fun cdv A outer s H vs Q E hr h => ?_)
  obtain ⟨b, aw, u, st, rfl, a1, q⟩ := h
  have ND := sc_breaks.nd
  refine ⟨_, (pss_one (ps_ret (pe_or (pe_cmpR op_gt (pe_ix ix_obj (pv 1) pe_int (fun _ _ => rfl)) (pv 0) (nomark _)) (pe_one (pe_cmpR op_gt (pv 2) pe_int (nomark _)))))), ?_⟩
  obtain ⟨sa, sb, sc, rfl, g1, g2, g3⟩ := stn_shape a1
  walk_at "rd"
  refine Ix.tup g1 (v := .int st.w) rfl ?_
  walk_at "rd"
  have q1 := q H (Same.refl H)
  cases e : decide (b < st.w) with
  | true => rw [e] at q1; rw [if_pos rfl]; exact q1
  | false => rw [e] at q1; rw [if_neg (by decide)]; exact q1
/-- what went away at the last of the beats -/
def awayI (x : Pst) (st : Stn) (l : List Int) : Int := match l.getLast? with
  | none => 0
  | some y => y - takenI x (afterI x st l.dropLast) y
def brokenI (x : Pst) (st : Stn) (c : Cv) (b : Int) (d : PyData) : Bool := match d with
  | .list ds => isLoadD d && (withinI c (ds.map intOf) && (decide (b < (afterI x st (ds.map intOf)).w) || decide (0 < awayI x st (ds.map intOf))))
  | _ => false
theorem intOf_ints (l : List Int) : (l.map PyData.int).map intOf = l := by rw [List.map_map]; exact List.map_id l
theorem cut_init (xs : List V) (v : V) : cutV (xs ++ [v]) none (some (-1)) = xs := by
  unfold cutV HT.sIx
  simp
  rw [show (-1 + ((xs.length : Int) + 1)).toNat = xs.length by omega, List.take_left]
def spShows : Sp := fun vs H Q _ => ∃ (v u cv t : V) (x : Pst) (st : Stn) (c : Cv) (b : Int) (d : PyData), vs = [v, u, cv, .int b, t] ∧ At H (pstD x) v ∧ At H (stD st) u ∧ At H (cvD c) cv ∧ At H d t ∧ lenB d ∧ PsIs x ∧ StIs st ∧ CvOk c ∧ ∀ H', Same H H' → Q (.bl (brokenI x st c b d)) H'
theorem sc_shows_broken : FnScope ["post", "stand", "curve", "bound", "thing", "behind", "done", "away", "change"] ["post", "stand", "curve", "bound", "thing"] (defScope s_shows_broken) := ⟨rfl, rfl, rfl, by decide +kernel, rfl, by decide +kernel, by decide +kernel⟩
theorem ok_shows_broken (F : Fun K "shows_broken" "shows_broken" s_shows_broken f fd) (c_is_load : Ct P w K mg base k "is_load" ["thing", "least"] spIL) (c_within : Ct P w K mg base k "within" ["curve", "load"] spWithin) (c_beat : CtD P w K mg base k "beat" ["post", "stand", "come", "free"] 12 spBeat) (c_after : Ct P w K mg base k "after" ["post", "stand", "load"] spAfter) (c_breaks : Ct P w K mg base k "breaks" ["bound", "behind", "away"] spBreaks) :
    FnOk P w K mg base CX0 (k + 1) f fd ["post", "stand", "curve", "bound", "thing"] spShows := by
  refine F.ok sc_shows_broken (by rintro vs H Q E ⟨v, u, cv, t, x, st, c, b, d, rfl, _⟩; rfl) (fun cdv A outer s H vs Q E hr h => ?_)
  obtain ⟨pA, sA, cA, tA, x, st, c, b, d, rfl, a1, a2, a3, a4, hB, hx, hs, hC, q⟩ := h
  have ND := sc_shows_broken.nd
  refine ⟨_, (pss_cons (ps_if (PW.pt (pw_or (pt_not (pt_val (pf c_is_load hr (pa_c (pv 4) (pa_c pe_int pa_nil))))) (pw_or1 (pt_not (pt_val (pf c_within hr (pa_c (pv 2) (pa_c (pv 4) pa_nil)))))))) (pss_one (ps_ret pe_bl)) pss_nil) (pss_cons (ps_asg (pfd c_beat hr (pa_c (pv 0) (pa_c (pf c_after hr (pa_c (pv 0) (pa_c (pv 1) (pa_c (pe_slice sl_list (pv 4) po_none (po_some (pe_un un_neg pe_int))) pa_nil)))) (pa_c (pe_ix ix_obj (pv 4) (pe_un un_neg pe_int) (fun _ _ => rfl)) pa_nil)))) (pg_tup rfl (pgs_cons (pg_name (i := 5) ND rfl (by first | exact Or.inl rfl | exact Or.inr rfl)) (pgs_cons (pg_name (i := 6) ND rfl (by first | exact Or.inl rfl | exact Or.inr rfl)) (pgs_cons (pg_name (i := 7) ND rfl (by first | exact Or.inl rfl | exact Or.inr rfl)) (pgs_cons (pg_name (i := 8) ND rfl (by first | exact Or.inl rfl | exact Or.inr rfl)) pgs_nil)))))) (pss_one (ps_ret (pf c_breaks hr (pa_c (pv 3) (pa_c (pv 5) (pa_c (pv 7) pa_nil)))))))), ?_⟩
  walk_at "rd"
  refine ⟨tA, d, rfl, a4, hB, fun H1 s1 => ?_⟩
  try walk_at "rd"
  cases e : isLoadD d with
  | false =>
    rw [if_pos (by decide)]
    have z : brokenI x st c b d = false := by cases d <;> first | rfl | (show (isLoadD _ && _) = false; rw [e]; rfl)
    rw [z] at q
    exact q H1 s1
  | true =>
    rw [if_neg (by decide)]
    obtain ⟨l, rfl, l1, l2, l3⟩ := isLoad_ints e
    have eb : brokenI x st c b (.list (l.map .int)) = (withinI c l && (decide (b < (afterI x st l).w) || decide (0 < awayI x st l))) := by
      show (isLoadD _ && _) = _
      rw [e, intOf_ints, Bool.true_and]
    rw [eb] at q
    obtain ⟨p, xs, rfl, h1, h2⟩ := lst_ats a4
    cases ats_back h2
    refine ⟨cA, c, p, l, rfl, a3.mono s1, s1 _ _ h1, hC.ne, (by have := hC.n; omega), fun H2 s2 => ⟨_, rfl, ?_⟩⟩
    have s12 := s1.trans s2
    cases ew : withinI c l with
    | false =>
      rw [if_pos (by decide)]
      rw [ew] at q
      exact q H2 s12
    | true =>
      rw [if_neg (by decide)]
      rw [ew, Bool.true_and] at q
      obtain ⟨ini, y, rfl⟩ : ∃ ini y, l = ini ++ [y] := by
        rcases List.eq_nil_or_concat l with rfl | ⟨i, y, rfl⟩
        · simp at l1
        · exact ⟨i, y, by simp⟩
      have em : (ini ++ [y]).map V.int = ini.map V.int ++ [V.int y] := by simp
      rw [em] at h1
      refine ⟨p, _, rfl, SqL.of (s12 _ _ h1), fun p3 f3 => ?_⟩
      rw [cut_init]
      have s3 := same_new f3 (HO.lst (ini.map V.int))
      have e3 : upd H2 p3 (HO.lst (ini.map V.int)) p3 = some (.lst (ini.map V.int)) := upd_same
      generalize upd H2 p3 (HO.lst (ini.map V.int)) = H3 at s3 e3 ⊢
      have s13 := s12.trans s3
      refine ⟨pA, sA, p3, x, st, ini, rfl, a1.mono s13, a2.mono s13, hx, hs, e3, fun u' H4 s4 a5 => Ix.lst ((s13.trans s4) _ _ h1) (v := .int y) (atI_last _ _) ?_⟩
      have s14 := s13.trans s4
      refine ⟨pA, u', x, afterI x st ini, y, 12, rfl, a1.mono s14, a5, hx, after_is hx hs, fun p5 u5 H5 s5 a6 e5 => ⟨p5, _, rfl, SqT.of e5, rfl, ?_⟩⟩
      walk_at "rd"
      have en : withI x (movedI x (afterI x st ini) y) (chI x (afterI x st ini) y 12) = afterI x st (ini ++ [y]) := (afterI_append x st ini y).symm
      rw [en] at a6
      have ea : awayI x st (ini ++ [y]) = y - takenI x (afterI x st ini) y := by
        unfold awayI
        rw [List.getLast?_concat, List.dropLast_concat]
      rw [ea] at q
      exact ⟨b, _, u5, _, rfl, a6, fun H6 s6 => q H6 (s14.trans (s5.trans s6))⟩
def spDue : Sp := fun vs H Q _ => ∃ (v u cv t : V) (x : Pst) (st : Stn) (c : Cv) (b : Int) (d : PyData), vs = [v, u, cv, .int b, t] ∧ At H (pstD x) v ∧ At H (stD st) u ∧ At H (cvD c) cv ∧ At H d t ∧ lenB d ∧ PsL x ∧ StW st ∧ CvOk c ∧ ∀ H', Same H H' → Q (.bl (brokenI x st c b d)) H'
theorem away_snoc (x : Pst) (st : Stn) (l : List Int) (y : Int) : awayI x st (l ++ [y]) = y - takenI x (afterI x st l) y := by
  unfold awayI
  rw [List.getLast?_concat, List.dropLast_concat]
theorem sc_l_due_of : FnScope ["_law_post", "_law_stand", "_law_curve", "_law_bound", "_law_thing", "_law_away", "_law_come", "_law_change"] ["_law_post", "_law_stand", "_law_curve", "_law_bound", "_law_thing"] (defScope s_l_due_of) := ⟨rfl, rfl, rfl, by decide +kernel, rfl, by decide +kernel, by decide +kernel⟩
theorem ok_l_due_of (F : Fun K "_law_due_of" "_law_due_of" s_l_due_of f fd) (B : Bi mg) (c_l_beat : Ct P w K mg base k "_law_beat" ["_law_post", "_law_stand", "_law_come"] spLBeat) (c_l_is_within : Ct P w K mg base k "_law_is_within" ["_law_curve", "_law_load"] spWith2) :
    FnOk P w K mg base CX0 (k + 1) f fd ["_law_post", "_law_stand", "_law_curve", "_law_bound", "_law_thing"] spDue := by
  refine F.ok sc_l_due_of (by rintro vs H Q E ⟨v, u, cv, t, x, st, c, b, d, rfl, _⟩; rfl) (fun cdv A outer s H vs Q E hr h => ?_)
  obtain ⟨pA, sA, cA, tA, x, st, c, b, d, rfl, a1, a2, a3, a4, hB, hx, hs, hC, q⟩ := h
  have ND := sc_l_due_of.nd
  refine ⟨_, (pss_cons (ps_if (PW.pt (pw_or (pt_not (pt_val (pb isi_lst B.isinstance bt_isinstance (pa_c (pv 4) (pa_c (pty (by rfl) B.list bt_list) pa_nil))))) (pw_or1 (pt_not (pt_chain op_le op_le pe_int (pb (call_lenK (K := K) rfl) B.len bt_len (pa_c (pv 4) pa_nil)) pe_int))))) (pss_one (ps_ret pe_bl)) pss_nil) (pss_cons (ps_if (pt_not (pt_val (pb (call_allB rfl) B.all bt_all (pa_c (pe_comp (N' := ["_law_come"]) (js := []) rfl (pi_list (pv 4)) CSc.mk0 rfl (by decide) rfl (fun fp s' H' => (pe_and (pb isi_int B.isinstance bt_isinstance (pa_c (pv 0) (pa_c (pty (by rfl) B.int bt_int) pa_nil))) (pe_and (pe_not (pb isi_bool B.isinstance bt_isinstance (pa_c (pv 0) (pa_c (pty (by rfl) B.bool bt_bool) pa_nil)))) (pe_one (pe_cmpR op_ge (pv 0) pe_int (nomark _))))))) pa_nil)))) (pss_one (ps_ret pe_bl)) pss_nil) (pss_cons (ps_set (i := 5) ND rfl (by first | exact Or.inl rfl | exact Or.inr rfl) pe_int) (pss_cons (ps_for PassesOwn.never rfl (pi_list (pv 4)) (pg_name (i := 6) ND rfl (by first | exact Or.inl rfl | exact Or.inr rfl)) (pss_one (ps_asg (pf c_l_beat hr (pa_c (pv 0) (pa_c (pv 1) (pa_c (pv 6) pa_nil)))) (pg_tup rfl (pgs_cons (pg_name (i := 1) ND rfl (by first | exact Or.inl rfl | exact Or.inr rfl)) (pgs_cons (pg_name (i := 5) ND rfl (by first | exact Or.inl rfl | exact Or.inr rfl)) (pgs_cons (pg_name (i := 7) ND rfl (by first | exact Or.inl rfl | exact Or.inr rfl)) pgs_nil))))))) (pss_one (ps_ret (pe_and (pf c_l_is_within hr (pa_c (pv 2) (pa_c (pv 4) pa_nil))) (pe_one (pe_or (pe_cmpR op_gt (pe_ix ix_obj (pv 1) pe_int (fun _ _ => rfl)) (pv 3) (nomark _)) (pe_one (pe_cmpR op_gt (pv 5) pe_int (nomark _)))))))))))), ?_⟩
  walk_at "rd"
  have bad : isLoadD d = false → ∀ H1, Same H H1 → Q (.bl false) H1 := fun e H1 s1 => by
    have z : brokenI x st c b d = false := by cases d <;> first | rfl | (show (isLoadD _ && _) = false; rw [e]; rfl)
    rw [z] at q
    exact q H1 s1
  refine Isi.of a4 ?_
  walk_at "rd"
  cases e : isLst d with
  | false =>
    rw [if_pos (by decide)]
    exact bad (by cases d <;> first | rfl | (exfalso; revert e; simp [isLst])) H (Same.refl H)
  | true =>
    rw [if_neg (by decide)]
    obtain ⟨ds, rfl⟩ : ∃ ds, d = .list ds := by cases d <;> first | exact ⟨_, rfl⟩ | (exfalso; revert e; simp [isLst])
    obtain ⟨p, xs, rfl, h1, h2⟩ := lst_ats a4
    have hl : xs.length = ds.length := h2.length
    have hB := hB ds rfl
    have z : isLoadD (.list ds) = (decide (1 ≤ ds.length ∧ ds.length ≤ 600) && (ds.map (fromD · 0)).all id) := rfl
    refine ⟨p, xs, rfl, .inl (SqL.of h1), ?_⟩
    rw [hl]
    refine ⟨_, _, rfl, rfl, ?_⟩
    by_cases c1 : (1 : Int) ≤ ds.length
    · rw [if_pos (decide_eq_true c1)]
      refine ⟨_, _, rfl, rfl, ?_⟩
      by_cases c2 : (ds.length : Int) ≤ 600
      · rw [if_neg (by rw [decide_eq_true c2]; decide)]
        rw [decide_eq_true (show 1 ≤ ds.length ∧ ds.length ≤ 600 by omega), Bool.true_and] at z
        refine comp_L (g := (fromD · 0)) (fun R hR => ?_) h1 h2 (Nat.le_of_lt (small1000 (by omega))) (fun y d' H' s' hy R hR => ?_) (fun acc H1 s1 hl1 => ?_)
        · walk_at "rd"; exact hR
        · walk_at "rd"
          refine Isi.of hy ?_
          walk_at "rd"
          cases ei : isInt d' with
          | false =>
            rw [if_neg (by decide)]
            have zf : fromD d' 0 = false := by cases d' <;> first | rfl | (exfalso; revert ei; simp [isInt])
            rw [zf] at hR
            exact hR H' (Same.refl _)
          | true =>
            rw [if_pos rfl]
            refine Isi.of hy ?_
            walk_at "rd"
            cases eb : isBool d' with
            | true =>
              have zf : fromD d' 0 = false := by cases d' <;> first | rfl | (exfalso; revert eb; simp [isBool])
              rw [zf] at hR
              exact hR H' (Same.refl _)
            | false =>
              obtain ⟨n, rfl⟩ := whole_int (d := d') (by unfold whole; rw [ei, eb]; rfl)
              unfold At at hy
              subst hy
              try walk_at "rd"
              exact hR H' (Same.refl _)
        · refine ⟨acc, _, rfl, hl1, ?_⟩
          cases eA : (ds.map (fromD · 0)).all id with
          | false =>
            rw [if_pos (by decide)]
            exact bad (by rw [z, eA]) H1 s1
          | true =>
            rw [if_neg (by decide)]
            obtain ⟨l, rfl, l3⟩ := loads_ints eA
            rw [List.length_map] at hB c1 c2
            have eb : brokenI x st c b (.list (l.map .int)) = (withinI c l && (decide (b < (afterI x st l).w) || decide (0 < awayI x st l))) := by
              show (isLoadD _ && _) = _
              rw [z, eA, intOf_ints, Bool.true_and]
            rw [eb] at q
            cases ats_back h2
            rw [tFor_lst]
            walk_at "rd"
            refine LK.of (s1 _ _ h1) (fun i σ H' => ∃ (u' : V) (o6 o7 : Option V), σ = [some pA, some u', some cA, some (.int b), some (.ref p), some (.int (awayI x st (l.take i))), o6, o7] ∧ At H' (stD (afterI x st (l.take i))) u' ∧ Same H H') ⟨sA, _, _, rfl, a2.mono s1, s1⟩ (fun i σ H' _ ⟨_, _, _, _, _, sm⟩ => sm _ _ h1) ?_ ?_
            · rintro i y σ H2 hy ⟨u', o6, o7, rfl, a5, s2⟩
              obtain ⟨hi, rfl⟩ := ints_get hy
              walk_at "rd"
              refine ⟨pA, u', x, afterI x st (l.take i), l.getD i 0, rfl, a1.mono s2, a5, hx, hs.after hx, fun p3 u3 H3 s3 a6 e3 => ⟨p3, _, rfl, SqT.of e3, rfl, ?_⟩⟩
              walk_at "rd"
              have et : l.take (i + 1) = l.take i ++ [l.getD i 0] := take_snoc (by rw [List.getD_eq_getElem?_getD, List.getElem?_eq_getElem hi]; rfl)
              rw [et, away_snoc, afterI_append]
              exact ⟨u3, _, _, rfl, a6, s2.trans s3⟩
            · rintro σ H2 ⟨u', o6, o7, rfl, a5, s2⟩
              rw [List.length_map, List.take_length] at a5 ⊢
              walk_at "rd"
              refine ⟨cA, c, p, l, rfl, a3.mono s2, s2 _ _ h1, hC, fun H3 s3 => ?_⟩
              have s23 := s2.trans s3
              have q1 := q H3 s23
              try walk_at "rd"
              cases ew : withinI c l with
              | false =>
                rw [ew] at q1
                rw [if_neg (by decide)]
                exact q1
              | true =>
                rw [ew] at q1
                rw [if_pos rfl]
                obtain ⟨sa, sb, sc, rfl, g1, g2, g3⟩ := stn_shape a5
                refine Ix.tup (s3 _ _ g1) (v := .int (afterI x st l).w) rfl ?_
                try walk_at "rd"
                cases eg : decide (b < (afterI x st l).w) with
                | true => rw [eg] at q1; rw [if_pos rfl]; exact q1
                | false => rw [eg] at q1; rw [if_neg (by decide)]; exact q1
      · rw [if_pos (by rw [decide_eq_false c2]; decide)]
        exact bad (by rw [z, decide_eq_false (show ¬ (1 ≤ ds.length ∧ ds.length ≤ 600) by omega)]; rfl) H (Same.refl H)
    · rw [if_neg (by simpa using c1)]
      exact bad (by rw [z, decide_eq_false (show ¬ (1 ≤ ds.length ∧ ds.length ≤ 600) by omega)]; rfl) H (Same.refl H)
theorem rSlL.of {K : PySem.W.Frag} {H : Hp} {l : Addr} {xs : List V} {lo hi : Option Int} {Q : VK} (hl : H l = some (.lst xs)) (q : ∀ p H', H p = none → Same H H' → H' p = some (.lst (cutV xs lo hi)) → Q (.ref p) H') : rSlL K (.ref l) lo hi H Q :=
  ⟨l, xs, rfl, SqL.of hl, fun p fp => q p _ fp (same_new fp _) upd_same⟩
theorem rCat.of {H : Hp} {l b : Addr} {xs zs : List V} {Q : VK} (h1 : H l = some (.lst xs)) (h2 : H b = some (.lst zs)) (hn : xs.length + zs.length ≤ sizeLine) (q : ∀ p H', H p = none → Same H H' → H' p = some (.lst (xs ++ zs)) → Q (.ref p) H') : rCat (.ref l) (.ref b) H Q :=
  ⟨l, b, xs, zs, rfl, rfl, h1, h2, hn, fun p fp => q p _ fp (same_new fp _) upd_same⟩
theorem rep_flat (v : V) : ∀ n : Nat, (List.replicate n [v]).flatten = List.replicate n v
  | 0 => rfl
  | n + 1 => by rw [List.replicate_succ, List.flatten_cons, rep_flat v n]; rfl
theorem len2 {xs ys : List V} (h : xs.length + ys.length ≤ 1000) : xs.length + ys.length ≤ sizeLine := Nat.le_of_lt (small1000 h)
def Big (x : Int) : Prop := -(10 ^ 25) ≤ x ∧ x ≤ 10 ^ 25
theorem Big.abs {x : Int} (h : Big x) : x.natAbs ≤ 10 ^ 25 := by obtain ⟨h1, h2⟩ := h; omega
theorem nice_ints : ∀ {l : List Int}, (∀ x ∈ l, Big x) → NiceAll (10 ^ 25) 0 (502 * l.length) (l.map .int)
  | [], _ => nice_nil
  | x :: l, h => by
    have := (NiceAll.one (nice_int (h x (by simp)).abs)).append (nice_ints (l := l) fun y hy => h y (by simp [hy]))
    exact this.mono (Nat.le_refl _) (Nat.le_refl _) (by rw [List.length_cons]; omega)
structure NiceT (d : PyData) : Prop where
  n : Nice (10 ^ 25) 2 400000 d
  l : lenB d
def ThE (a : Addr) (H : Hp) (v : V) : Prop := ∃ d, At (hid a H) d v ∧ NiceT d
def OdE (a : Addr) (H : Hp) (v : V) : Prop := ∃ d, At (hid a H) d v ∧ Nice (10 ^ 25) 1 1000 d
theorem ThE.mono {a : Addr} {H H' : Hp} {v : V} (s : SX a H H') : ThE a H v → ThE a H' v := fun ⟨d, h1, h2⟩ => ⟨d, h1.mono s, h2⟩
theorem OdE.mono {a : Addr} {H H' : Hp} {v : V} (s : SX a H H') : OdE a H v → OdE a H' v := fun ⟨d, h1, h2⟩ => ⟨d, h1.mono s, h2⟩
theorem ThE.ints {a p : Addr} {H : Hp} {l : List Int} (h : H p = some (.lst (l.map V.int))) (pa : p ≠ a) (hl : l.length ≤ 601) (hb : ∀ x ∈ l, Big x) : ThE a H (.ref p) :=
  ⟨.list (l.map .int), At.lst (by rw [hid_ne pa]; exact h) (ats_ints l), ((nice_ints hb).lst.mono (Nat.le_refl _) (by decide) (by omega)), fun ds e => by cases e; rw [List.length_map]; omega⟩
theorem ThE.tup {a p : Addr} {H : Hp} {l : List Int} (h : H p = some (.tup (l.map V.int))) (pa : p ≠ a) (hl : l.length ≤ 601) (hb : ∀ x ∈ l, Big x) : ThE a H (.ref p) :=
  ⟨.tuple (l.map .int), At.tup (by rw [hid_ne pa]; exact h) (ats_ints l), ((nice_ints hb).tup.mono (Nat.le_refl _) (by decide) (by omega)), fun ds e => by cases e⟩
theorem ThE.odd {a p : Addr} {H : Hp} {l1 l2 : List Int} {v : V} (h : H p = some (.lst (l1.map V.int ++ [v] ++ l2.map V.int))) (pa : p ≠ a) (ho : OdE a H v) (hl : l1.length + l2.length ≤ 601) (h1 : ∀ x ∈ l1, Big x) (h2 : ∀ x ∈ l2, Big x) : ThE a H (.ref p) := by
  obtain ⟨d, o1, o2⟩ := ho
  refine ⟨.list (l1.map .int ++ [d] ++ l2.map .int), At.lst (by rw [hid_ne pa]; exact h) (AtAll.append (AtAll.append (ats_ints l1) (AtAll.cons o1 AtAll.nil)) (ats_ints l2)), ?_, fun ds e => ?_⟩
  · have n1 := (nice_ints h1).mono (Nat.le_refl _) (Nat.zero_le 1) (Nat.le_refl _)
    have n2 := (nice_ints h2).mono (Nat.le_refl _) (Nat.zero_le 1) (Nat.le_refl _)
    exact ((n1.append (NiceAll.one o2)).append n2).lst.mono (Nat.le_refl _) (Nat.le_refl _) (by omega)
  · cases e
    simp only [List.length_append, List.length_map, List.length_cons, List.length_nil]
    omega
def spOther : Sp := fun vs H Q _ => ∃ (a l : Addr) (n : Nat) (load : List Int), vs = [.ref a, .ref l] ∧ Tp H a n ∧ n ≤ 100000000 ∧ H l = some (.lst (load.map V.int)) ∧ l ≠ a ∧ 1 ≤ load.length ∧ load.length ≤ 600 ∧ (∀ x ∈ load, U12 x) ∧ ∀ (t : V) (H' : Hp), ThE a H' t → Tp H' a (n + 10) → SX a H H' → Q t H'
theorem sc_l_otherwise : FnScope ["_law_tape_here", "_law_load", "_law_at", "_law_way", "_law_odd", "_law_more", "_law_some"] ["_law_tape_here", "_law_load"] (defScope s_l_otherwise) := ⟨rfl, rfl, rfl, by decide +kernel, rfl, by decide +kernel, by decide +kernel⟩
theorem ok_l_otherwise (F : Fun K "_law_otherwise" "_law_otherwise" s_l_otherwise f fd) (B : Bi mg) (c_l_draw : Ct P w K mg base k "_law_draw" ["_law_tape_here", "_law_many"] spDraw) :
    FnOk P w K mg base CX0 (k + 1) f fd ["_law_tape_here", "_law_load"] spOther := by
  refine F.ok sc_l_otherwise (by rintro vs H Q E ⟨a, l, n, load, rfl, _⟩; rfl) (fun cdv A outer s H vs Q E hr h => ?_)
  obtain ⟨a, l, n, load, rfl, tp, hn, hl, nla, hl1, hl2, hu, q⟩ := h
  have ND := sc_l_otherwise.nd
  refine ⟨_, (pss_cons (ps_par (i := 2) (j := 3) rfl ND rfl rfl (by decide) rfl rfl (pa_c (pf c_l_draw hr (pa_c (pv 0) (pa_c (pb (call_lenK (K := K) rfl) B.len bt_len (pa_c (pv 1) pa_nil)) pa_nil))) (pa_c (pf c_l_draw hr (pa_c (pv 0) (pa_c pe_int pa_nil))) pa_nil)) (by rfl)) (pss_cons (ps_set (i := 4) ND rfl (by first | exact Or.inl rfl | exact Or.inr rfl) (pe_ix ix_obj (pe_lstW (pa_c (pe_un un_neg pe_int) (pa_c pe_bl (pa_c pe_bl (pa_c pe_non (pa_c pe_str (pa_c (pe_lstW (pa_c pe_int pa_nil)) (pa_c (pe_op op_pow pe_int pe_int) (pa_c (pe_tupW (pa_c pe_int pa_nil)) pa_nil))))))))) (pf c_l_draw hr (pa_c (pv 0) (pa_c pe_int pa_nil))) (fun _ _ => rfl))) (pss_cons (ps_set (i := 5) ND rfl (by first | exact Or.inl rfl | exact Or.inr rfl) (pe_op op_add (pe_ix ix_obj (pv 1) (pv 2) (fun _ _ => rfl)) (pe_ix ix_obj (pe_lstW (pa_c pe_int (pa_c (pe_op op_pow pe_int pe_int) (pa_c (pe_op op_sub pe_int (pb (call_min2 rfl) B.min bt_min (pa_c pe_int (pa_c (pe_ix ix_obj (pv 1) (pv 2) (fun _ _ => rfl)) pa_nil)))) pa_nil)))) (pf c_l_draw hr (pa_c (pv 0) (pa_c pe_int pa_nil))) (fun _ _ => rfl)))) (pss_cons (ps_set (i := 6) ND rfl (by first | exact Or.inl rfl | exact Or.inr rfl) (pe_lstW (pa_c (pe_op op_cat (pe_slice sl_list (pv 1) po_none (po_some (pv 2))) (pe_slice sl_list (pv 1) (po_some (pe_op op_add (pv 2) pe_int)) po_none)) (pa_c (pe_op op_cat (pe_op op_cat (pe_slice sl_list (pv 1) po_none (po_some (pv 2))) (pe_slice sl_list (pv 1) (po_some (pv 2)) (po_some (pe_op op_add (pv 2) pe_int)))) (pe_slice sl_list (pv 1) (po_some (pv 2)) po_none)) (pa_c (pe_op op_cat (pe_op op_cat (pe_slice sl_list (pv 1) po_none (po_some (pv 2))) (pe_lstW (pa_c (pv 5) pa_nil))) (pe_slice sl_list (pv 1) (po_some (pe_op op_add (pv 2) pe_int)) po_none)) pa_nil))))) (pss_cons (ps_set (i := 6) ND rfl (by first | exact Or.inl rfl | exact Or.inr rfl) (pe_op op_cat (pv 6) (pe_lstW (pa_c (pe_op op_cat (pe_slice sl_list (pv 1) po_none (po_some (pe_un un_neg pe_int))) (pe_lstW (pa_c (pv 5) pa_nil))) (pa_c (pe_op op_cat (pe_op op_cat (pe_slice sl_list (pv 1) po_none (po_some (pv 2))) (pe_lstW (pa_c (pv 4) pa_nil))) (pe_slice sl_list (pv 1) (po_some (pe_op op_add (pv 2) pe_int)) po_none)) (pa_c (pe_lstW pa_nil) (pa_c (pt (call_tupL) B.tuple bt_tuple (pa_c (pv 1) pa_nil)) (pa_c (pe_slice sl_list (pv 1) po_none (po_some (pe_op op_add (pv 2) pe_int))) pa_nil)))))))) (pss_one (ps_ret (pe_ix ix_obj (pe_op op_cat (pv 6) (pe_lstW (pa_c (pe_op op_rep (pe_lstW (pa_c (pe_ix ix_obj (pv 1) pe_int (fun _ _ => rfl)) pa_nil)) (pe_ix ix_obj (pe_lstW (pa_c pe_int (pa_c pe_int pa_nil))) (pf c_l_draw hr (pa_c (pv 0) (pa_c pe_int pa_nil))) (fun _ _ => rfl))) pa_nil))) (pv 3) (fun _ _ => rfl))))))))), ?_⟩
  simp only [seqOa 4, seqOa 5, seqOa 6]
  walk_at "rd"
  refine ⟨l, _, rfl, .inl (SqL.of hl), ?_⟩
  rw [show (load.map V.int).length = load.length from List.length_map _]
  refine Draw.of tp (by omega) (by omega) (by omega) fun y1 H1 l1 u1 t1 s1 => Draw.of t1 (by omega) (by decide) (by decide) fun y2 H2 l2 u2 t2 s2 => ⟨_, _, rfl, ?_⟩
  obtain ⟨j, rfl⟩ : ∃ j : Nat, y1 = (j : Int) := ⟨y1.toNat, by omega⟩
  have x2 := s1.trans s2
  have hB : ∀ x ∈ load, Big x := fun x hx => by have := hu x hx; obtain ⟨z1, z2⟩ := this; unfold Big; omega
  have hj : j < load.length := by omega
  have cutA : cutV (load.map V.int) none (some (j : Int)) = (load.take j).map V.int := by rw [cut_to (by omega), Int.toNat_natCast, List.map_take]
  have cutB : cutV (load.map V.int) (some ((j : Int) + 1)) none = (load.drop (j + 1)).map V.int := by rw [cut_from (by omega), show ((j : Int) + 1).toNat = j + 1 by omega, List.map_drop]
  have cutC : cutV (load.map V.int) (some (j : Int)) (some ((j : Int) + 1)) = ((load.drop j).take 1).map V.int := by rw [cut_one (by omega) (by rw [List.length_map]; omega), Int.toNat_natCast, List.map_take, List.map_drop]
  have cutD : cutV (load.map V.int) (some (j : Int)) none = (load.drop j).map V.int := by rw [cut_from (by omega), Int.toNat_natCast, List.map_drop]
  have cutE : cutV (load.map V.int) none (some (-1)) = load.dropLast.map V.int := by
    rcases List.eq_nil_or_concat load with z | ⟨i, y, z⟩
    · rw [z] at hl1; simp at hl1
    · rw [z, List.concat_eq_append, List.dropLast_concat, List.map_append]
      exact cut_init _ _
  have cutF : cutV (load.map V.int) none (some ((j : Int) + 1)) = (load.take (j + 1)).map V.int := by rw [cut_to (by omega), show ((j : Int) + 1).toNat = j + 1 by omega, List.map_take]
  have bTD : ∀ (i k : Nat), ∀ x ∈ load.take i ++ load.drop k, Big x := fun i k x hx => by
    rcases List.mem_append.mp hx with z | z
    · exact hB x (List.mem_of_mem_take z)
    · exact hB x (List.mem_of_mem_drop z)
  refine tSeqO.of (fun σ' H' => ∃ vo : V, OdE a H' vo ∧ Tp H' a (n + 3) ∧ SX a H H' ∧ σ' = [some (.ref a), some (.ref l), some (.int j), some (.int y2), some vo, none, none]) ?_ ?_
  rotate_left 1
  · intro N hNx
    walk_at "rd"
    refine ⟨(by decide), fun p1 G1 f1 r1 e1 => ⟨⟨by decide, by decide, by decide⟩, (by decide), fun p2 G2 f2 r2 e2 => ⟨(by decide), fun p3 G3 f3 r3 e3 => ?_⟩⟩⟩
    have n1 := t2.ne f1
    have n2 := (t2.same r1).ne f2
    have n3 := ((t2.same r1).same r2).ne f3
    have r13 := r1.trans (r2.trans r3)
    refine Draw.of (t2.same r13) (by omega) (by decide) (by decide) fun y4 G4 l4 u4 t4 s4 => ?_
    have pk : ∃ v, atI [V.int (-1), V.bl true, V.bl false, V.non, V.str (Str.ofString "1"), V.ref p1, V.int (10 ^ Int.toNat 20), V.ref p2] y4 = some v ∧ OdE a G4 v := by
      have hy : y4 = 0 ∨ y4 = 1 ∨ y4 = 2 ∨ y4 = 3 ∨ y4 = 4 ∨ y4 = 5 ∨ y4 = 6 ∨ y4 = 7 := by omega
      rcases hy with rfl | rfl | rfl | rfl | rfl | rfl | rfl | rfl
      · exact ⟨_, rfl, .int (-1), At.int _, (nice_int (by decide)).mono (Nat.le_refl _) (by decide) (by decide)⟩
      · exact ⟨_, rfl, .bool true, At.bool _, (nice_leaf (.inr ⟨_, rfl⟩)).mono (Nat.le_refl _) (by decide) (by decide)⟩
      · exact ⟨_, rfl, .bool false, At.bool _, (nice_leaf (.inr ⟨_, rfl⟩)).mono (Nat.le_refl _) (by decide) (by decide)⟩
      · exact ⟨_, rfl, .none, At.non, (nice_leaf (.inl rfl)).mono (Nat.le_refl _) (by decide) (by decide)⟩
      · exact ⟨_, rfl, .str (Str.ofString "1"), At.str _, (nice_str (by decide +kernel)).mono (Nat.le_refl _) (by decide) (by decide)⟩
      · exact ⟨_, rfl, .list [.int 1], At.lst (by rw [hid_ne n1]; exact s4.get n1 ((r2.trans r3) _ _ e1)) (ats_ints [1]), (NiceAll.one (nice_int (i := 1) (by decide))).lst.mono (Nat.le_refl _) (by decide) (by decide)⟩
      · exact ⟨_, rfl, .int (10 ^ 20), At.int _, (nice_int (by decide)).mono (Nat.le_refl _) (by decide) (by decide)⟩
      · exact ⟨_, rfl, .tuple [.int 1], At.tup (by rw [hid_ne n2]; exact s4.get n2 (r3 _ _ e2)) (ats_ints [1]), (NiceAll.one (nice_int (i := 1) (by decide))).tup.mono (Nat.le_refl _) (by decide) (by decide)⟩
    obtain ⟨vo, evo, hvo⟩ := pk
    exact Ix.lst (s4.get n3 e3) evo (hNx _ _ ⟨vo, hvo, t4.mono (by omega), x2.trans ((SX.of r13).trans s4), rfl⟩)
  rintro σ' H3 ⟨vo, ho, t3, s3, rfl⟩
  refine tSeqO.of (fun σ' H' => ∃ mo : Int, (0 ≤ mo ∧ mo ≤ 2000000000000) ∧ Tp H' a (n + 4) ∧ SX a H3 H' ∧ σ' = [some (.ref a), some (.ref l), some (.int j), some (.int y2), some vo, some (.int mo), none]) ?_ ?_
  rotate_left 1
  · intro N hNx
    walk_at "rd"
    have hl3 := s3.get nla hl
    have ej : atI (load.map V.int) (j : Int) = some (V.int (load.getD j 0)) := atI_nat (by rw [List.getElem?_map, List.getElem?_eq_getElem hj, List.getD_eq_getElem?_getD, List.getElem?_eq_getElem hj]; rfl)
    have hjm : U12 (load.getD j 0) := hu _ (by rw [List.getD_eq_getElem?_getD, List.getElem?_eq_getElem hj]; exact List.getElem_mem _)
    obtain ⟨m1, m2⟩ := hjm
    generalize load.getD j 0 = lj at ej m1 m2
    refine Ix.lst hl3 ej ⟨⟨by decide, by decide, by decide⟩, Ix.lst hl3 ej ⟨_, _, rfl, (by decide), fun p1 G1 f1 r1 e1 => Draw.of (t3.same r1) (by omega) (by decide) (by decide) fun y4 G4 l4 u4 t4 s4 => ?_⟩⟩
    have n1 := t3.ne f1
    have e6 : (10 : Int) ^ Int.toNat 6 = 1000000 := by decide
    rw [e6] at e1
    obtain ⟨ad, had, ead⟩ := pick_ints (ts := [1, 1000000, 0 - if lj < 1 then lj else 1]) l4 u4
    have hm : 0 ≤ lj + ad ∧ lj + ad ≤ 2000000000000 := by
      simp only [List.mem_cons, List.not_mem_nil, or_false] at had
      rcases had with rfl | rfl | rfl
      · omega
      · omega
      · split <;> omega
    exact Ix.lst (s4.get n1 e1) ead ⟨_, _, rfl, rfl, hNx _ _ ⟨_, hm, t4.mono (by omega), (SX.of r1).trans s4, rfl⟩⟩
  rintro σ' H4 ⟨mo, hmo, t4, s4, rfl⟩
  have hl4 := (s3.trans s4).get nla hl
  have bmo : Big mo := by unfold Big; omega
  refine tSeqO.of (fun σ' H' => ∃ (v0 v1 v2 : V) (ps : Addr), ThE a H' v0 ∧ ThE a H' v1 ∧ ThE a H' v2 ∧ ps ≠ a ∧ H' ps = some (.lst [v0, v1, v2]) ∧ Same H4 H' ∧ σ' = [some (.ref a), some (.ref l), some (.int j), some (.int y2), some vo, some (.int mo), some (.ref ps)]) ?_ ?_
  rotate_left 1
  · intro N hNx
    walk_at "rd"
    refine rSlL.of hl4 fun p1 G1 f1 r1 e1 => ?_
    rw [cutA] at e1
    refine rSlL.of (r1 _ _ hl4) fun p2 G2 f2 r2 e2 => ?_
    rw [cutB] at e2
    refine rCat.of (r2 _ _ e1) e2 (len2 (by simp only [List.length_map, List.length_take, List.length_drop]; omega)) fun p3 G3 f3 r3 e3 => ?_
    have z2 := r1.trans r2
    have z3 := z2.trans r3
    have k0 : ThE a G3 (.ref p3) := ThE.ints (l := load.take j ++ load.drop (j + 1)) (by rw [List.map_append]; exact e3) ((t4.same z2).ne f3) (by simp only [List.length_append, List.length_take, List.length_drop]; omega) (bTD _ _)
    refine rSlL.of (z3 _ _ hl4) fun p4 G4 f4 r4 e4 => ?_
    rw [cutA] at e4
    have z4 := z3.trans r4
    refine rSlL.of (z4 _ _ hl4) fun p5 G5 f5 r5 e5 => ?_
    rw [cutC] at e5
    refine rCat.of (r5 _ _ e4) e5 (len2 (by simp only [List.length_map, List.length_take, List.length_drop]; omega)) fun p6 G6 f6 r6 e6 => ?_
    have z6 := z4.trans (r5.trans r6)
    refine rSlL.of (z6 _ _ hl4) fun p7 G7 f7 r7 e7 => ?_
    rw [cutD] at e7
    refine rCat.of (r7 _ _ e6) e7 (len2 (by simp only [List.length_append, List.length_map, List.length_take, List.length_drop]; omega)) fun p8 G8 f8 r8 e8 => ?_
    have z7 := z6.trans r7
    have z8 := z7.trans r8
    have k1 : ThE a G8 (.ref p8) := ThE.ints (l := load.take j ++ (load.drop j).take 1 ++ load.drop j) (by rw [List.map_append, List.map_append]; exact e8) ((t4.same z7).ne f8) (by simp only [List.length_append, List.length_take, List.length_drop]; omega) (fun x hx => by
      rcases List.mem_append.mp hx with z | z
      · rcases List.mem_append.mp z with z | z
        · exact hB x (List.mem_of_mem_take z)
        · exact hB x (List.mem_of_mem_drop (List.mem_of_mem_take z))
      · exact hB x (List.mem_of_mem_drop z))
    refine rSlL.of (z8 _ _ hl4) fun p9 G9 f9 r9 e9 => ?_
    rw [cutA] at e9
    refine ⟨(by decide), fun p10 G10 f10 r10 e10 => rCat.of (r10 _ _ e9) e10 (len2 (by simp only [List.length_map, List.length_take, List.length_cons, List.length_nil]; omega)) fun p11 G11 f11 r11 e11 => ?_⟩
    have z11 := z8.trans (r9.trans (r10.trans r11))
    refine rSlL.of (z11 _ _ hl4) fun p12 G12 f12 r12 e12 => ?_
    rw [cutB] at e12
    refine rCat.of (r12 _ _ e11) e12 (len2 (by simp only [List.length_append, List.length_map, List.length_take, List.length_drop, List.length_cons, List.length_nil]; omega)) fun p13 G13 f13 r13 e13 => ⟨(by decide), fun p14 G14 f14 r14 e14 => ?_⟩
    have z12 := z11.trans r12
    have z13 := z12.trans r13
    have k2 : ThE a G13 (.ref p13) := ThE.ints (l := load.take j ++ [mo] ++ load.drop (j + 1)) (by rw [List.map_append, List.map_append]; exact e13) ((t4.same z12).ne f13) (by simp only [List.length_append, List.length_take, List.length_drop, List.length_cons, List.length_nil]; omega) (fun x hx => by
      rcases List.mem_append.mp hx with z | z
      · rcases List.mem_append.mp z with z | z
        · exact hB x (List.mem_of_mem_take z)
        · rw [List.mem_singleton.mp z]; exact bmo
      · exact hB x (List.mem_of_mem_drop z))
    have w8 := r9.trans (r10.trans (r11.trans (r12.trans (r13.trans r14))))
    exact hNx _ _ ⟨_, _, _, p14, k0.mono (SX.of (r4.trans (r5.trans (r6.trans (r7.trans (r8.trans w8)))))), k1.mono (SX.of w8), k2.mono (SX.of r14), (t4.same z13).ne f14, e14, z13.trans r14, rfl⟩
  rintro σ' H5 ⟨v0, v1, v2, ps, k0, k1, k2, nps, eps, s5, rfl⟩
  refine tSeqO.of (fun σ' H' => ∃ (v3 v4 v5 v6 v7 : V) (ps : Addr), ThE a H' v0 ∧ ThE a H' v1 ∧ ThE a H' v2 ∧ ThE a H' v3 ∧ ThE a H' v4 ∧ ThE a H' v5 ∧ ThE a H' v6 ∧ ThE a H' v7 ∧ ps ≠ a ∧ H' ps = some (.lst [v0, v1, v2, v3, v4, v5, v6, v7]) ∧ Same H5 H' ∧ σ' = [some (.ref a), some (.ref l), some (.int j), some (.int y2), some vo, some (.int mo), some (.ref ps)]) ?_ ?_
  rotate_left 1
  · intro N hNx
    walk_at "rd"
    have hl5 := s5 _ _ hl4
    have t5 := t4.same s5
    refine rSlL.of hl5 fun p1 G1 f1 r1 e1 => ?_
    rw [cutE] at e1
    refine ⟨(by decide), fun p2 G2 f2 r2 e2 => rCat.of (r2 _ _ e1) e2 (len2 (by simp only [List.length_map, List.length_dropLast, List.length_cons, List.length_nil]; omega)) fun p3 G3 f3 r3 e3 => ?_⟩
    have z2 := r1.trans r2
    have z3 := z2.trans r3
    have k3 : ThE a G3 (.ref p3) := ThE.ints (l := load.dropLast ++ [mo]) (by rw [List.map_append]; exact e3) ((t5.same z2).ne f3) (by simp only [List.length_append, List.length_dropLast, List.length_cons, List.length_nil]; omega) (fun x hx => by
      rcases List.mem_append.mp hx with z | z
      · exact hB x (List.dropLast_subset _ z)
      · rw [List.mem_singleton.mp z]; exact bmo)
    refine rSlL.of (z3 _ _ hl5) fun p4 G4 f4 r4 e4 => ?_
    rw [cutA] at e4
    refine ⟨(by decide), fun p5 G5 f5 r5 e5 => rCat.of (r5 _ _ e4) e5 (len2 (by simp only [List.length_map, List.length_take, List.length_cons, List.length_nil]; omega)) fun p6 G6 f6 r6 e6 => ?_⟩
    have z6 := z3.trans (r4.trans (r5.trans r6))
    refine rSlL.of (z6 _ _ hl5) fun p7 G7 f7 r7 e7 => ?_
    rw [cutB] at e7
    refine rCat.of (r7 _ _ e6) e7 (len2 (by simp only [List.length_append, List.length_map, List.length_take, List.length_drop, List.length_cons, List.length_nil]; omega)) fun p8 G8 f8 r8 e8 => ⟨Nat.zero_le _, fun p9 G9 f9 r9 e9 => ?_⟩
    have z7 := z6.trans r7
    have z8 := z7.trans r8
    have k4 : ThE a G8 (.ref p8) := ThE.odd (l1 := load.take j) (l2 := load.drop (j + 1)) e8 ((t5.same z7).ne f8) (ho.mono (s4.trans ((SX.of s5).trans (SX.of z8)))) (by simp only [List.length_take, List.length_drop]; omega) (fun x hx => hB x (List.mem_of_mem_take hx)) (fun x hx => hB x (List.mem_of_mem_drop hx))
    have k5 : ThE a G9 (.ref p9) := ThE.ints (l := []) e9 ((t5.same z8).ne f9) (by decide) (fun x hx => by simp at hx)
    have z9 := z8.trans r9
    refine ⟨l, _, rfl, z9 _ _ hl5, fun p10 f10 => ?_⟩
    have r10 := same_new f10 (HO.tup (load.map V.int))
    have e10 : upd G9 p10 (HO.tup (load.map V.int)) p10 = some (.tup (load.map V.int)) := upd_same
    generalize upd G9 p10 (HO.tup (load.map V.int)) = G10 at r10 e10 ⊢
    have k6 : ThE a G10 (.ref p10) := ThE.tup e10 ((t5.same z9).ne f10) (by omega) hB
    have z10 := z9.trans r10
    refine rSlL.of (z10 _ _ hl5) fun p11 G11 f11 r11 e11 => ?_
    rw [cutF] at e11
    have k7 : ThE a G11 (.ref p11) := ThE.ints e11 ((t5.same z10).ne f11) (by simp only [List.length_take]; omega) (fun x hx => hB x (List.mem_of_mem_take hx))
    have z11 := z10.trans r11
    refine ⟨(by decide), fun p12 G12 f12 r12 e12 => rCat.of ((z11.trans r12) _ _ eps) e12 (len2 (by show 3 + 5 ≤ 1000; decide)) fun p13 G13 f13 r13 e13 => ?_⟩
    have w11 := r12.trans r13
    have w10 := r11.trans w11
    have w9 := r10.trans w10
    have w8 := r9.trans w9
    have w3 := r4.trans (r5.trans (r6.trans (r7.trans (r8.trans w8))))
    have w0 := z11.trans w11
    exact hNx _ _ ⟨_, _, _, _, _, p13, k0.mono (SX.of w0), k1.mono (SX.of w0), k2.mono (SX.of w0), k3.mono (SX.of w3), k4.mono (SX.of w8), k5.mono (SX.of w9), k6.mono (SX.of w10), k7.mono (SX.of w11), (t5.same (z11.trans r12)).ne f13, e13, w0, rfl⟩
  rintro σ' H6 ⟨v3, v4, v5, v6, v7, pt, k0, k1, k2, k3, k4, k5, k6, k7, npt, ept, s6, rfl⟩
  walk_at "rd"
  have s56 := s5.trans s6
  have hl6 := s56 _ _ hl4
  have t6 := t4.same s56
  have e0 : atI (load.map V.int) 0 = some (V.int (load.getD 0 0)) := atI_nat (j := 0) (by rw [List.getElem?_map, List.getElem?_eq_getElem (by omega), List.getD_eq_getElem?_getD, List.getElem?_eq_getElem (by omega)]; rfl)
  have hb0 : Big (load.getD 0 0) := hB _ (by rw [List.getD_eq_getElem?_getD, List.getElem?_eq_getElem (by omega)]; exact List.getElem_mem _)
  generalize load.getD 0 0 = x0 at e0 hb0
  refine Ix.lst hl6 e0 ⟨(by decide), fun p1 G1 f1 r1 e1 => ⟨(by decide), fun p2 G2 f2 r2 e2 => Draw.of (t6.same (r1.trans r2)) (by omega) (by decide) (by decide) fun y3 G3 l3 u3 t3 s3' => ?_⟩⟩
  have n1 := t6.ne f1
  have n2 := (t6.same r1).ne f2
  obtain ⟨tm, htm, etm⟩ := pick_ints (ts := [600, 601]) l3 u3
  have htm' : tm = ((tm.toNat : Nat) : Int) ∧ tm.toNat ≤ 601 := by
    simp only [List.mem_cons, List.not_mem_nil, or_false] at htm
    rcases htm with rfl | rfl <;> decide
  refine Ix.lst (s3'.get n2 e2) etm ⟨p1, tm, _, rfl, rfl, s3'.get n1 (r2 _ _ e1), by omega, by omega, (by show 1 * tm.toNat ≤ sizeLine; rw [Nat.one_mul]; exact Nat.le_of_lt (small1000 (by omega))), fun p4 f4 => ?_⟩
  have er : (List.replicate tm.toNat [V.int x0]).flatten = (List.replicate tm.toNat x0).map V.int := by
    rw [List.map_replicate]
    exact rep_flat _ _
  rw [er]
  have r4 := same_new f4 (HO.lst ((List.replicate tm.toNat x0).map V.int))
  have e4 : upd G3 p4 (HO.lst ((List.replicate tm.toNat x0).map V.int)) p4 = some (.lst ((List.replicate tm.toNat x0).map V.int)) := upd_same
  generalize upd G3 p4 (HO.lst ((List.replicate tm.toNat x0).map V.int)) = G4 at r4 e4 ⊢
  have k8 : ThE a G4 (.ref p4) := ThE.ints e4 (t3.ne f4) (by rw [List.length_replicate]; omega) (fun x hx => by rw [List.eq_of_mem_replicate hx]; exact hb0)
  have x64 : SX a H6 G4 := (SX.of (r1.trans r2)).trans (s3'.trans (SX.of r4))
  refine ⟨(by decide), fun p5 G5 f5 r5 e5 => rCat.of (r5 _ _ (x64.get npt ept)) e5 (len2 (by show 8 + 1 ≤ 1000; decide)) fun p6 G6 f6 r6 e6 => ?_⟩
  have r56 := r5.trans r6
  have x66 := x64.trans (SX.of r56)
  have hall : ∀ v ∈ ([v0, v1, v2, v3, v4, v5, v6, v7] ++ [V.ref p4] : List V), ThE a G6 v := fun v hv => by
    simp only [List.cons_append, List.nil_append, List.mem_cons, List.not_mem_nil, or_false] at hv
    rcases hv with rfl | rfl | rfl | rfl | rfl | rfl | rfl | rfl | rfl
    · exact k0.mono x66
    · exact k1.mono x66
    · exact k2.mono x66
    · exact k3.mono x66
    · exact k4.mono x66
    · exact k5.mono x66
    · exact k6.mono x66
    · exact k7.mono x66
    · exact k8.mono (SX.of r56)
  obtain ⟨t, ht, et⟩ := pick_V (ts := [v0, v1, v2, v3, v4, v5, v6, v7] ++ [V.ref p4]) l2 u2
  exact Ix.lst e6 et (q t G6 (hall t ht) (((t3.same r4).same r56).mono (by omega)) (s3.trans (s4.trans ((SX.of s56).trans x66))))
def spRight : Sp := fun vs H Q _ => ∃ (a : Addr) (n : Nat), vs = [.ref a] ∧ Tp H a n ∧ n ≤ 1000000 ∧ ∀ H', SX a H H' → Q (.bl true) H'
theorem sc_l_right : FnScope ["_law_tape_here", "_law_post", "_law_stand", "_law_load", "_law_curve", "_law_last", "_law_come", "_law_turn", "_law_bound", "_law_thing", "_law_asked", "_law_kept", "_law_due", "_law_found"] ["_law_tape_here"] (defScope s_l_right) := ⟨rfl, rfl, rfl, by decide +kernel, rfl, by decide +kernel, by decide +kernel⟩
theorem ok_l_right (F : Fun K "_law_right" "_law_right" s_l_right f fd) (B : Bi mg) (c_l_draw : Ct P w K mg base k "_law_draw" ["_law_tape_here", "_law_many"] spDraw) (c_l_a_number : Ct P w K mg base k "_law_a_number" ["_law_tape_here"] spUnits)
    (c_l_great_post : Ct P w K mg base k "_law_great_post" ["_law_tape_here"] spPost) (c_l_a_post : Ct P w K mg base k "_law_a_post" ["_law_tape_here", "_law_curve"] spPost2) (c_l_great_stand : Ct P w K mg base k "_law_great_stand" ["_law_tape_here"] spStand) (c_l_a_stand : Ct P w K mg base k "_law_a_stand" ["_law_tape_here", "_law_post"] spStand2)
    (c_l_a_load : Ct P w K mg base k "_law_a_load" ["_law_tape_here"] spLoad) (c_l_curve_of : Ct P w K mg base k "_law_curve_of" ["_law_tape_here", "_law_load"] spCurve) (c_l_beat : Ct P w K mg base k "_law_beat" ["_law_post", "_law_stand", "_law_come"] spLBeat) (c_l_otherwise : Ct P w K mg base k "_law_otherwise" ["_law_tape_here", "_law_load"] spOther)
    (c_l_due_of : Ct P w K mg base k "_law_due_of" ["_law_post", "_law_stand", "_law_curve", "_law_bound", "_law_thing"] spDue) (c_shows_broken : Ct P w K mg base k "shows_broken" ["post", "stand", "curve", "bound", "thing"] spShows) : FnOk P w K mg base CX0 (k + 1) f fd ["_law_tape_here"] spRight := by
  refine F.ok sc_l_right (by rintro vs H Q E ⟨a, n, rfl, _⟩; rfl) (fun cdv A outer s H vs Q E hr h => ?_)
  obtain ⟨a, n, rfl, tp, hn, q⟩ := h
  have ND := sc_l_right.nd
  refine ⟨_, (pss_cons (ps_set (i := 1) ND rfl (by first | exact Or.inl rfl | exact Or.inr rfl) (pe_ifExp (pt_cmpR op_eq (pf c_l_draw hr (pa_c (pv 0) (pa_c pe_int pa_nil))) pe_int (nomark _)) (pf c_l_great_post hr (pa_c (pv 0) pa_nil)) (pf c_l_a_post hr (pa_c (pv 0) (pa_c (pe_tupW (pa_c (pe_tupW (pa_c pe_int (pa_c (pf c_l_draw hr (pa_c (pv 0) (pa_c pe_int pa_nil))) pa_nil))) pa_nil)) pa_nil))))) (pss_cons (ps_set (i := 2) ND rfl (by first | exact Or.inl rfl | exact Or.inr rfl) (pe_ifExp (pt_cmpR op_eq (pf c_l_draw hr (pa_c (pv 0) (pa_c pe_int pa_nil))) pe_int (nomark _)) (pf c_l_great_stand hr (pa_c (pv 0) pa_nil)) (pf c_l_a_stand hr (pa_c (pv 0) (pa_c (pv 1) pa_nil))))) (pss_cons (ps_set (i := 3) ND rfl (by first | exact Or.inl rfl | exact Or.inr rfl) (pf c_l_a_load hr (pa_c (pv 0) pa_nil))) (pss_cons (ps_par (i := 4) (j := 5) rfl ND rfl rfl (by decide) rfl rfl (pa_c (pf c_l_curve_of hr (pa_c (pv 0) (pa_c (pv 3) pa_nil))) (pa_c (pv 2) pa_nil)) (by rfl)) (pss_cons (ps_for PassesOwn.never rfl (pi_list (pv 3)) (pg_name (i := 6) ND rfl (by first | exact Or.inl rfl | exact Or.inr rfl)) (pss_one (ps_set (i := 5) ND rfl (by first | exact Or.inl rfl | exact Or.inr rfl) (pe_ix ix_obj (pf c_l_beat hr (pa_c (pv 1) (pa_c (pv 5) (pa_c (pv 6) pa_nil)))) pe_int (fun _ _ => rfl))))) (pss_cons (ps_for PassesOwn.never rfl (pi_range1 (by rfl) B.range (pa_c pe_int pa_nil)) (pg_name (i := 7) ND rfl (by first | exact Or.inl rfl | exact Or.inr rfl)) (pss_cons (ps_set (i := 8) ND rfl (by first | exact Or.inl rfl | exact Or.inr rfl) (pe_ix ix_obj (pe_lstW (pa_c (pe_ix ix_obj (pv 5) pe_int (fun _ _ => rfl)) (pa_c (pb (call_max2 rfl) B.max bt_max (pa_c pe_int (pa_c (pe_op op_sub (pe_ix ix_obj (pv 5) pe_int (fun _ _ => rfl)) pe_int) pa_nil))) (pa_c (pb (call_min2 rfl) B.min bt_min (pa_c (pe_op op_pow pe_int pe_int) (pa_c (pe_op op_add (pe_ix ix_obj (pv 5) pe_int (fun _ _ => rfl)) pe_int) pa_nil))) (pa_c pe_int (pa_c (pf c_l_a_number hr (pa_c (pv 0) pa_nil)) pa_nil)))))) (pf c_l_draw hr (pa_c (pv 0) (pa_c pe_int pa_nil))) (fun _ _ => rfl))) (pss_cons (ps_set (i := 9) ND rfl (by first | exact Or.inl rfl | exact Or.inr rfl) (pe_ifExp (pt_cmpR op_eq (pv 7) pe_int (nomark _)) (pt (call_lstL) B.list bt_list (pa_c (pv 3) pa_nil)) (pf c_l_otherwise hr (pa_c (pv 0) (pa_c (pv 3) pa_nil))))) (pss_cons (ps_set (i := 10) ND rfl (by first | exact Or.inl rfl | exact Or.inr rfl) (pv 4)) (pss_cons (ps_if (PW.pt (pw_and (pt_cmpR op_gt (pv 7) pe_int (nomark _)) (pw_and1 (pt_cmpR op_eq (pf c_l_draw hr (pa_c (pv 0) (pa_c pe_int pa_nil))) pe_int (nomark _))))) (pss_one (ps_set (i := 10) ND rfl (by first | exact Or.inl rfl | exact Or.inr rfl) (pe_op op_catW (pe_slice sl_tupW (pv 4) po_none (po_some (pe_un un_neg pe_int))) (pe_tupW (pa_c (pe_tupW (pa_c (pb (call_max2 rfl) B.max bt_max (pa_c pe_int (pa_c (pe_op op_sub (pe_ix ix_obj (pe_ix ix_obj (pv 4) (pe_un un_neg pe_int) (fun _ _ => rfl)) pe_int (fun _ _ => rfl)) pe_int) pa_nil))) (pa_c (pe_ix ix_obj (pe_ix ix_obj (pv 4) (pe_un un_neg pe_int) (fun _ _ => rfl)) pe_int (fun _ _ => rfl)) pa_nil))) pa_nil))))) pss_nil) (pss_cons (ps_set (i := 11) ND rfl (by first | exact Or.inl rfl | exact Or.inr rfl) (pb (call_reprD hr) B.repr bt_repr (pa_c (pv 9) pa_nil))) (pss_cons (ps_set (i := 12) ND rfl (by first | exact Or.inl rfl | exact Or.inr rfl) (pf c_l_due_of hr (pa_c (pv 1) (pa_c (pv 2) (pa_c (pv 10) (pa_c (pv 8) (pa_c (pv 9) pa_nil))))))) (pss_cons (ps_set (i := 13) ND rfl (by first | exact Or.inl rfl | exact Or.inr rfl) (pf c_shows_broken hr (pa_c (pv 1) (pa_c (pv 2) (pa_c (pv 10) (pa_c (pv 8) (pa_c (pv 9) pa_nil))))))) (pss_one (ps_if (PW.pt (pw_or (pt_not (pt_val (pb isi_bool B.isinstance bt_isinstance (pa_c (pv 13) (pa_c (pty (by rfl) B.bool bt_bool) pa_nil))))) (pw_or (pt_cmpR (op_neD hr.units) (pv 13) (pv 12) (nomark _)) (pw_or1 (pt_cmpR op_ne (pb (call_reprD hr) B.repr bt_repr (pa_c (pv 9) pa_nil)) (pv 11) (nomark _)))))) (pss_one (ps_ret pe_bl)) pss_nil)))))))))) (pss_one (ps_ret pe_bl)))))))), ?_⟩
  simp only [seqOa 1, seqOa 2, seqOa 9, seqOi]
  walk_at "rd"
  refine tSeqO.of (fun σ' H' => ∃ (pA : V) (x : Pst), PsL x ∧ At (hid a H') (pstD x) pA ∧ Tp H' a (n + 500) ∧ SX a H H' ∧ σ' = [some (.ref a), some pA, none, none, none, none, none, none, none, none, none, none, none, none]) ?_ ?_
  rotate_left 1
  · intro N hNx
    walk_at "rd"
    refine Draw.of tp (by omega) (by decide) (by decide) fun y1 H1 l1 u1 t1 s1 => ?_
    walk_at "rd"
    by_cases c1 : y1 = 0
    · rw [if_pos (decide_eq_true c1)]
      exact ⟨a, _, rfl, t1, by omega, fun p x H2 hx a2 t2 s2 => hNx _ _ ⟨_, x, hx, a2, t2.mono (by omega), s1.trans s2, rfl⟩⟩
    · rw [if_neg (by simpa using c1)]
      refine Draw.of t1 (by omega) (by decide) (by decide) fun y2 H2 l2 u2 t2 s2 => ⟨(by decide), fun p3 H3 f3 s3 e3 => ⟨(by decide), fun p4 H4 f4 s4 e4 => ?_⟩⟩
      refine ⟨a, _, .ref p4, [(0, y2)], rfl, At.tup e4 (AtAll.cons (At.tup (s4 _ _ e3) (ats_ints [0, y2])) AtAll.nil), by simp, (by show 1 ≤ 100; decide), fun p hp => ?_, (t2.same (s3.trans s4)), by omega, fun p x H5 hx a5 t5 s5 => hNx _ _ ⟨_, x, hx, a5, t5.mono (by omega), s1.trans (s2.trans ((SX.of (s3.trans s4)).trans s5)), rfl⟩⟩
      rw [List.mem_singleton.mp hp]
      show 0 ≤ y2 ∧ y2 ≤ 9
      omega
  rintro σ' H1 ⟨pA, x, hx, a1, t1, s1, rfl⟩
  refine tSeqO.of (fun σ' H' => ∃ (sA : V) (st : Stn), StL st ∧ At (hid a H') (stD st) sA ∧ Tp H' a (n + 600) ∧ SX a H1 H' ∧ σ' = [some (.ref a), some pA, some sA, none, none, none, none, none, none, none, none, none, none, none]) ?_ ?_
  rotate_left 1
  · intro N hNx
    walk_at "rd"
    refine Draw.of t1 (by omega) (by decide) (by decide) fun y2 H2 l2 u2 t2 s2 => ?_
    walk_at "rd"
    by_cases c1 : y2 = 0
    · rw [if_pos (decide_eq_true c1)]
      exact ⟨a, _, rfl, t2, by omega, fun p x H3 hx a3 t3 s3 => hNx _ _ ⟨_, x, hx, a3, t3.mono (by omega), s2.trans s3, rfl⟩⟩
    · rw [if_neg (by simpa using c1)]
      exact ⟨a, _, pA, x, rfl, (a1.mono s2).mono hid_sub, hx, t2, by omega, fun p st H3 hs a3 t3 s3 => hNx _ _ ⟨_, st, hs, a3, t3.mono (by omega), s2.trans s3, rfl⟩⟩
  rintro σ' H2 ⟨sA, st, hs, a2, t2, s2, rfl⟩
  walk_at "rd"
  refine ⟨a, _, rfl, t2, by omega, fun l load H3 l1 l2 lu nla hl t3 s3 => ?_⟩
  refine ⟨a, l, _, load, rfl, t3, by omega, hl, nla, l1, l2, lu, fun cA c H4 hC a4 t4 s4 => ⟨_, _, rfl, ?_⟩⟩
  have x24 := s3.trans s4
  have x14 := s2.trans x24
  have x04 := s1.trans x14
  have b1 : At (hid a H4) (pstD x) pA := a1.mono x14
  have b2 : At (hid a H4) (stD st) sA := a2.mono x24
  have bl := s4.get nla hl
  have hW := hs.toW
  have hBg : ∀ x ∈ load, Big x := fun x hx => by have := lu x hx; obtain ⟨z1, z2⟩ := this; unfold Big; omega
  clear a1 a2 t1 t2 t3 s1 s2 s3 s4 hl
  rw [tFor_lst]
  walk_at "rd"
  refine LK.of bl (fun i σ H' => ∃ (u : V) (o6 : Option V), σ = [some (.ref a), some pA, some sA, some (.ref l), some (.ref cA), some u, o6, none, none, none, none, none, none, none] ∧ At H' (stD (afterI x st (load.take i))) u ∧ Same H4 H') ⟨sA, _, rfl, b2.mono hid_sub, Same.refl _⟩ (fun i σ H' _ ⟨_, _, _, _, sm⟩ => sm _ _ bl) ?_ ?_
  · rintro i y σ H5 hy ⟨u, o6, rfl, a5, s5⟩
    obtain ⟨hi, rfl⟩ := ints_get hy
    walk_at "rd"
    refine ⟨pA, u, x, afterI x st (load.take i), load.getD i 0, rfl, (b1.mono hid_sub).mono s5, a5, hx, hW.after hx, fun p6 u6 H6 s6 a6 e6 => Ix.tup e6 (v := u6) rfl ?_⟩
    have et : load.take (i + 1) = load.take i ++ [load.getD i 0] := take_snoc (by rw [List.getD_eq_getElem?_getD, List.getElem?_eq_getElem hi]; rfl)
    rw [et, afterI_append]
    exact ⟨u6, _, rfl, a6, s5.trans s6⟩
  rintro σ H5 ⟨u, o6, rfl, a5, s5⟩
  obtain ⟨sa, sb, sc, rfl, g1, g2, g3⟩ := stn_shape a5
  have t5 := t4.same s5
  have x05 := x04.trans (SX.of s5)
  have d1 : At (hid a H5) (pstD x) pA := b1.mono (SX.of s5)
  have d2 : At (hid a H5) (stD st) sA := b2.mono (SX.of s5)
  have d3 : At (hid a H5) (cvD c) (.ref cA) := a4.mono (SX.of s5)
  have dl := s5 _ _ bl
  have nsa := t5.neT g1
  rw [List.length_map, List.take_length] at g1
  clear a5 b1 b2 bl g2 g3 s5 t4 a4
  dsimp only
  try walk_at "rd"
  refine for_R (n := 6) (fun R hR => by first | exact hR | (walk_at "rd"; exact hR)) (by decide) (fun i σ H' => ∃ (o7 o8 o9 o10 o11 o12 o13 : Option V), σ = [some (.ref a), some pA, some sA, some (.ref l), some (.ref cA), some (.ref sa), o6, o7, o8, o9, o10, o11, o12, o13] ∧ Tp H' a (n + 600 + 700 + 30 + 40 * i) ∧ SX a H5 H') ⟨_, _, _, _, _, _, _, rfl, t5.mono (by omega), SX.refl _ _⟩ ?_ ?_
  · rintro i σ H6 hi ⟨o7, o8, o9, o10, o11, o12, o13, rfl, t6, s6⟩
    walk_at "rd"
    have gs := s6.get nsa g1
    generalize hw : (afterI x st load).w = W at gs
    refine Ix.tup gs (v := .int W) rfl (Ix.tup gs (v := .int W) rfl ⟨_, _, rfl, rfl, ⟨by decide, by decide, by decide⟩, Ix.tup gs (v := .int W) rfl ⟨_, _, rfl, rfl, Units.of t6 (by omega) fun y7 H7 l7 u7 t7 s7 => ⟨(by decide), fun p8 H8 f8 s8 e8 => Draw.of (t7.same s8) (by omega) (by decide) (by decide) fun y9 H9 l9 u9 t9 s9 => ?_⟩⟩⟩)
    obtain ⟨b, _, eb⟩ := pick_ints (ts := [W, if W - 1 > 0 then W - 1 else 0, if W + 1 < 10 ^ Int.toNat 12 then W + 1 else 10 ^ Int.toNat 12, 0, y7]) l9 u9
    refine Ix.lst (s9.get (t7.ne f8) e8) eb ?_
    have x69 : SX a H6 H9 := s7.trans ((SX.of s8).trans s9)
    have x59 := s6.trans x69
    clear e8 eb gs
    refine tSeqO.of (fun σ' H' => ∃ (tA : V), ThE a H' tA ∧ Tp H' a (n + 600 + 700 + 30 + 40 * i + 20) ∧ SX a H9 H' ∧ σ' = [some (.ref a), some pA, some sA, some (.ref l), some (.ref cA), some (.ref sa), o6, some (.int (0 + ↑i)), some (.int b), some tA, o10, o11, o12, o13]) ?_ ?_
    rotate_left 1
    · intro N hNx
      walk_at "rd"
      by_cases c1 : (0 : Int) + (i : Nat) = 0
      · rw [if_pos (decide_eq_true c1)]
        refine ⟨l, _, rfl, x59.get nla dl, fun p10 f10 => hNx _ _ ⟨.ref p10, ThE.ints upd_same (t9.ne f10) (by omega) hBg, (t9.same (same_new f10 _)).mono (by omega), SX.of (same_new f10 _), rfl⟩⟩
      · rw [if_neg (by simpa using c1)]
        exact ⟨a, l, _, load, rfl, t9, by omega, x59.get nla dl, nla, l1, l2, lu, fun t H10 k10 t10 s10 => hNx _ _ ⟨t, k10, t10.mono (by omega), s10, rfl⟩⟩
    rintro σ' H10 ⟨tA, k10, t10, s10, rfl⟩
    walk_at "rd"
    have x10 := x59.trans s10
    refine tSeqO.of (fun σ' H' => ∃ (qA : V) (c' : Cv), CvOk c' ∧ At (hid a H') (cvD c') qA ∧ Tp H' a (n + 600 + 700 + 30 + 40 * i + 30) ∧ SX a H10 H' ∧ σ' = [some (.ref a), some pA, some sA, some (.ref l), some (.ref cA), some (.ref sa), o6, some (.int (0 + ↑i)), some (.int b), some tA, some qA, o11, o12, o13]) ?_ ?_
    rotate_left 1
    · intro N hNx
      have same0 : ∀ H', Tp H' a (n + 600 + 700 + 30 + 40 * i + 21) → SX a H10 H' → N [some (.ref a), some pA, some sA, some (.ref l), some (.ref cA), some (.ref sa), o6, some (.int (0 + ↑i)), some (.int b), some tA, some (.ref cA), o11, o12, o13] H' := fun H' t' s' => hNx _ _ ⟨_, c, hC, d3.mono (x10.trans s'), t'.mono (by omega), s', rfl⟩
      walk_at "rd"
      by_cases c1 : (0 : Int) < 0 + (i : Nat)
      · rw [if_pos (decide_eq_true c1)]
        refine Draw.of t10 (by omega) (by decide) (by decide) fun y11 H11 l11 u11 t11 s11 => ?_
        walk_at "rd"
        by_cases c2 : y11 = 0
        · rw [if_pos (decide_eq_true c2)]
          have d4 : At (hid a H11) (cvD c) (.ref cA) := d3.mono (x10.trans s11)
          obtain ⟨_, xs, ec, h1, h2⟩ := tup_ats d4
          cases ec
          have h1' : H11 cA = some (.tup xs) := hid_sub _ _ h1
          obtain ⟨ini, pq, rfl⟩ : ∃ ini pq, c = ini ++ [pq] := by
            rcases List.eq_nil_or_concat c with z | ⟨i, y, z⟩
            · exact absurd z hC.ne
            · exact ⟨i, y, by rw [z, List.concat_eq_append]⟩
          have hlen : xs.length = ini.length + 1 := by rw [h2.length]; simp
          obtain ⟨ys, v, rfl⟩ : ∃ ys v, xs = ys ++ [v] := by
            rcases List.eq_nil_or_concat xs with z | ⟨i, y, z⟩
            · rw [z] at hlen; simp at hlen
            · exact ⟨i, y, by rw [z, List.concat_eq_append]⟩
          have hy : ys.length = ini.length := by simpa using hlen
          have k1 : AtAll (hid a H11) (ini.map prD) ys := by
            have z := h2.take ini.length
            rw [List.map_append, List.take_left' (by simp), List.take_left' hy] at z
            exact z
          obtain ⟨va, rfl, hi', hv⟩ := cv_get h2 (i := ini.length) (x := v) (by rw [← hy]; simp)
          have epq : (ini ++ [pq]).getD ini.length (0, 0) = pq := by simp
          rw [epq] at hv
          have hv' := hid_sub _ _ hv
          refine ⟨cA, _, rfl, h1', fun p12 H12 s12 e12 => ?_⟩
          rw [cut_init] at e12
          refine Ix.tup (s12 _ _ h1') (v := .ref va) (atI_last _ _) (Ix.tup (s12 _ _ hv') (v := .int pq.1) rfl ⟨_, _, rfl, rfl, Ix.tup (s12 _ _ h1') (v := .ref va) (atI_last _ _) (Ix.tup (s12 _ _ hv') (v := .int pq.2) rfl ⟨(by decide), fun p13 H13 f13 s13 e13 => ⟨(by decide), fun p14 H14 f14 s14 e14 => ⟨p12, p14, _, _, rfl, rfl, (s13.trans s14) _ _ e12, e14, (len2 (by have := hC.n; simp at this ⊢; omega)), fun p15 H15 s15 e15 => ?_⟩⟩⟩)⟩)
          have z := s12.trans (s13.trans (s14.trans s15))
          have t15 := t11.same z
          have e13' := (s14.trans s15) _ _ e13
          refine hNx _ _ ⟨.ref p15, ini ++ [(if pq.1 - 1 > 0 then pq.1 - 1 else 0, pq.2)], ⟨by simp, by have := hC.n; simp at this ⊢; omega, fun p hp => ?_⟩, ?_, t15.mono (by omega), s11.trans (SX.of z), rfl⟩
          · rcases List.mem_append.mp hp with w | w
            · exact hC.u p (List.mem_append.mpr (.inl w))
            · rw [List.mem_singleton.mp w]
              obtain ⟨⟨u1, u2⟩, u3⟩ := hC.u pq (by simp)
              refine ⟨?_, u3⟩
              show 0 ≤ (if pq.1 - 1 > 0 then pq.1 - 1 else 0) ∧ (if pq.1 - 1 > 0 then pq.1 - 1 else 0) ≤ 1000000000000
              split <;> omega
          · refine At.tup (by rw [hid_ne (t15.neT e15)]; exact e15) ?_
            rw [List.map_append]
            exact (k1.mono (SX.of z)).append (AtAll.cons (At.tup (by rw [hid_ne (t15.neT e13')]; exact e13') (ats_ints [if pq.1 - 1 > 0 then pq.1 - 1 else 0, pq.2])) AtAll.nil)
        · rw [if_neg (by simpa using c2)]
          exact same0 H11 t11 s11
      · rw [if_neg (by simpa using c1)]
        exact same0 H10 (t10.mono (by omega)) (SX.refl _ _)
    rintro σ' H11 ⟨qA, c', hC', a11, t11, s11, rfl⟩
    walk_at "rd"
    obtain ⟨d, ad, nd⟩ := k10.mono s11
    have sh := nd.n.shows (by decide) (by decide) (by decide)
    have x11 := x10.trans s11
    have aD := ad.mono hid_sub
    have aP := (d1.mono x11).mono hid_sub
    have aS := (d2.mono x11).mono hid_sub
    have aC := a11.mono hid_sub
    refine ⟨tA, d, rfl, aD, sh, pA, sA, qA, tA, x, st, c', b, d, rfl, aP, aS, aC, aD, nd.l, hx, hW, hC', fun H12 s12 => ⟨pA, sA, qA, tA, x, st, c', b, d, rfl, aP.mono s12, aS.mono s12, aC.mono s12, aD.mono s12, nd.l, hx.is, hs.is, hC', fun H13 s13 => Isi.of (At.bool _) ⟨_, rfl, ?_⟩⟩⟩
    have s1113 := s12.trans s13
    rw [if_neg (by show ¬ (!true) = true; decide)]
    refine ⟨.bool _, .bool _, At.bool _, At.bool _, rfl, rfl, rfl, rfl, (by show 0 ≤ 60; decide), ?_⟩
    have eq : ∀ z : Bool, PyData.eqv (.bool z) (.bool z) = true := fun z => by cases z <;> rfl
    rw [eq, if_neg (by decide)]
    refine ⟨tA, d, rfl, aD.mono s1113, sh, ?_⟩
    rw [if_neg (by simp)]
    exact ⟨_, _, _, _, _, _, _, rfl, (t11.same s1113).mono (by omega), x11.trans (SX.of s1113)⟩
  · rintro σ H6 ⟨o7, o8, o9, o10, o11, o12, o13, rfl, t6, s6⟩
    walk_at "rd"
    exact q H6 (x05.trans s6)
theorem cut_fold2 (ns : List Int) (h : ns.length ≤ 63) : cutV (ns.map V.int) (some 2) (some 63) = (ns.drop 2).map V.int := by
  have e : cutV (ns.map V.int) (some ((2 : Nat) : Int)) (some ((63 : Nat) : Int)) = (ns.drop 2).map V.int := by
    unfold cutV
    rw [HT.sIx_nat, HT.sIx_nat, List.length_map, List.map_drop]
    by_cases q : 2 ≤ ns.length
    · rw [Nat.min_eq_left q, Nat.min_eq_right h, List.take_of_length_le (by rw [List.length_drop, List.length_map]; omega)]
    · rw [Nat.min_eq_right (by omega), List.drop_of_length_le (by rw [List.length_map]; omega), List.drop_of_length_le (by rw [List.length_map]; omega), List.take_nil]
  exact e
theorem atI_get {ls : List Int} {i : Nat} {j : Int} (e : j = (i : Int)) (h : i < ls.length) : atI (ls.map V.int) j = some (.int (ls.getD i 0)) := by
  rw [e]
  exact atI_nat (by rw [List.getElem?_map, List.getD_eq_getElem?_getD, List.getElem?_eq_getElem h]; rfl)
def spFold (K : PySem.W.Frag) : Sp := fun vs H Q _ => ∃ (p : Addr) (ns : List Int), vs = [.ref p, (.int 2)] ∧ Scr K H p (ns.map V.int) ∧ ns.length ≤ 63 ∧ ∀ (r : Addr) (cs : List Int) H', Same H H' → H' r = some (.lst (cs.map V.int)) → 1 ≤ cs.length → cs.length ≤ 2 → Q (.ref r) H'
theorem sc_l_folded : FnScope ["_law_script", "_law_many", "_law_cells", "_law_k", "_law_cell"] ["_law_script", "_law_many"] (defScope s_l_folded) := ⟨rfl, rfl, rfl, by decide +kernel, rfl, by decide +kernel, by decide +kernel⟩
theorem ok_l_folded (F : Fun K "_law_folded" "_law_folded" s_l_folded f fd) (B : Bi mg) : FnOk P w K mg base CX0 (k + 1) f fd ["_law_script", "_law_many"] (spFold K) := by
  refine F.ok sc_l_folded (by rintro vs H Q E ⟨p, ns, rfl, _⟩; rfl) (fun cdv A outer s H vs Q E hr h => ?_)
  obtain ⟨p, ns, rfl, hS, hn, q⟩ := h
  have ND := sc_l_folded.nd
  refine ⟨_, (pss_cons (ps_set (i := 2) ND rfl (by first | exact Or.inl rfl | exact Or.inr rfl) (pt (call_lstL) B.list bt_list (pa_c (pe_slice sl_list (pv 0) po_none (po_some (pv 1))) pa_nil))) (pss_cons (ps_for PassesOwn.never rfl (pi_enum (K := K) rfl B.enumerate (pa_c (pe_slice sl_list (pv 0) (po_some (pv 1)) (po_some pe_int)) pa_nil)) (pg_tup rfl (pgs_cons (pg_name (i := 3) ND rfl (by first | exact Or.inl rfl | exact Or.inr rfl)) (pgs_cons (pg_name (i := 4) ND rfl (by first | exact Or.inl rfl | exact Or.inr rfl)) pgs_nil))) (pss_one (ps_asg (pe_op op_add (pe_ix ix_obj (pv 2) (pe_op op_mod (pv 3) (pv 1)) (fun _ _ => rfl)) (pe_op op_mul (pv 4) (pe_op op_add (pv 3) pe_int))) (pg_sub (pv 2) (pe_op op_mod (pv 3) (pv 1)) set_list)))) (pss_one (ps_ret (pe_op op_cat (pv 2) (pe_op op_rep (pe_lstW (pa_c pe_int pa_nil)) (pt (call_intB) B.int bt_int (pa_c (pe_cmpR (op_eqD hr.units) (pv 2) (pe_lstW pa_nil) (nomark _)) pa_nil)))))))), ?_⟩
  walk_at "rd"
  refine ⟨p, _, rfl, hS.sq, fun p1 f1 => ?_⟩
  rw [cut_to (by decide), ← List.map_take]
  have s1 := same_new f1 (HO.lst ((ns.take (Int.toNat 2)).map V.int))
  have e1 : upd H p1 (HO.lst ((ns.take (Int.toNat 2)).map V.int)) p1 = some (.lst ((ns.take (Int.toNat 2)).map V.int)) := upd_same
  generalize upd H p1 (HO.lst ((ns.take (Int.toNat 2)).map V.int)) = H1 at s1 e1 ⊢
  refine ⟨p1, _, rfl, e1, fun pc fc => ?_⟩
  have s2 := same_new fc (HO.lst ((ns.take (Int.toNat 2)).map V.int))
  have e2 : upd H1 pc (HO.lst ((ns.take (Int.toNat 2)).map V.int)) pc = some (.lst ((ns.take (Int.toNat 2)).map V.int)) := upd_same
  generalize upd H1 pc (HO.lst ((ns.take (Int.toNat 2)).map V.int)) = H2 at s2 e2 ⊢
  have s02 := s1.trans s2
  have hS2 := hS.same s02
  have zc : H pc = none := by
    cases e : H pc with
    | none => rfl
    | some o => rw [s1 _ _ e] at fc; cases fc
  rw [tFor_enum]
  walk_at "rd"
  refine ⟨p, _, rfl, hS2.sq, fun p3 f3 => ?_⟩
  rw [cut_fold2 ns hn]
  have s3 := same_new f3 (HO.lst ((ns.drop 2).map V.int))
  have e3 : upd H2 p3 (HO.lst ((ns.drop 2).map V.int)) p3 = some (.lst ((ns.drop 2).map V.int)) := upd_same
  generalize upd H2 p3 (HO.lst ((ns.drop 2).map V.int)) = H3 at s3 e3 ⊢
  have n3 : p3 ≠ pc := fun z => by rw [z, e2] at f3; cases f3
  refine EK.of e3 (fun i σ H' => ∃ (cs : List Int) (o3 o4 : Option V), σ = [some (.ref p), some (.int 2), some (.ref pc), o3, o4] ∧ H' pc = some (.lst (cs.map V.int)) ∧ cs.length = (ns.take (Int.toNat 2)).length ∧ H' p3 = some (.lst ((ns.drop 2).map V.int)) ∧ Same H H') ⟨_, _, _, rfl, s3 _ _ e2, rfl, e3, s02.trans s3⟩ (fun i σ H' _ ⟨_, _, _, _, _, _, z, _⟩ => z) ?_ ?_
  · rintro i x σ H4 p4 hx ⟨cs, o3, o4, rfl, e4, l4, g4, s4⟩ f4
    obtain ⟨hi, rfl⟩ := ints_get hx
    have hl8 : cs.length = 2 := by
      rw [l4, List.length_take]
      rw [List.length_drop] at hi
      exact Nat.min_eq_left (by show 2 ≤ ns.length; omega)
    have hi63 : i < 63 := by rw [List.length_drop] at hi; omega
    refine ⟨p4, _, rfl, SqT.of upd_same, rfl, ?_⟩
    have s5 := same_new f4 (HO.tup [V.int (i : Nat), V.int ((ns.drop 2).getD i 0)])
    generalize upd H4 p4 (HO.tup [V.int (i : Nat), V.int ((ns.drop 2).getD i 0)]) = H5 at s5 ⊢
    walk_at "rd"
    refine ⟨by decide, ?_⟩
    have em : ((i : Nat) : Int) % 2 = ((i % 2 : Nat) : Int) := by omega
    have lt : i % 2 < cs.length := by rw [hl8]; exact Nat.mod_lt _ (by decide)
    refine Ix.lst (s5 _ _ e4) (atI_get em lt) ?_
    walk_at "rd"
    refine ⟨.inr ⟨by omega, by omega⟩, by decide, ?_⟩
    refine ⟨pc, _, _, i % 2, rfl, rfl, s5 _ _ e4, by rw [em, List.length_map]; exact ixN_nat lt, ?_⟩
    rw [← List.map_set]
    exact ⟨_, _, _, rfl, upd_same, by rw [List.length_set]; exact l4, by rw [upd_ne n3]; exact s5 _ _ g4, Same.updN (s4.trans s5) zc⟩
  · rintro σ H4 ⟨cs, o3, o4, rfl, e4, l4, g4, s4⟩
    walk_at "rd"
    have lc : cs.length ≤ 2 := by rw [l4, List.length_take]; exact Nat.min_le_left _ _
    refine ⟨(by decide), fun p5 H5 f5 s5 e5 => ⟨Nat.zero_le _, fun p6 H6 f6 s6 e6 => ?_⟩⟩
    have z := lint_data cs
    have s46 := s5.trans s6
    refine ⟨.list (cs.map .int), .list [], At.lst (s46 _ _ e4) (ats_ints _), At.lst e6 AtAll.nil, z.1, rfl, z.2.1, rfl, z.2.2, ?_⟩
    cases cs with
    | nil =>
      have eq : PyData.eqv (.list (([] : List Int).map .int)) (.list []) = true := rfl
      rw [eq, if_pos rfl]
      refine ⟨p5, 1, _, rfl, rfl, s6 _ _ e5, by decide, by decide, (by show 1 * 1 ≤ sizeLine; decide), fun p7 f7 => ?_⟩
      have s7 := same_new f7 (HO.lst [V.int 0])
      refine rCat.of (s7 _ _ (s46 _ _ e4)) upd_same (len2 (by show 0 + 1 ≤ 1000; decide)) fun p8 H8 f8 s8 e8 => q p8 [0] H8 (s4.trans (s46.trans (s7.trans s8))) e8 (by decide) (by decide)
    | cons c0 cs =>
      have eq : PyData.eqv (.list ((c0 :: cs).map .int)) (.list []) = false := rfl
      rw [eq, if_neg (by decide)]
      refine ⟨p5, 0, _, rfl, rfl, s6 _ _ e5, by decide, by decide, (by show 1 * 0 ≤ sizeLine; decide), fun p7 f7 => ?_⟩
      have s7 := same_new f7 (HO.lst [])
      refine rCat.of (s7 _ _ (s46 _ _ e4)) upd_same (len2 (by rw [List.length_map]; show (c0 :: cs).length + 0 ≤ 1000; omega)) fun p8 H8 f8 s8 e8 => ?_
      have e8 : H8 p8 = some (.lst ((c0 :: cs).map V.int ++ [])) := e8
      rw [List.append_nil] at e8
      exact q p8 (c0 :: cs) H8 (s4.trans (s46.trans (s7.trans s8))) e8 (by simp) lc
def spLaw (K : PySem.W.Frag) : Sp := fun vs H Q _ => ∃ (p : Addr) (ns : List Int), vs = [.ref p] ∧ Scr K H p (ns.map V.int) ∧ ns.length ≤ 63 ∧ ∀ H', Q (.bl true) H'
theorem sc_law : FnScope ["_law_script", "_law_cells", "_law_k"] ["_law_script"] (defScope s_law) := ⟨rfl, rfl, rfl, by decide +kernel, rfl, by decide +kernel, by decide +kernel⟩
theorem ok_law (F : Fun K "law" "law" s_law f fd) (B : Bi mg) (c_l_folded : Ct P w K mg base k "_law_folded" ["_law_script", "_law_many"] (spFold K)) (c_l_tape : Ct P w K mg base k "_law_tape" ["_law_script", "_law_k"] (spTape K)) (c_l_right : Ct P w K mg base k "_law_right" ["_law_tape_here"] spRight) : FnOk P w K mg base CX0 (k + 1) f fd ["_law_script"] (spLaw K) := by
  refine F.ok sc_law (by rintro vs H Q E ⟨p, ns, rfl, _⟩; rfl) (fun cdv A outer s H vs Q E hr h => ?_)
  obtain ⟨p, ns, rfl, hS, hl, q⟩ := h
  have ND := sc_law.nd
  refine ⟨_, (pss_cons (ps_set (i := 1) ND rfl (by first | exact Or.inl rfl | exact Or.inr rfl) (pf c_l_folded hr (pa_c (pv 0) (pa_c pe_int pa_nil)))) (pss_cons (ps_for PassesOwn.never rfl (pi_range1 (by rfl) B.range (pa_c (pb (call_lenK (K := K) rfl) B.len bt_len (pa_c (pv 1) pa_nil)) pa_nil)) (pg_name (i := 2) ND rfl (by first | exact Or.inl rfl | exact Or.inr rfl)) (pss_one (ps_if (pt_not (pt_val (pf c_l_right hr (pa_c (pf c_l_tape hr (pa_c (pv 1) (pa_c (pv 2) pa_nil))) pa_nil)))) (pss_one (ps_ret pe_bl)) pss_nil))) (pss_one (ps_ret pe_bl)))), ?_⟩
  walk_at "rd"
  refine ⟨p, ns, rfl, hS, hl, fun pc cs H1 s1 e1 l1 l2 => ?_⟩
  refine for_R (n := cs.length) (fun R hR => ?_) (by omega) (fun i σ H' => ∃ o : Option V, σ = [some (.ref p), some (.ref pc), o] ∧ H' pc = some (.lst (cs.map V.int))) ⟨_, rfl, e1⟩ ?_ ?_
  · walk_at "rd"
    refine ⟨pc, _, rfl, .inl (SqL.of e1), ?_⟩
    rw [List.length_map]
    exact hR
  · rintro i σ H2 hi ⟨o, rfl, e2⟩
    walk_at "rd"
    refine ⟨pc, cs, _, rfl, SqL.of e2, by omega, by omega, fun a H3 f3 s3 t3 => ?_⟩
    have npc : pc ≠ a := ne_of_none e2 f3
    refine ⟨a, _, rfl, t3, by omega, fun H4 s4 => ⟨_, rfl, ?_⟩⟩
    rw [if_neg (by decide)]
    exact ⟨_, rfl, s4.get npc (s3 _ _ e2)⟩
  · rintro σ H2 ⟨o, rfl, e2⟩
    walk_at "rd"
    exact q H2
end
end K64
namespace K64
open PySem L2
/-! ### the promises in their order -/
def mkCt {P : Program} {w : World} {K : PySem.W.Frag} {mg : Str → Option Value} {base : Heap} {k : Nat} {x qual : Str} {st : Stmt} {ps : List Str} {sp : Sp} {f : Addr} {fd : FuncData} (F : Fun K x qual st f fd) (b : Binds K fd ps []) (m : mg x = some (.ref f)) (G : FnOk P w K mg base CX0 k f fd ps sp) : Ct P w K mg base k x ps sp := ⟨f, fd, G, F.kp, b, m⟩
def mkCtD {P : Program} {w : World} {K : PySem.W.Frag} {mg : Str → Option Value} {base : Heap} {k : Nat} {x qual : Str} {st : Stmt} {ps : List Str} {sp : Sp} {f T : Addr} {i : Int} {t : Tok} {fd : FuncData} (F : FunD K x qual st f fd T i t) (b : Binds K fd ps []) (bd : Binds K fd ps [.int i t]) (m : mg x = some (.ref f)) (G : FnOk P w K mg base CX0 k f fd ps sp) : CtD P w K mg base k x ps i sp := ⟨f, fd, t, G, F.kp, b, bd, m⟩
theorem all_ok {P : Program} {w : World} {K : PySem.W.Frag} {mg : Str → Option Value} {base : Heap} (B : Bi mg) (O : Co K mg)
    {f0 : Addr} {d0 : FuncData} (F0 : Fun K "is_whole" "is_whole" s_is_whole f0 d0) (b0 : Binds K d0 ["thing"] []) (m0 : mg "is_whole" = some (.ref f0))
    {f1 : Addr} {d1 : FuncData} (F1 : Fun K "is_from" "is_from" s_is_from f1 d1) (b1 : Binds K d1 ["thing", "least"] []) (m1 : mg "is_from" = some (.ref f1))
    {f2 : Addr} {d2 : FuncData} (F2 : Fun K "wish" "wish" s_wish f2 d2) (b2 : Binds K d2 ["post", "hands", "newest"] []) (m2 : mg "wish" = some (.ref f2))
    {f3 : Addr} {d3 : FuncData} (F3 : Fun K "rule_wish" "rule_wish" s_rule_wish f3 d3) (b3 : Binds K d3 ["rule", "hands", "newest"] []) (m3 : mg "rule_wish" = some (.ref f3))
    {f4 : Addr} {d4 : FuncData} (F4 : Fun K "row_says" "row_says" s_row_says f4 d4) (b4 : Binds K d4 ["row", "hands", "newest"] []) (m4 : mg "row_says" = some (.ref f4))
    {f5 : Addr} {d5 : FuncData} (F5 : Fun K "hands_of" "hands_of" s_hands_of f5 d5) (b5 : Binds K d5 ["stand"] []) (m5 : mg "hands_of" = some (.ref f5))
    {f6 T6 : Addr} {d6 : FuncData} {tk6 : Tok} (F6 : FunD K "beat" "beat" s_beat f6 d6 T6 12 tk6) (b6 : Binds K d6 ["post", "stand", "come", "free"] []) (bd6 : Binds K d6 ["post", "stand", "come", "free"] [.int 12 tk6]) (m6 : mg "beat" = some (.ref f6))
    {f7 : Addr} {d7 : FuncData} (F7 : Fun K "since_and_look" "since_and_look" s_since_and_look f7 d7) (b7 : Binds K d7 ["post", "since", "rest"] []) (m7 : mg "since_and_look" = some (.ref f7))
    {f8 : Addr} {d8 : FuncData} (F8 : Fun K "change_of" "change_of" s_change_of f8 d8) (b8 : Binds K d8 ["post", "hands", "newest", "free"] []) (m8 : mg "change_of" = some (.ref f8))
    {f9 : Addr} {d9 : FuncData} (F9 : Fun K "with_change" "with_change" s_with_change f9 d9) (b9 : Binds K d9 ["post", "stand", "change"] []) (m9 : mg "with_change" = some (.ref f9))
    {f10 : Addr} {d10 : FuncData} (F10 : Fun K "sent_home" "sent_home" s_sent_home f10 d10) (b10 : Binds K d10 ["ready", "called", "many"] []) (m10 : mg "sent_home" = some (.ref f10))
    {f11 : Addr} {d11 : FuncData} (F11 : Fun K "within" "within" s_within f11 d11) (b11 : Binds K d11 ["curve", "load"] []) (m11 : mg "within" = some (.ref f11))
    {f12 : Addr} {d12 : FuncData} (F12 : Fun K "spares_behind" "spares_behind" s_spares_behind f12 d12) (b12 : Binds K d12 ["curve", "load"] []) (m12 : mg "spares_behind" = some (.ref f12))
    {f13 : Addr} {d13 : FuncData} (F13 : Fun K "bursts_of" "bursts_of" s_bursts_of f13 d13) (b13 : Binds K d13 ["curve"] []) (m13 : mg "bursts_of" = some (.ref f13))
    {f14 : Addr} {d14 : FuncData} (F14 : Fun K "most_next" "most_next" s_most_next f14 d14) (b14 : Binds K d14 ["curve", "spare"] []) (m14 : mg "most_next" = some (.ref f14))
    {f15 : Addr} {d15 : FuncData} (F15 : Fun K "spares_left" "spares_left" s_spares_left f15 d15) (b15 : Binds K d15 ["curve", "spare", "come"] []) (m15 : mg "spares_left" = some (.ref f15))
    {f16 : Addr} {d16 : FuncData} (F16 : Fun K "breaks" "breaks" s_breaks f16 d16) (b16 : Binds K d16 ["bound", "behind", "away"] []) (m16 : mg "breaks" = some (.ref f16))
    {f17 : Addr} {d17 : FuncData} (F17 : Fun K "after" "after" s_after f17 d17) (b17 : Binds K d17 ["post", "stand", "load"] []) (m17 : mg "after" = some (.ref f17))
    {f18 : Addr} {d18 : FuncData} (F18 : Fun K "shows_broken" "shows_broken" s_shows_broken f18 d18) (b18 : Binds K d18 ["post", "stand", "curve", "bound", "thing"] []) (m18 : mg "shows_broken" = some (.ref f18))
    {f19 : Addr} {d19 : FuncData} (F19 : Fun K "is_load" "is_load" s_is_load f19 d19) (b19 : Binds K d19 ["thing", "least"] []) (m19 : mg "is_load" = some (.ref f19))
    {f20 : Addr} {d20 : FuncData} (F20 : Fun K "_law_tape" "_law_tape" s_l_tape f20 d20) (b20 : Binds K d20 ["_law_script", "_law_k"] []) (m20 : mg "_law_tape" = some (.ref f20))
    {f21 : Addr} {d21 : FuncData} (F21 : Fun K "_law_draw" "_law_draw" s_l_draw f21 d21) (b21 : Binds K d21 ["_law_tape_here", "_law_many"] []) (m21 : mg "_law_draw" = some (.ref f21))
    {f22 : Addr} {d22 : FuncData} (F22 : Fun K "_law_folded" "_law_folded" s_l_folded f22 d22) (b22 : Binds K d22 ["_law_script", "_law_many"] []) (m22 : mg "_law_folded" = some (.ref f22))
    {f23 : Addr} {d23 : FuncData} (F23 : Fun K "_law_a_row" "_law_a_row" s_l_a_row f23 d23) (b23 : Binds K d23 ["_law_tape_here"] []) (m23 : mg "_law_a_row" = some (.ref f23))
    {f24 : Addr} {d24 : FuncData} (F24 : Fun K "_law_a_post" "_law_a_post" s_l_a_post f24 d24) (b24 : Binds K d24 ["_law_tape_here", "_law_curve"] []) (m24 : mg "_law_a_post" = some (.ref f24))
    {f25 : Addr} {d25 : FuncData} (F25 : Fun K "_law_a_stand" "_law_a_stand" s_l_a_stand f25 d25) (b25 : Binds K d25 ["_law_tape_here", "_law_post"] []) (m25 : mg "_law_a_stand" = some (.ref f25))
    {f26 : Addr} {d26 : FuncData} (F26 : Fun K "_law_a_number" "_law_a_number" s_l_a_number f26 d26) (b26 : Binds K d26 ["_law_tape_here"] []) (m26 : mg "_law_a_number" = some (.ref f26))
    {f27 : Addr} {d27 : FuncData} (F27 : Fun K "_law_great_row" "_law_great_row" s_l_great_row f27 d27) (b27 : Binds K d27 ["_law_tape_here"] []) (m27 : mg "_law_great_row" = some (.ref f27))
    {f28 : Addr} {d28 : FuncData} (F28 : Fun K "_law_great_post" "_law_great_post" s_l_great_post f28 d28) (b28 : Binds K d28 ["_law_tape_here"] []) (m28 : mg "_law_great_post" = some (.ref f28))
    {f29 : Addr} {d29 : FuncData} (F29 : Fun K "_law_great_stand" "_law_great_stand" s_l_great_stand f29 d29) (b29 : Binds K d29 ["_law_tape_here"] []) (m29 : mg "_law_great_stand" = some (.ref f29))
    {f30 : Addr} {d30 : FuncData} (F30 : Fun K "_law_row_wish" "_law_row_wish" s_l_row_wish f30 d30) (b30 : Binds K d30 ["_law_row", "_law_hands", "_law_newest"] []) (m30 : mg "_law_row_wish" = some (.ref f30))
    {f31 : Addr} {d31 : FuncData} (F31 : Fun K "_law_wish" "_law_wish" s_l_wish f31 d31) (b31 : Binds K d31 ["_law_post", "_law_hands", "_law_newest"] []) (m31 : mg "_law_wish" = some (.ref f31))
    {f32 : Addr} {d32 : FuncData} (F32 : Fun K "_law_beat" "_law_beat" s_l_beat f32 d32) (b32 : Binds K d32 ["_law_post", "_law_stand", "_law_come"] []) (m32 : mg "_law_beat" = some (.ref f32))
    {f33 : Addr} {d33 : FuncData} (F33 : Fun K "_law_a_load" "_law_a_load" s_l_a_load f33 d33) (b33 : Binds K d33 ["_law_tape_here"] []) (m33 : mg "_law_a_load" = some (.ref f33))
    {f34 : Addr} {d34 : FuncData} (F34 : Fun K "_law_burst_of" "_law_burst_of" s_l_burst_of f34 d34) (b34 : Binds K d34 ["_law_load", "_law_rate"] []) (m34 : mg "_law_burst_of" = some (.ref f34))
    {f35 : Addr} {d35 : FuncData} (F35 : Fun K "_law_curve_of" "_law_curve_of" s_l_curve_of f35 d35) (b35 : Binds K d35 ["_law_tape_here", "_law_load"] []) (m35 : mg "_law_curve_of" = some (.ref f35))
    {f36 : Addr} {d36 : FuncData} (F36 : Fun K "_law_is_within" "_law_is_within" s_l_is_within f36 d36) (b36 : Binds K d36 ["_law_curve", "_law_load"] []) (m36 : mg "_law_is_within" = some (.ref f36))
    {f37 : Addr} {d37 : FuncData} (F37 : Fun K "_law_due_of" "_law_due_of" s_l_due_of f37 d37) (b37 : Binds K d37 ["_law_post", "_law_stand", "_law_curve", "_law_bound", "_law_thing"] []) (m37 : mg "_law_due_of" = some (.ref f37))
    {f38 : Addr} {d38 : FuncData} (F38 : Fun K "_law_otherwise" "_law_otherwise" s_l_otherwise f38 d38) (b38 : Binds K d38 ["_law_tape_here", "_law_load"] []) (m38 : mg "_law_otherwise" = some (.ref f38))
    {f39 : Addr} {d39 : FuncData} (F39 : Fun K "_law_right" "_law_right" s_l_right f39 d39) (b39 : Binds K d39 ["_law_tape_here"] []) (m39 : mg "_law_right" = some (.ref f39))
    {f40 : Addr} {d40 : FuncData} (F40 : Fun K "law" "law" s_law f40 d40) (b40 : Binds K d40 ["_law_script"] []) (m40 : mg "law" = some (.ref f40)) :
    FnOk P w K mg base CX0 9 f40 d40 ["_law_script"] (spLaw K) := by
  have c_row_says : Ct P w K mg base 1 "row_says" ["row", "hands", "newest"] spSays := mkCt F4 b4 m4 (ok_row_says F4 B O)
  have c_rule_wish : Ct P w K mg base 2 "rule_wish" ["rule", "hands", "newest"] spRw := mkCt F3 b3 m3 (ok_rule_wish F3 (c_row_says.mono (by decide)))
  have c_wish : Ct P w K mg base 3 "wish" ["post", "hands", "newest"] spWish := mkCt F2 b2 m2 (ok_wish F2 B (c_rule_wish.mono (by decide)))
  have c_hands_of : Ct P w K mg base 1 "hands_of" ["stand"] spHands := mkCt F5 b5 m5 (ok_hands_of F5 B)
  have c_since_and_look : Ct P w K mg base 1 "since_and_look" ["post", "since", "rest"] spSince := mkCt F7 b7 m7 (ok_since_and_look F7)
  have c_change_of : Ct P w K mg base 4 "change_of" ["post", "hands", "newest", "free"] spChange := mkCt F8 b8 m8 (ok_change_of F8 B (c_wish.mono (by decide)))
  have c_sent_home : Ct P w K mg base 1 "sent_home" ["ready", "called", "many"] spSent := mkCt F10 b10 m10 (ok_sent_home F10 B)
  have c_with_change : Ct P w K mg base 2 "with_change" ["post", "stand", "change"] spWith := mkCt F9 b9 m9 (ok_with_change F9 B (c_sent_home.mono (by decide)))
  have c_beat : CtD P w K mg base 5 "beat" ["post", "stand", "come", "free"] 12 spBeat := mkCtD F6 b6 bd6 m6 (ok_beat F6 B O (c_since_and_look.mono (by decide)) (c_change_of.mono (by decide)) (c_hands_of.mono (by decide)) (c_with_change.mono (by decide)))
  have c_after : Ct P w K mg base 6 "after" ["post", "stand", "load"] spAfter := mkCt F17 b17 m17 (ok_after F17 B (c_beat.mono (by decide)))
  have c_bursts_of : Ct P w K mg base 1 "bursts_of" ["curve"] spBursts := mkCt F13 b13 m13 (ok_bursts_of F13 B)
  have c_most_next : Ct P w K mg base 1 "most_next" ["curve", "spare"] spMost := mkCt F14 b14 m14 (ok_most_next F14 B)
  have c_spares_left : Ct P w K mg base 1 "spares_left" ["curve", "spare", "come"] spLeft := mkCt F15 b15 m15 (ok_spares_left F15 B)
  have c_spares_behind : Ct P w K mg base 2 "spares_behind" ["curve", "load"] spBehind := mkCt F12 b12 m12 (ok_spares_behind F12 B (c_bursts_of.mono (by decide)) (c_most_next.mono (by decide)) (c_spares_left.mono (by decide)))
  have c_within : Ct P w K mg base 3 "within" ["curve", "load"] spWithin := mkCt F11 b11 m11 (ok_within F11 B (c_spares_behind.mono (by decide)))
  have c_is_whole : Ct P w K mg base 1 "is_whole" ["thing"] (spB1 whole) := mkCt F0 b0 m0 (ok_is_whole F0 B)
  have c_is_from : Ct P w K mg base 2 "is_from" ["thing", "least"] (spBI1 fromD) := mkCt F1 b1 m1 (ok_is_from F1 (c_is_whole.mono (by decide)))
  have c_is_load : Ct P w K mg base 3 "is_load" ["thing", "least"] spIL := mkCt F19 b19 m19 (ok_is_load F19 B O (c_is_from.mono (by decide)))
  have c_breaks : Ct P w K mg base 1 "breaks" ["bound", "behind", "away"] spBreaks := mkCt F16 b16 m16 (ok_breaks F16)
  have c_shows_broken : Ct P w K mg base 7 "shows_broken" ["post", "stand", "curve", "bound", "thing"] spShows := mkCt F18 b18 m18 (ok_shows_broken F18 (c_is_load.mono (by decide)) (c_within.mono (by decide)) (c_beat.mono (by decide)) (c_after.mono (by decide)) (c_breaks.mono (by decide)))
  have c__law_tape : Ct P w K mg base 1 "_law_tape" ["_law_script", "_law_k"] (spTape K) := mkCt F20 b20 m20 (ok_l_tape F20 B)
  have c__law_draw : Ct P w K mg base 1 "_law_draw" ["_law_tape_here", "_law_many"] spDraw := mkCt F21 b21 m21 (ok_l_draw F21 B)
  have c__law_folded : Ct P w K mg base 1 "_law_folded" ["_law_script", "_law_many"] (spFold K) := mkCt F22 b22 m22 (ok_l_folded F22 B)
  have c__law_a_number : Ct P w K mg base 2 "_law_a_number" ["_law_tape_here"] spUnits := mkCt F26 b26 m26 (ok_l_a_number F26 B (c__law_draw.mono (by decide)))
  have c__law_a_row : Ct P w K mg base 2 "_law_a_row" ["_law_tape_here"] spRowL := mkCt F23 b23 m23 (ok_l_a_row F23 B (c__law_draw.mono (by decide)))
  have c__law_great_row : Ct P w K mg base 3 "_law_great_row" ["_law_tape_here"] spRowL := mkCt F27 b27 m27 (ok_l_great_row F27 B (c__law_draw.mono (by decide)) (c__law_a_number.mono (by decide)))
  have c__law_great_post : Ct P w K mg base 4 "_law_great_post" ["_law_tape_here"] spPost := mkCt F28 b28 m28 (ok_l_great_post F28 B (c__law_draw.mono (by decide)) (c__law_a_number.mono (by decide)) (c__law_great_row.mono (by decide)))
  have c__law_a_post : Ct P w K mg base 3 "_law_a_post" ["_law_tape_here", "_law_curve"] spPost2 := mkCt F24 b24 m24 (ok_l_a_post F24 B (c__law_draw.mono (by decide)) (c__law_a_row.mono (by decide)))
  have c__law_great_stand : Ct P w K mg base 3 "_law_great_stand" ["_law_tape_here"] spStand := mkCt F29 b29 m29 (ok_l_great_stand F29 B (c__law_draw.mono (by decide)) (c__law_a_number.mono (by decide)))
  have c__law_a_stand : Ct P w K mg base 2 "_law_a_stand" ["_law_tape_here", "_law_post"] spStand2 := mkCt F25 b25 m25 (ok_l_a_stand F25 B (c__law_draw.mono (by decide)))
  have c__law_row_wish : Ct P w K mg base 1 "_law_row_wish" ["_law_row", "_law_hands", "_law_newest"] spRowW := mkCt F30 b30 m30 (ok_l_row_wish F30 B)
  have c__law_wish : Ct P w K mg base 2 "_law_wish" ["_law_post", "_law_hands", "_law_newest"] spLWish := mkCt F31 b31 m31 (ok_l_wish F31 B (c__law_row_wish.mono (by decide)))
  have c__law_beat : Ct P w K mg base 3 "_law_beat" ["_law_post", "_law_stand", "_law_come"] spLBeat := mkCt F32 b32 m32 (ok_l_beat F32 B (c__law_wish.mono (by decide)))
  have c__law_a_load : Ct P w K mg base 3 "_law_a_load" ["_law_tape_here"] spLoad := mkCt F33 b33 m33 (ok_l_a_load F33 B (c__law_draw.mono (by decide)) (c__law_a_number.mono (by decide)))
  have c__law_burst_of : Ct P w K mg base 1 "_law_burst_of" ["_law_load", "_law_rate"] spKad := mkCt F34 b34 m34 (ok_l_burst_of F34 B)
  have c__law_curve_of : Ct P w K mg base 2 "_law_curve_of" ["_law_tape_here", "_law_load"] spCurve := mkCt F35 b35 m35 (ok_l_curve_of F35 B (c__law_draw.mono (by decide)) (c__law_burst_of.mono (by decide)))
  have c__law_is_within : Ct P w K mg base 2 "_law_is_within" ["_law_curve", "_law_load"] spWith2 := mkCt F36 b36 m36 (ok_l_is_within F36 B (c__law_burst_of.mono (by decide)))
  have c__law_due_of : Ct P w K mg base 4 "_law_due_of" ["_law_post", "_law_stand", "_law_curve", "_law_bound", "_law_thing"] spDue := mkCt F37 b37 m37 (ok_l_due_of F37 B (c__law_beat.mono (by decide)) (c__law_is_within.mono (by decide)))
  have c__law_otherwise : Ct P w K mg base 2 "_law_otherwise" ["_law_tape_here", "_law_load"] spOther := mkCt F38 b38 m38 (ok_l_otherwise F38 B (c__law_draw.mono (by decide)))
  have c__law_right : Ct P w K mg base 8 "_law_right" ["_law_tape_here"] spRight := mkCt F39 b39 m39 (ok_l_right F39 B (c__law_draw.mono (by decide)) (c__law_a_number.mono (by decide)) (c__law_great_post.mono (by decide)) (c__law_a_post.mono (by decide)) (c__law_great_stand.mono (by decide)) (c__law_a_stand.mono (by decide)) (c__law_a_load.mono (by decide)) (c__law_curve_of.mono (by decide)) (c__law_beat.mono (by decide)) (c__law_otherwise.mono (by decide)) (c__law_due_of.mono (by decide)) (c_shows_broken.mono (by decide)))
  exact ok_law F40 B (c__law_folded.mono (by decide)) (c__law_tape.mono (by decide)) (c__law_right.mono (by decide))
/-! ### the program's top -/
theorem all_mk {l : PySem.W.OpenLaw} {w : World} {K : PySem.W.Frag} {h : Heap} {mg : Str → Option Value} {fa : Addr} (X : K.In h) (G : h.Ns mainGlobals mg) (hfa : mg "law" = some (.ref fa))
    {f0 : Addr} {od0 an0 : Option Addr} {sl0 : Array (Option Value)} {oc0 kV0 dc0 pm0 cd0 ct0 : Value}
    {f1 : Addr} {od1 an1 : Option Addr} {sl1 : Array (Option Value)} {oc1 kV1 dc1 pm1 cd1 ct1 : Value}
    {f2 : Addr} {od2 an2 : Option Addr} {sl2 : Array (Option Value)} {oc2 kV2 dc2 pm2 cd2 ct2 : Value}
    {f3 : Addr} {od3 an3 : Option Addr} {sl3 : Array (Option Value)} {oc3 kV3 dc3 pm3 cd3 ct3 : Value}
    {f4 : Addr} {od4 an4 : Option Addr} {sl4 : Array (Option Value)} {oc4 kV4 dc4 pm4 cd4 ct4 : Value}
    {f5 : Addr} {od5 an5 : Option Addr} {sl5 : Array (Option Value)} {oc5 kV5 dc5 pm5 cd5 ct5 : Value}
    {f6 : Addr} {od6 an6 : Option Addr} {sl6 : Array (Option Value)} {oc6 kV6 dc6 pm6 cd6 ct6 : Value}
    {f7 : Addr} {od7 an7 : Option Addr} {sl7 : Array (Option Value)} {oc7 kV7 dc7 pm7 cd7 ct7 : Value}
    {f8 : Addr} {od8 an8 : Option Addr} {sl8 : Array (Option Value)} {oc8 kV8 dc8 pm8 cd8 ct8 : Value}
    {f9 : Addr} {od9 an9 : Option Addr} {sl9 : Array (Option Value)} {oc9 kV9 dc9 pm9 cd9 ct9 : Value}
    {f10 : Addr} {od10 an10 : Option Addr} {sl10 : Array (Option Value)} {oc10 kV10 dc10 pm10 cd10 ct10 : Value}
    {f11 : Addr} {od11 an11 : Option Addr} {sl11 : Array (Option Value)} {oc11 kV11 dc11 pm11 cd11 ct11 : Value}
    {f12 : Addr} {od12 an12 : Option Addr} {sl12 : Array (Option Value)} {oc12 kV12 dc12 pm12 cd12 ct12 : Value}
    {f13 : Addr} {od13 an13 : Option Addr} {sl13 : Array (Option Value)} {oc13 kV13 dc13 pm13 cd13 ct13 : Value}
    {f14 : Addr} {od14 an14 : Option Addr} {sl14 : Array (Option Value)} {oc14 kV14 dc14 pm14 cd14 ct14 : Value}
    {f15 : Addr} {od15 an15 : Option Addr} {sl15 : Array (Option Value)} {oc15 kV15 dc15 pm15 cd15 ct15 : Value}
    {f16 : Addr} {od16 an16 : Option Addr} {sl16 : Array (Option Value)} {oc16 kV16 dc16 pm16 cd16 ct16 : Value}
    {f17 : Addr} {od17 an17 : Option Addr} {sl17 : Array (Option Value)} {oc17 kV17 dc17 pm17 cd17 ct17 : Value}
    {f18 : Addr} {od18 an18 : Option Addr} {sl18 : Array (Option Value)} {oc18 kV18 dc18 pm18 cd18 ct18 : Value}
    {f19 : Addr} {od19 an19 : Option Addr} {sl19 : Array (Option Value)} {oc19 kV19 dc19 pm19 cd19 ct19 : Value}
    {f20 : Addr} {od20 an20 : Option Addr} {sl20 : Array (Option Value)} {oc20 kV20 dc20 pm20 cd20 ct20 : Value}
    {f21 : Addr} {od21 an21 : Option Addr} {sl21 : Array (Option Value)} {oc21 kV21 dc21 pm21 cd21 ct21 : Value}
    {f22 : Addr} {od22 an22 : Option Addr} {sl22 : Array (Option Value)} {oc22 kV22 dc22 pm22 cd22 ct22 : Value}
    {f23 : Addr} {od23 an23 : Option Addr} {sl23 : Array (Option Value)} {oc23 kV23 dc23 pm23 cd23 ct23 : Value}
    {f24 : Addr} {od24 an24 : Option Addr} {sl24 : Array (Option Value)} {oc24 kV24 dc24 pm24 cd24 ct24 : Value}
    {f25 : Addr} {od25 an25 : Option Addr} {sl25 : Array (Option Value)} {oc25 kV25 dc25 pm25 cd25 ct25 : Value}
    {f26 : Addr} {od26 an26 : Option Addr} {sl26 : Array (Option Value)} {oc26 kV26 dc26 pm26 cd26 ct26 : Value}
    {f27 : Addr} {od27 an27 : Option Addr} {sl27 : Array (Option Value)} {oc27 kV27 dc27 pm27 cd27 ct27 : Value}
    {f28 : Addr} {od28 an28 : Option Addr} {sl28 : Array (Option Value)} {oc28 kV28 dc28 pm28 cd28 ct28 : Value}
    {f29 : Addr} {od29 an29 : Option Addr} {sl29 : Array (Option Value)} {oc29 kV29 dc29 pm29 cd29 ct29 : Value}
    {f30 : Addr} {od30 an30 : Option Addr} {sl30 : Array (Option Value)} {oc30 kV30 dc30 pm30 cd30 ct30 : Value}
    {f31 : Addr} {od31 an31 : Option Addr} {sl31 : Array (Option Value)} {oc31 kV31 dc31 pm31 cd31 ct31 : Value}
    {f32 : Addr} {od32 an32 : Option Addr} {sl32 : Array (Option Value)} {oc32 kV32 dc32 pm32 cd32 ct32 : Value}
    {f33 : Addr} {od33 an33 : Option Addr} {sl33 : Array (Option Value)} {oc33 kV33 dc33 pm33 cd33 ct33 : Value}
    {f34 : Addr} {od34 an34 : Option Addr} {sl34 : Array (Option Value)} {oc34 kV34 dc34 pm34 cd34 ct34 : Value}
    {f35 : Addr} {od35 an35 : Option Addr} {sl35 : Array (Option Value)} {oc35 kV35 dc35 pm35 cd35 ct35 : Value}
    {f36 : Addr} {od36 an36 : Option Addr} {sl36 : Array (Option Value)} {oc36 kV36 dc36 pm36 cd36 ct36 : Value}
    {f37 : Addr} {od37 an37 : Option Addr} {sl37 : Array (Option Value)} {oc37 kV37 dc37 pm37 cd37 ct37 : Value}
    {f38 : Addr} {od38 an38 : Option Addr} {sl38 : Array (Option Value)} {oc38 kV38 dc38 pm38 cd38 ct38 : Value}
    {f39 : Addr} {od39 an39 : Option Addr} {sl39 : Array (Option Value)} {oc39 kV39 dc39 pm39 cd39 ct39 : Value}
    {f40 : Addr} {od40 an40 : Option Addr} {sl40 : Array (Option Value)} {oc40 kV40 dc40 pm40 cd40 ct40 : Value}
    (a0 : PySem.W.nsIn K mainGlobals "is_whole" = some (some (.ref f0))) (l0 : K.lookup f0 = some ⟨oc0, od0, .func (PySem.W.fnOf "is_whole" "is_whole" (defArgs s_is_whole) (defBody s_is_whole) (defScope s_is_whole) .none kV0 dc0 pm0 an0 cd0 ct0), sl0⟩) (c0 : PySem.W.codeIn K cd0 "is_whole" = true) (k0 : PySem.W.keepIn K (.ref f0) = true)
    (a1 : PySem.W.nsIn K mainGlobals "is_from" = some (some (.ref f1))) (l1 : K.lookup f1 = some ⟨oc1, od1, .func (PySem.W.fnOf "is_from" "is_from" (defArgs s_is_from) (defBody s_is_from) (defScope s_is_from) .none kV1 dc1 pm1 an1 cd1 ct1), sl1⟩) (c1 : PySem.W.codeIn K cd1 "is_from" = true) (k1 : PySem.W.keepIn K (.ref f1) = true)
    (a2 : PySem.W.nsIn K mainGlobals "wish" = some (some (.ref f2))) (l2 : K.lookup f2 = some ⟨oc2, od2, .func (PySem.W.fnOf "wish" "wish" (defArgs s_wish) (defBody s_wish) (defScope s_wish) .none kV2 dc2 pm2 an2 cd2 ct2), sl2⟩) (c2 : PySem.W.codeIn K cd2 "wish" = true) (k2 : PySem.W.keepIn K (.ref f2) = true)
    (a3 : PySem.W.nsIn K mainGlobals "rule_wish" = some (some (.ref f3))) (l3 : K.lookup f3 = some ⟨oc3, od3, .func (PySem.W.fnOf "rule_wish" "rule_wish" (defArgs s_rule_wish) (defBody s_rule_wish) (defScope s_rule_wish) .none kV3 dc3 pm3 an3 cd3 ct3), sl3⟩) (c3 : PySem.W.codeIn K cd3 "rule_wish" = true) (k3 : PySem.W.keepIn K (.ref f3) = true)
    (a4 : PySem.W.nsIn K mainGlobals "row_says" = some (some (.ref f4))) (l4 : K.lookup f4 = some ⟨oc4, od4, .func (PySem.W.fnOf "row_says" "row_says" (defArgs s_row_says) (defBody s_row_says) (defScope s_row_says) .none kV4 dc4 pm4 an4 cd4 ct4), sl4⟩) (c4 : PySem.W.codeIn K cd4 "row_says" = true) (k4 : PySem.W.keepIn K (.ref f4) = true)
    (a5 : PySem.W.nsIn K mainGlobals "hands_of" = some (some (.ref f5))) (l5 : K.lookup f5 = some ⟨oc5, od5, .func (PySem.W.fnOf "hands_of" "hands_of" (defArgs s_hands_of) (defBody s_hands_of) (defScope s_hands_of) .none kV5 dc5 pm5 an5 cd5 ct5), sl5⟩) (c5 : PySem.W.codeIn K cd5 "hands_of" = true) (k5 : PySem.W.keepIn K (.ref f5) = true)
    {T6 : Addr} {tk6 : Tok} {oT6 : Value} {dT6 : Option Addr} {nT6 : Nat} {sT6 : Array (Option Value)}
    (a6 : PySem.W.nsIn K mainGlobals "beat" = some (some (.ref f6))) (l6 : K.lookup f6 = some ⟨oc6, od6, .func (PySem.W.fnOf "beat" "beat" (defArgs s_beat) (defBody s_beat) (defScope s_beat) (.ref T6) kV6 dc6 pm6 an6 cd6 ct6), sl6⟩) (c6 : PySem.W.codeIn K cd6 "beat" = true) (k6 : PySem.W.keepIn K (.ref f6) = true)
    (e6 : K.lookup T6 = some ⟨oT6, dT6, .seq #[.int 12 tk6] nT6, sT6⟩)
    (a7 : PySem.W.nsIn K mainGlobals "since_and_look" = some (some (.ref f7))) (l7 : K.lookup f7 = some ⟨oc7, od7, .func (PySem.W.fnOf "since_and_look" "since_and_look" (defArgs s_since_and_look) (defBody s_since_and_look) (defScope s_since_and_look) .none kV7 dc7 pm7 an7 cd7 ct7), sl7⟩) (c7 : PySem.W.codeIn K cd7 "since_and_look" = true) (k7 : PySem.W.keepIn K (.ref f7) = true)
    (a8 : PySem.W.nsIn K mainGlobals "change_of" = some (some (.ref f8))) (l8 : K.lookup f8 = some ⟨oc8, od8, .func (PySem.W.fnOf "change_of" "change_of" (defArgs s_change_of) (defBody s_change_of) (defScope s_change_of) .none kV8 dc8 pm8 an8 cd8 ct8), sl8⟩) (c8 : PySem.W.codeIn K cd8 "change_of" = true) (k8 : PySem.W.keepIn K (.ref f8) = true)
    (a9 : PySem.W.nsIn K mainGlobals "with_change" = some (some (.ref f9))) (l9 : K.lookup f9 = some ⟨oc9, od9, .func (PySem.W.fnOf "with_change" "with_change" (defArgs s_with_change) (defBody s_with_change) (defScope s_with_change) .none kV9 dc9 pm9 an9 cd9 ct9), sl9⟩) (c9 : PySem.W.codeIn K cd9 "with_change" = true) (k9 : PySem.W.keepIn K (.ref f9) = true)
    (a10 : PySem.W.nsIn K mainGlobals "sent_home" = some (some (.ref f10))) (l10 : K.lookup f10 = some ⟨oc10, od10, .func (PySem.W.fnOf "sent_home" "sent_home" (defArgs s_sent_home) (defBody s_sent_home) (defScope s_sent_home) .none kV10 dc10 pm10 an10 cd10 ct10), sl10⟩) (c10 : PySem.W.codeIn K cd10 "sent_home" = true) (k10 : PySem.W.keepIn K (.ref f10) = true)
    (a11 : PySem.W.nsIn K mainGlobals "within" = some (some (.ref f11))) (l11 : K.lookup f11 = some ⟨oc11, od11, .func (PySem.W.fnOf "within" "within" (defArgs s_within) (defBody s_within) (defScope s_within) .none kV11 dc11 pm11 an11 cd11 ct11), sl11⟩) (c11 : PySem.W.codeIn K cd11 "within" = true) (k11 : PySem.W.keepIn K (.ref f11) = true)
    (a12 : PySem.W.nsIn K mainGlobals "spares_behind" = some (some (.ref f12))) (l12 : K.lookup f12 = some ⟨oc12, od12, .func (PySem.W.fnOf "spares_behind" "spares_behind" (defArgs s_spares_behind) (defBody s_spares_behind) (defScope s_spares_behind) .none kV12 dc12 pm12 an12 cd12 ct12), sl12⟩) (c12 : PySem.W.codeIn K cd12 "spares_behind" = true) (k12 : PySem.W.keepIn K (.ref f12) = true)
    (a13 : PySem.W.nsIn K mainGlobals "bursts_of" = some (some (.ref f13))) (l13 : K.lookup f13 = some ⟨oc13, od13, .func (PySem.W.fnOf "bursts_of" "bursts_of" (defArgs s_bursts_of) (defBody s_bursts_of) (defScope s_bursts_of) .none kV13 dc13 pm13 an13 cd13 ct13), sl13⟩) (c13 : PySem.W.codeIn K cd13 "bursts_of" = true) (k13 : PySem.W.keepIn K (.ref f13) = true)
    (a14 : PySem.W.nsIn K mainGlobals "most_next" = some (some (.ref f14))) (l14 : K.lookup f14 = some ⟨oc14, od14, .func (PySem.W.fnOf "most_next" "most_next" (defArgs s_most_next) (defBody s_most_next) (defScope s_most_next) .none kV14 dc14 pm14 an14 cd14 ct14), sl14⟩) (c14 : PySem.W.codeIn K cd14 "most_next" = true) (k14 : PySem.W.keepIn K (.ref f14) = true)
    (a15 : PySem.W.nsIn K mainGlobals "spares_left" = some (some (.ref f15))) (l15 : K.lookup f15 = some ⟨oc15, od15, .func (PySem.W.fnOf "spares_left" "spares_left" (defArgs s_spares_left) (defBody s_spares_left) (defScope s_spares_left) .none kV15 dc15 pm15 an15 cd15 ct15), sl15⟩) (c15 : PySem.W.codeIn K cd15 "spares_left" = true) (k15 : PySem.W.keepIn K (.ref f15) = true)
    (a16 : PySem.W.nsIn K mainGlobals "breaks" = some (some (.ref f16))) (l16 : K.lookup f16 = some ⟨oc16, od16, .func (PySem.W.fnOf "breaks" "breaks" (defArgs s_breaks) (defBody s_breaks) (defScope s_breaks) .none kV16 dc16 pm16 an16 cd16 ct16), sl16⟩) (c16 : PySem.W.codeIn K cd16 "breaks" = true) (k16 : PySem.W.keepIn K (.ref f16) = true)
    (a17 : PySem.W.nsIn K mainGlobals "after" = some (some (.ref f17))) (l17 : K.lookup f17 = some ⟨oc17, od17, .func (PySem.W.fnOf "after" "after" (defArgs s_after) (defBody s_after) (defScope s_after) .none kV17 dc17 pm17 an17 cd17 ct17), sl17⟩) (c17 : PySem.W.codeIn K cd17 "after" = true) (k17 : PySem.W.keepIn K (.ref f17) = true)
    (a18 : PySem.W.nsIn K mainGlobals "shows_broken" = some (some (.ref f18))) (l18 : K.lookup f18 = some ⟨oc18, od18, .func (PySem.W.fnOf "shows_broken" "shows_broken" (defArgs s_shows_broken) (defBody s_shows_broken) (defScope s_shows_broken) .none kV18 dc18 pm18 an18 cd18 ct18), sl18⟩) (c18 : PySem.W.codeIn K cd18 "shows_broken" = true) (k18 : PySem.W.keepIn K (.ref f18) = true)
    (a19 : PySem.W.nsIn K mainGlobals "is_load" = some (some (.ref f19))) (l19 : K.lookup f19 = some ⟨oc19, od19, .func (PySem.W.fnOf "is_load" "is_load" (defArgs s_is_load) (defBody s_is_load) (defScope s_is_load) .none kV19 dc19 pm19 an19 cd19 ct19), sl19⟩) (c19 : PySem.W.codeIn K cd19 "is_load" = true) (k19 : PySem.W.keepIn K (.ref f19) = true)
    (a20 : PySem.W.nsIn K mainGlobals "_law_tape" = some (some (.ref f20))) (l20 : K.lookup f20 = some ⟨oc20, od20, .func (PySem.W.fnOf "_law_tape" "_law_tape" (defArgs s_l_tape) (defBody s_l_tape) (defScope s_l_tape) .none kV20 dc20 pm20 an20 cd20 ct20), sl20⟩) (c20 : PySem.W.codeIn K cd20 "_law_tape" = true) (k20 : PySem.W.keepIn K (.ref f20) = true)
    (a21 : PySem.W.nsIn K mainGlobals "_law_draw" = some (some (.ref f21))) (l21 : K.lookup f21 = some ⟨oc21, od21, .func (PySem.W.fnOf "_law_draw" "_law_draw" (defArgs s_l_draw) (defBody s_l_draw) (defScope s_l_draw) .none kV21 dc21 pm21 an21 cd21 ct21), sl21⟩) (c21 : PySem.W.codeIn K cd21 "_law_draw" = true) (k21 : PySem.W.keepIn K (.ref f21) = true)
    (a22 : PySem.W.nsIn K mainGlobals "_law_folded" = some (some (.ref f22))) (l22 : K.lookup f22 = some ⟨oc22, od22, .func (PySem.W.fnOf "_law_folded" "_law_folded" (defArgs s_l_folded) (defBody s_l_folded) (defScope s_l_folded) .none kV22 dc22 pm22 an22 cd22 ct22), sl22⟩) (c22 : PySem.W.codeIn K cd22 "_law_folded" = true) (k22 : PySem.W.keepIn K (.ref f22) = true)
    (a23 : PySem.W.nsIn K mainGlobals "_law_a_row" = some (some (.ref f23))) (l23 : K.lookup f23 = some ⟨oc23, od23, .func (PySem.W.fnOf "_law_a_row" "_law_a_row" (defArgs s_l_a_row) (defBody s_l_a_row) (defScope s_l_a_row) .none kV23 dc23 pm23 an23 cd23 ct23), sl23⟩) (c23 : PySem.W.codeIn K cd23 "_law_a_row" = true) (k23 : PySem.W.keepIn K (.ref f23) = true)
    (a24 : PySem.W.nsIn K mainGlobals "_law_a_post" = some (some (.ref f24))) (l24 : K.lookup f24 = some ⟨oc24, od24, .func (PySem.W.fnOf "_law_a_post" "_law_a_post" (defArgs s_l_a_post) (defBody s_l_a_post) (defScope s_l_a_post) .none kV24 dc24 pm24 an24 cd24 ct24), sl24⟩) (c24 : PySem.W.codeIn K cd24 "_law_a_post" = true) (k24 : PySem.W.keepIn K (.ref f24) = true)
    (a25 : PySem.W.nsIn K mainGlobals "_law_a_stand" = some (some (.ref f25))) (l25 : K.lookup f25 = some ⟨oc25, od25, .func (PySem.W.fnOf "_law_a_stand" "_law_a_stand" (defArgs s_l_a_stand) (defBody s_l_a_stand) (defScope s_l_a_stand) .none kV25 dc25 pm25 an25 cd25 ct25), sl25⟩) (c25 : PySem.W.codeIn K cd25 "_law_a_stand" = true) (k25 : PySem.W.keepIn K (.ref f25) = true)
    (a26 : PySem.W.nsIn K mainGlobals "_law_a_number" = some (some (.ref f26))) (l26 : K.lookup f26 = some ⟨oc26, od26, .func (PySem.W.fnOf "_law_a_number" "_law_a_number" (defArgs s_l_a_number) (defBody s_l_a_number) (defScope s_l_a_number) .none kV26 dc26 pm26 an26 cd26 ct26), sl26⟩) (c26 : PySem.W.codeIn K cd26 "_law_a_number" = true) (k26 : PySem.W.keepIn K (.ref f26) = true)
    (a27 : PySem.W.nsIn K mainGlobals "_law_great_row" = some (some (.ref f27))) (l27 : K.lookup f27 = some ⟨oc27, od27, .func (PySem.W.fnOf "_law_great_row" "_law_great_row" (defArgs s_l_great_row) (defBody s_l_great_row) (defScope s_l_great_row) .none kV27 dc27 pm27 an27 cd27 ct27), sl27⟩) (c27 : PySem.W.codeIn K cd27 "_law_great_row" = true) (k27 : PySem.W.keepIn K (.ref f27) = true)
    (a28 : PySem.W.nsIn K mainGlobals "_law_great_post" = some (some (.ref f28))) (l28 : K.lookup f28 = some ⟨oc28, od28, .func (PySem.W.fnOf "_law_great_post" "_law_great_post" (defArgs s_l_great_post) (defBody s_l_great_post) (defScope s_l_great_post) .none kV28 dc28 pm28 an28 cd28 ct28), sl28⟩) (c28 : PySem.W.codeIn K cd28 "_law_great_post" = true) (k28 : PySem.W.keepIn K (.ref f28) = true)
    (a29 : PySem.W.nsIn K mainGlobals "_law_great_stand" = some (some (.ref f29))) (l29 : K.lookup f29 = some ⟨oc29, od29, .func (PySem.W.fnOf "_law_great_stand" "_law_great_stand" (defArgs s_l_great_stand) (defBody s_l_great_stand) (defScope s_l_great_stand) .none kV29 dc29 pm29 an29 cd29 ct29), sl29⟩) (c29 : PySem.W.codeIn K cd29 "_law_great_stand" = true) (k29 : PySem.W.keepIn K (.ref f29) = true)
    (a30 : PySem.W.nsIn K mainGlobals "_law_row_wish" = some (some (.ref f30))) (l30 : K.lookup f30 = some ⟨oc30, od30, .func (PySem.W.fnOf "_law_row_wish" "_law_row_wish" (defArgs s_l_row_wish) (defBody s_l_row_wish) (defScope s_l_row_wish) .none kV30 dc30 pm30 an30 cd30 ct30), sl30⟩) (c30 : PySem.W.codeIn K cd30 "_law_row_wish" = true) (k30 : PySem.W.keepIn K (.ref f30) = true)
    (a31 : PySem.W.nsIn K mainGlobals "_law_wish" = some (some (.ref f31))) (l31 : K.lookup f31 = some ⟨oc31, od31, .func (PySem.W.fnOf "_law_wish" "_law_wish" (defArgs s_l_wish) (defBody s_l_wish) (defScope s_l_wish) .none kV31 dc31 pm31 an31 cd31 ct31), sl31⟩) (c31 : PySem.W.codeIn K cd31 "_law_wish" = true) (k31 : PySem.W.keepIn K (.ref f31) = true)
    (a32 : PySem.W.nsIn K mainGlobals "_law_beat" = some (some (.ref f32))) (l32 : K.lookup f32 = some ⟨oc32, od32, .func (PySem.W.fnOf "_law_beat" "_law_beat" (defArgs s_l_beat) (defBody s_l_beat) (defScope s_l_beat) .none kV32 dc32 pm32 an32 cd32 ct32), sl32⟩) (c32 : PySem.W.codeIn K cd32 "_law_beat" = true) (k32 : PySem.W.keepIn K (.ref f32) = true)
    (a33 : PySem.W.nsIn K mainGlobals "_law_a_load" = some (some (.ref f33))) (l33 : K.lookup f33 = some ⟨oc33, od33, .func (PySem.W.fnOf "_law_a_load" "_law_a_load" (defArgs s_l_a_load) (defBody s_l_a_load) (defScope s_l_a_load) .none kV33 dc33 pm33 an33 cd33 ct33), sl33⟩) (c33 : PySem.W.codeIn K cd33 "_law_a_load" = true) (k33 : PySem.W.keepIn K (.ref f33) = true)
    (a34 : PySem.W.nsIn K mainGlobals "_law_burst_of" = some (some (.ref f34))) (l34 : K.lookup f34 = some ⟨oc34, od34, .func (PySem.W.fnOf "_law_burst_of" "_law_burst_of" (defArgs s_l_burst_of) (defBody s_l_burst_of) (defScope s_l_burst_of) .none kV34 dc34 pm34 an34 cd34 ct34), sl34⟩) (c34 : PySem.W.codeIn K cd34 "_law_burst_of" = true) (k34 : PySem.W.keepIn K (.ref f34) = true)
    (a35 : PySem.W.nsIn K mainGlobals "_law_curve_of" = some (some (.ref f35))) (l35 : K.lookup f35 = some ⟨oc35, od35, .func (PySem.W.fnOf "_law_curve_of" "_law_curve_of" (defArgs s_l_curve_of) (defBody s_l_curve_of) (defScope s_l_curve_of) .none kV35 dc35 pm35 an35 cd35 ct35), sl35⟩) (c35 : PySem.W.codeIn K cd35 "_law_curve_of" = true) (k35 : PySem.W.keepIn K (.ref f35) = true)
    (a36 : PySem.W.nsIn K mainGlobals "_law_is_within" = some (some (.ref f36))) (l36 : K.lookup f36 = some ⟨oc36, od36, .func (PySem.W.fnOf "_law_is_within" "_law_is_within" (defArgs s_l_is_within) (defBody s_l_is_within) (defScope s_l_is_within) .none kV36 dc36 pm36 an36 cd36 ct36), sl36⟩) (c36 : PySem.W.codeIn K cd36 "_law_is_within" = true) (k36 : PySem.W.keepIn K (.ref f36) = true)
    (a37 : PySem.W.nsIn K mainGlobals "_law_due_of" = some (some (.ref f37))) (l37 : K.lookup f37 = some ⟨oc37, od37, .func (PySem.W.fnOf "_law_due_of" "_law_due_of" (defArgs s_l_due_of) (defBody s_l_due_of) (defScope s_l_due_of) .none kV37 dc37 pm37 an37 cd37 ct37), sl37⟩) (c37 : PySem.W.codeIn K cd37 "_law_due_of" = true) (k37 : PySem.W.keepIn K (.ref f37) = true)
    (a38 : PySem.W.nsIn K mainGlobals "_law_otherwise" = some (some (.ref f38))) (l38 : K.lookup f38 = some ⟨oc38, od38, .func (PySem.W.fnOf "_law_otherwise" "_law_otherwise" (defArgs s_l_otherwise) (defBody s_l_otherwise) (defScope s_l_otherwise) .none kV38 dc38 pm38 an38 cd38 ct38), sl38⟩) (c38 : PySem.W.codeIn K cd38 "_law_otherwise" = true) (k38 : PySem.W.keepIn K (.ref f38) = true)
    (a39 : PySem.W.nsIn K mainGlobals "_law_right" = some (some (.ref f39))) (l39 : K.lookup f39 = some ⟨oc39, od39, .func (PySem.W.fnOf "_law_right" "_law_right" (defArgs s_l_right) (defBody s_l_right) (defScope s_l_right) .none kV39 dc39 pm39 an39 cd39 ct39), sl39⟩) (c39 : PySem.W.codeIn K cd39 "_law_right" = true) (k39 : PySem.W.keepIn K (.ref f39) = true)
    (a40 : PySem.W.nsIn K mainGlobals "law" = some (some (.ref f40))) (l40 : K.lookup f40 = some ⟨oc40, od40, .func (PySem.W.fnOf "law" "law" (defArgs s_law) (defBody s_law) (defScope s_law) .none kV40 dc40 pm40 an40 cd40 ct40), sl40⟩) (c40 : PySem.W.codeIn K cd40 "law" = true) (k40 : PySem.W.keepIn K (.ref f40) = true)
    (z_isinstance : PySem.W.nsIn K mainGlobals "isinstance" = some none)
    (z_int : PySem.W.nsIn K mainGlobals "int" = some none)
    (z_bool : PySem.W.nsIn K mainGlobals "bool" = some none)
    (z_max : PySem.W.nsIn K mainGlobals "max" = some none)
    (z_min : PySem.W.nsIn K mainGlobals "min" = some none)
    (z_sum : PySem.W.nsIn K mainGlobals "sum" = some none)
    (z_list : PySem.W.nsIn K mainGlobals "list" = some none)
    (z_reversed : PySem.W.nsIn K mainGlobals "reversed" = some none)
    (z_range : PySem.W.nsIn K mainGlobals "range" = some none)
    (z_tuple : PySem.W.nsIn K mainGlobals "tuple" = some none)
    (z_len : PySem.W.nsIn K mainGlobals "len" = some none)
    (z_zip : PySem.W.nsIn K mainGlobals "zip" = some none)
    (z_all : PySem.W.nsIn K mainGlobals "all" = some none)
    (z_abs : PySem.W.nsIn K mainGlobals "abs" = some none)
    (z_enumerate : PySem.W.nsIn K mainGlobals "enumerate" = some none)
    (z_repr : PySem.W.nsIn K mainGlobals "repr" = some none)
    {w_WHATS : Addr} {nn_WHATS : Nat} {ss_WHATS : Array (Option Value)} {u_WHATS0 u_WHATS1 u_WHATS2 : Tok} (n_WHATS : PySem.W.nsIn K mainGlobals "WHATS" = some (some (.ref w_WHATS))) (m_WHATS : K.lookup w_WHATS = some ⟨.type "tuple", none, .seq #[.str "come" u_WHATS0, .str "done" u_WHATS1, .str "wait" u_WHATS2] nn_WHATS, ss_WHATS⟩)
    {t_OVER : Tok} (n_OVER : PySem.W.nsIn K mainGlobals "OVER" = some (some (.str "over" t_OVER)))
    {t_UNDER : Tok} (n_UNDER : PySem.W.nsIn K mainGlobals "UNDER" = some (some (.str "under" t_UNDER)))
    {t_EACH : Tok} (n_EACH : PySem.W.nsIn K mainGlobals "EACH" = some (some (.str "each" t_EACH)))
    {t_MOST_HANDS : Tok} (n_MOST_HANDS : PySem.W.nsIn K mainGlobals "MOST_HANDS" = some (some (.int 12 t_MOST_HANDS)))
    {t_TRIPLES_SEEN : Tok} (n_TRIPLES_SEEN : PySem.W.nsIn K mainGlobals "TRIPLES_SEEN" = some (some (.int 3 t_TRIPLES_SEEN)))
    {t_MOST_BEATS_SHOWN : Tok} (n_MOST_BEATS_SHOWN : PySem.W.nsIn K mainGlobals "MOST_BEATS_SHOWN" = some (some (.int 600 t_MOST_BEATS_SHOWN))) :
    ∃ fd : FuncData, (∀ (s : Shared) (v : Value), BindsTo s fd ⟨[v], []⟩ [("_law_script", v)]) ∧ ∀ base : Heap, K.In base → base.Ns mainGlobals mg → FnOk l.prog w K mg base CX0 9 fa fd ["_law_script"] (spLaw K) := by
  have e := hfa.symm.trans (PySem.W.mg_of X G a40)
  cases e
  have F0 := fun_mk (st := s_is_whole) l0 c0 k0
  have b0 := F0.binds (ps := ["thing"]) fun _ _ _ _ _ _ us hl => match us, hl with | [_], _ => rfl
  have F1 := fun_mk (st := s_is_from) l1 c1 k1
  have b1 := F1.binds (ps := ["thing", "least"]) fun _ _ _ _ _ _ us hl => match us, hl with | [_, _], _ => rfl
  have F2 := fun_mk (st := s_wish) l2 c2 k2
  have b2 := F2.binds (ps := ["post", "hands", "newest"]) fun _ _ _ _ _ _ us hl => match us, hl with | [_, _, _], _ => rfl
  have F3 := fun_mk (st := s_rule_wish) l3 c3 k3
  have b3 := F3.binds (ps := ["rule", "hands", "newest"]) fun _ _ _ _ _ _ us hl => match us, hl with | [_, _, _], _ => rfl
  have F4 := fun_mk (st := s_row_says) l4 c4 k4
  have b4 := F4.binds (ps := ["row", "hands", "newest"]) fun _ _ _ _ _ _ us hl => match us, hl with | [_, _, _], _ => rfl
  have F5 := fun_mk (st := s_hands_of) l5 c5 k5
  have b5 := F5.binds (ps := ["stand"]) fun _ _ _ _ _ _ us hl => match us, hl with | [_], _ => rfl
  have F6 : FunD K "beat" "beat" s_beat f6 _ T6 12 tk6 := ⟨⟨_, _, _, _, _, _, _, _, _, rfl, l6, c6⟩, k6, ⟨_, _, e6, rfl⟩⟩
  have b6 := F6.binds (ps := ["post", "stand", "come", "free"]) (ds := []) fun _ _ _ _ _ _ us hl => match us, hl with | [_, _, _, _], _ => ⟨_, rfl, rfl⟩
  have bd6 := F6.binds (ps := ["post", "stand", "come", "free"]) (ds := [.int 12 tk6]) fun _ _ _ _ _ _ us hl => by
    have hl2 := Nat.succ.inj ((List.length_append).symm.trans hl)
    match us, hl2 with
    | [_, _, _], _ => exact ⟨_, rfl, rfl⟩
  have F7 := fun_mk (st := s_since_and_look) l7 c7 k7
  have b7 := F7.binds (ps := ["post", "since", "rest"]) fun _ _ _ _ _ _ us hl => match us, hl with | [_, _, _], _ => rfl
  have F8 := fun_mk (st := s_change_of) l8 c8 k8
  have b8 := F8.binds (ps := ["post", "hands", "newest", "free"]) fun _ _ _ _ _ _ us hl => match us, hl with | [_, _, _, _], _ => rfl
  have F9 := fun_mk (st := s_with_change) l9 c9 k9
  have b9 := F9.binds (ps := ["post", "stand", "change"]) fun _ _ _ _ _ _ us hl => match us, hl with | [_, _, _], _ => rfl
  have F10 := fun_mk (st := s_sent_home) l10 c10 k10
  have b10 := F10.binds (ps := ["ready", "called", "many"]) fun _ _ _ _ _ _ us hl => match us, hl with | [_, _, _], _ => rfl
  have F11 := fun_mk (st := s_within) l11 c11 k11
  have b11 := F11.binds (ps := ["curve", "load"]) fun _ _ _ _ _ _ us hl => match us, hl with | [_, _], _ => rfl
  have F12 := fun_mk (st := s_spares_behind) l12 c12 k12
  have b12 := F12.binds (ps := ["curve", "load"]) fun _ _ _ _ _ _ us hl => match us, hl with | [_, _], _ => rfl
  have F13 := fun_mk (st := s_bursts_of) l13 c13 k13
  have b13 := F13.binds (ps := ["curve"]) fun _ _ _ _ _ _ us hl => match us, hl with | [_], _ => rfl
  have F14 := fun_mk (st := s_most_next) l14 c14 k14
  have b14 := F14.binds (ps := ["curve", "spare"]) fun _ _ _ _ _ _ us hl => match us, hl with | [_, _], _ => rfl
  have F15 := fun_mk (st := s_spares_left) l15 c15 k15
  have b15 := F15.binds (ps := ["curve", "spare", "come"]) fun _ _ _ _ _ _ us hl => match us, hl with | [_, _, _], _ => rfl
  have F16 := fun_mk (st := s_breaks) l16 c16 k16
  have b16 := F16.binds (ps := ["bound", "behind", "away"]) fun _ _ _ _ _ _ us hl => match us, hl with | [_, _, _], _ => rfl
  have F17 := fun_mk (st := s_after) l17 c17 k17
  have b17 := F17.binds (ps := ["post", "stand", "load"]) fun _ _ _ _ _ _ us hl => match us, hl with | [_, _, _], _ => rfl
  have F18 := fun_mk (st := s_shows_broken) l18 c18 k18
  have b18 := F18.binds (ps := ["post", "stand", "curve", "bound", "thing"]) fun _ _ _ _ _ _ us hl => match us, hl with | [_, _, _, _, _], _ => rfl
  have F19 := fun_mk (st := s_is_load) l19 c19 k19
  have b19 := F19.binds (ps := ["thing", "least"]) fun _ _ _ _ _ _ us hl => match us, hl with | [_, _], _ => rfl
  have F20 := fun_mk (st := s_l_tape) l20 c20 k20
  have b20 := F20.binds (ps := ["_law_script", "_law_k"]) fun _ _ _ _ _ _ us hl => match us, hl with | [_, _], _ => rfl
  have F21 := fun_mk (st := s_l_draw) l21 c21 k21
  have b21 := F21.binds (ps := ["_law_tape_here", "_law_many"]) fun _ _ _ _ _ _ us hl => match us, hl with | [_, _], _ => rfl
  have F22 := fun_mk (st := s_l_folded) l22 c22 k22
  have b22 := F22.binds (ps := ["_law_script", "_law_many"]) fun _ _ _ _ _ _ us hl => match us, hl with | [_, _], _ => rfl
  have F23 := fun_mk (st := s_l_a_row) l23 c23 k23
  have b23 := F23.binds (ps := ["_law_tape_here"]) fun _ _ _ _ _ _ us hl => match us, hl with | [_], _ => rfl
  have F24 := fun_mk (st := s_l_a_post) l24 c24 k24
  have b24 := F24.binds (ps := ["_law_tape_here", "_law_curve"]) fun _ _ _ _ _ _ us hl => match us, hl with | [_, _], _ => rfl
  have F25 := fun_mk (st := s_l_a_stand) l25 c25 k25
  have b25 := F25.binds (ps := ["_law_tape_here", "_law_post"]) fun _ _ _ _ _ _ us hl => match us, hl with | [_, _], _ => rfl
  have F26 := fun_mk (st := s_l_a_number) l26 c26 k26
  have b26 := F26.binds (ps := ["_law_tape_here"]) fun _ _ _ _ _ _ us hl => match us, hl with | [_], _ => rfl
  have F27 := fun_mk (st := s_l_great_row) l27 c27 k27
  have b27 := F27.binds (ps := ["_law_tape_here"]) fun _ _ _ _ _ _ us hl => match us, hl with | [_], _ => rfl
  have F28 := fun_mk (st := s_l_great_post) l28 c28 k28
  have b28 := F28.binds (ps := ["_law_tape_here"]) fun _ _ _ _ _ _ us hl => match us, hl with | [_], _ => rfl
  have F29 := fun_mk (st := s_l_great_stand) l29 c29 k29
  have b29 := F29.binds (ps := ["_law_tape_here"]) fun _ _ _ _ _ _ us hl => match us, hl with | [_], _ => rfl
  have F30 := fun_mk (st := s_l_row_wish) l30 c30 k30
  have b30 := F30.binds (ps := ["_law_row", "_law_hands", "_law_newest"]) fun _ _ _ _ _ _ us hl => match us, hl with | [_, _, _], _ => rfl
  have F31 := fun_mk (st := s_l_wish) l31 c31 k31
  have b31 := F31.binds (ps := ["_law_post", "_law_hands", "_law_newest"]) fun _ _ _ _ _ _ us hl => match us, hl with | [_, _, _], _ => rfl
  have F32 := fun_mk (st := s_l_beat) l32 c32 k32
  have b32 := F32.binds (ps := ["_law_post", "_law_stand", "_law_come"]) fun _ _ _ _ _ _ us hl => match us, hl with | [_, _, _], _ => rfl
  have F33 := fun_mk (st := s_l_a_load) l33 c33 k33
  have b33 := F33.binds (ps := ["_law_tape_here"]) fun _ _ _ _ _ _ us hl => match us, hl with | [_], _ => rfl
  have F34 := fun_mk (st := s_l_burst_of) l34 c34 k34
  have b34 := F34.binds (ps := ["_law_load", "_law_rate"]) fun _ _ _ _ _ _ us hl => match us, hl with | [_, _], _ => rfl
  have F35 := fun_mk (st := s_l_curve_of) l35 c35 k35
  have b35 := F35.binds (ps := ["_law_tape_here", "_law_load"]) fun _ _ _ _ _ _ us hl => match us, hl with | [_, _], _ => rfl
  have F36 := fun_mk (st := s_l_is_within) l36 c36 k36
  have b36 := F36.binds (ps := ["_law_curve", "_law_load"]) fun _ _ _ _ _ _ us hl => match us, hl with | [_, _], _ => rfl
  have F37 := fun_mk (st := s_l_due_of) l37 c37 k37
  have b37 := F37.binds (ps := ["_law_post", "_law_stand", "_law_curve", "_law_bound", "_law_thing"]) fun _ _ _ _ _ _ us hl => match us, hl with | [_, _, _, _, _], _ => rfl
  have F38 := fun_mk (st := s_l_otherwise) l38 c38 k38
  have b38 := F38.binds (ps := ["_law_tape_here", "_law_load"]) fun _ _ _ _ _ _ us hl => match us, hl with | [_, _], _ => rfl
  have F39 := fun_mk (st := s_l_right) l39 c39 k39
  have b39 := F39.binds (ps := ["_law_tape_here"]) fun _ _ _ _ _ _ us hl => match us, hl with | [_], _ => rfl
  have F40 := fun_mk (st := s_law) l40 c40 k40
  have b40 := F40.binds (ps := ["_law_script"]) fun _ _ _ _ _ _ us hl => match us, hl with | [_], _ => rfl
  have B : Bi mg := ⟨PySem.W.mg_none_of X G z_isinstance, PySem.W.mg_none_of X G z_int, PySem.W.mg_none_of X G z_bool, PySem.W.mg_none_of X G z_max, PySem.W.mg_none_of X G z_min, PySem.W.mg_none_of X G z_sum, PySem.W.mg_none_of X G z_list, PySem.W.mg_none_of X G z_reversed, PySem.W.mg_none_of X G z_range, PySem.W.mg_none_of X G z_tuple, PySem.W.mg_none_of X G z_len, PySem.W.mg_none_of X G z_zip, PySem.W.mg_none_of X G z_all, PySem.W.mg_none_of X G z_abs, PySem.W.mg_none_of X G z_enumerate, PySem.W.mg_none_of X G z_repr⟩
  have O : Co K mg := ⟨⟨w_WHATS, PySem.W.mg_of X G n_WHATS, ⟨_, m_WHATS, rfl, rfl⟩, fun H => .inr ⟨_, _, nn_WHATS, m_WHATS, rfl, rfl, (by show 3 ≤ sizeLine; decide), (.cons ⟨_, rfl⟩ (.cons ⟨_, rfl⟩ (.cons ⟨_, rfl⟩ .nil)))⟩⟩, ⟨t_OVER, PySem.W.mg_of X G n_OVER⟩, ⟨t_UNDER, PySem.W.mg_of X G n_UNDER⟩, ⟨t_EACH, PySem.W.mg_of X G n_EACH⟩, ⟨t_MOST_HANDS, PySem.W.mg_of X G n_MOST_HANDS⟩, ⟨t_TRIPLES_SEEN, PySem.W.mg_of X G n_TRIPLES_SEEN⟩, ⟨t_MOST_BEATS_SHOWN, PySem.W.mg_of X G n_MOST_BEATS_SHOWN⟩⟩
  refine ⟨PySem.W.fnOf "law" "law" (defArgs s_law) (defBody s_law) (defScope s_law) .none kV40 dc40 pm40 an40 cd40 ct40, fun s v => .of_eq rfl, fun base _ _ => ?_⟩
  exact all_ok B O F0 b0 (PySem.W.mg_of X G a0) F1 b1 (PySem.W.mg_of X G a1) F2 b2 (PySem.W.mg_of X G a2) F3 b3 (PySem.W.mg_of X G a3) F4 b4 (PySem.W.mg_of X G a4) F5 b5 (PySem.W.mg_of X G a5) F6 b6 bd6 (PySem.W.mg_of X G a6) F7 b7 (PySem.W.mg_of X G a7) F8 b8 (PySem.W.mg_of X G a8) F9 b9 (PySem.W.mg_of X G a9) F10 b10 (PySem.W.mg_of X G a10) F11 b11 (PySem.W.mg_of X G a11) F12 b12 (PySem.W.mg_of X G a12) F13 b13 (PySem.W.mg_of X G a13) F14 b14 (PySem.W.mg_of X G a14) F15 b15 (PySem.W.mg_of X G a15) F16 b16 (PySem.W.mg_of X G a16) F17 b17 (PySem.W.mg_of X G a17) F18 b18 (PySem.W.mg_of X G a18) F19 b19 (PySem.W.mg_of X G a19) F20 b20 (PySem.W.mg_of X G a20) F21 b21 (PySem.W.mg_of X G a21) F22 b22 (PySem.W.mg_of X G a22) F23 b23 (PySem.W.mg_of X G a23) F24 b24 (PySem.W.mg_of X G a24) F25 b25 (PySem.W.mg_of X G a25) F26 b26 (PySem.W.mg_of X G a26) F27 b27 (PySem.W.mg_of X G a27) F28 b28 (PySem.W.mg_of X G a28) F29 b29 (PySem.W.mg_of X G a29) F30 b30 (PySem.W.mg_of X G a30) F31 b31 (PySem.W.mg_of X G a31) F32 b32 (PySem.W.mg_of X G a32) F33 b33 (PySem.W.mg_of X G a33) F34 b34 (PySem.W.mg_of X G a34) F35 b35 (PySem.W.mg_of X G a35) F36 b36 (PySem.W.mg_of X G a36) F37 b37 (PySem.W.mg_of X G a37) F38 b38 (PySem.W.mg_of X G a38) F39 b39 (PySem.W.mg_of X G a39) F40 b40 (PySem.W.mg_of X G a40)
theorem walk {l : PySem.W.OpenLaw} {q : Program} {loose : List Str} {XP : (Str → Option Value) → Heap → Prop} {YP : World → Heap → Prop} {d : DefRec} {K : Params → PySem.W.Frag} (hn : l.most = some 63) (hdf : d.params.defaults = [])
    (hY : ∀ (w : World) (h : Heap), YP w h → (K w.params).In h)
    (F : ∀ (w : World) (mg : Str → Option Value) (fa : Addr) (h : Heap), (K w.params).In h → h.Ns mainGlobals mg → mg d.name = some (.ref fa) →
      ∃ fd : FuncData, (∀ (s : Shared) (u : Value), BindsTo s fd ⟨[u], []⟩ [("_law_script", u)]) ∧ ∀ base : Heap, (K w.params).In base → base.Ns mainGlobals mg → FnOk l.prog w (K w.params) mg base CX0 9 fa fd ["_law_script"] (spLaw (K w.params))) :
    PySem.W.WalkO q loose XP YP l.row.toRowW d [] (fun f vs => PySem.call f vs) :=
  L2.walk_of (n := 63) (k := 9) (x := "_law_script") (CX := fun _ => CX0) (sp := fun w => spLaw (K w.params)) hn (by decide) hdf ⟨rfl, by decide, by decide, rfl⟩ hY F (fun _ _ a ns hl hO hS => ⟨a, ns, rfl, Scr.of hS hO, hl, fun _ => rfl⟩) fun _ _ _ _ _ z => z
end K64
namespace PySem.W.Fast
theorem tw9466018691873902322:True:=⟨⟩
theorem tw11476542024007605401:True:=⟨⟩
theorem tw12665715941873324696:True:=⟨⟩
theorem tw11943236915163085214:True:=⟨⟩
theorem tw5514737677151996253:True:=⟨⟩
theorem tw1875752992079765746:True:=⟨⟩
theorem tw169488530133933899:True:=⟨⟩
theorem tw16911340352781475468:True:=⟨⟩
theorem tw10351718043646409954:True:=⟨⟩
theorem tw5884519382261388757:True:=⟨⟩
theorem tw17887242841612364038:True:=⟨⟩
theorem tw13770689870696945702:True:=⟨⟩
theorem tw3148810007898097857:True:=⟨⟩
theorem tw4526345735829178366:True:=⟨⟩
theorem tw10642806221902470255:True:=⟨⟩
theorem tw14064992971594559065:True:=⟨⟩
theorem tw11523814300935387589:True:=⟨⟩
theorem tw13681455216136382802:True:=⟨⟩
theorem tw5954306767176061028:True:=⟨⟩
theorem tw5993582627903257740:True:=⟨⟩
theorem tw4294587494395650716:True:=⟨⟩
theorem tw15839849502774539763:True:=⟨⟩
theorem tw6924866215498137910:True:=⟨⟩
theorem tw10997686130199854285:True:=⟨⟩
theorem tw3968334246770035585:True:=⟨⟩
theorem tw3868467458326294280:True:=⟨⟩
theorem tw8606358179315498633:True:=⟨⟩
theorem tw18022396196438879448:True:=⟨⟩
theorem tw5219959145704307255:True:=⟨⟩
theorem tw16465922316857128201:True:=⟨⟩
theorem tw14237669292640022101:True:=⟨⟩
theorem tw18156658127161338579:True:=⟨⟩
theorem tw15292885365401542103:True:=⟨⟩
theorem tw11648056754437040364:True:=⟨⟩
theorem tw13028764065523078158:True:=⟨⟩
theorem tw6580859866378248181:True:=⟨⟩
theorem tw17393112876371383915:True:=⟨⟩
theorem tw3871904012455506817:True:=⟨⟩
theorem tw16150283402542348375:True:=⟨⟩
theorem tw14910154912967025317:True:=⟨⟩
theorem tw12999862462055925495:True:=⟨⟩
theorem tw4866776815680548527:True:=⟨⟩
theorem tw17840067547936993314:True:=⟨⟩
theorem tw9620362988486891593:True:=⟨⟩
theorem tw3132182885824337442:True:=⟨⟩
theorem tw8850662248148167580:True:=⟨⟩
theorem tw1999685202377851591:True:=⟨⟩
theorem tw7804688163763527388:True:=⟨⟩
theorem tw16161404769185007491:True:=⟨⟩
theorem tw10075875771588334228:True:=⟨⟩
theorem tw10070537634389102165:True:=⟨⟩
theorem tw5415075978750376158:True:=⟨⟩
theorem tw3283886672317370627:True:=⟨⟩
theorem tw12163760995926921645:True:=⟨⟩
theorem tw16547077838897053467:True:=⟨⟩
theorem tw3820594124425787848:True:=⟨⟩
theorem tw18285205005563153772:True:=⟨⟩
theorem tw17792564679532892017:True:=⟨⟩
theorem tw14149645171482077436:True:=⟨⟩
theorem tw13643640639721131021:True:=⟨⟩
theorem tw13237881724176982261:True:=⟨⟩
theorem tw7392867092145304600:True:=⟨⟩
theorem tw227958349504367550:True:=⟨⟩
theorem tw4325535793551704224:True:=⟨⟩
theorem tw1167375485855881698:True:=⟨⟩
theorem tw7334318867738464363:True:=⟨⟩
theorem tw8817732053781227590:True:=⟨⟩
theorem tw17169139669752954080:True:=⟨⟩
theorem tw8335805935322262979:True:=⟨⟩
theorem tw11550339489387922581:True:=⟨⟩
theorem tw4126863307798848900:True:=⟨⟩
theorem tw3919484290995864871:True:=⟨⟩
theorem tw6213056111873631644:True:=⟨⟩
theorem tw742181513710326748:True:=⟨⟩
theorem tw5354131541437883152:True:=⟨⟩
theorem tw6333111238520137381:True:=⟨⟩
theorem tw16250792328361406377:True:=⟨⟩
theorem tw13357110398809907010:True:=⟨⟩
theorem tw9906624761772753655:True:=⟨⟩
theorem tw8918901806986394861:True:=⟨⟩
theorem tw16434446790022419018:True:=⟨⟩
theorem tw9321277442003965806:True:=⟨⟩
theorem tw14603501002877116830:True:=⟨⟩
theorem tw483192885173386935:True:=⟨⟩
theorem tw6058706570711184168:True:=⟨⟩
theorem tw15738212801236555078:True:=⟨⟩
theorem tw911698079337302517:True:=⟨⟩
theorem tw7384611279440574722:True:=⟨⟩
theorem tw13685856339826193477:True:=⟨⟩
theorem tw841181345069575636:True:=⟨⟩
theorem tw13274392235157527013:True:=⟨⟩
theorem tw15813597536883642687:True:=⟨⟩
theorem tw11500690629909398749:True:=⟨⟩
theorem tw2847806240918664802:True:=⟨⟩
theorem tw9690451322260710091:True:=⟨⟩
theorem tw7687440838417280556:True:=⟨⟩
theorem tw8193101233094450109:True:=⟨⟩
theorem tw14929685581654118099:True:=⟨⟩
theorem tw6409483311719289694:True:=⟨⟩
theorem tw60654305729033909:True:=⟨⟩
theorem tw6491117723725211881:True:=⟨⟩
theorem tw11869459244763314455:True:=⟨⟩
theorem tw12789993253143710201:True:=⟨⟩
theorem tw18218346986153210707:True:=⟨⟩
theorem tw6137344906976225104:True:=⟨⟩
theorem tw2501125801204495280:True:=⟨⟩
theorem tw6164468650256791055:True:=⟨⟩
theorem tw16698595217633117664:True:=⟨⟩
theorem tw1689747423432489100:True:=⟨⟩
theorem tw17979527581531089234:True:=⟨⟩
theorem tw8665641233083685210:True:=⟨⟩
theorem tw6630677881451816293:True:=⟨⟩
theorem tw10299515914887916020:True:=⟨⟩
theorem tw4712720076007957198:True:=⟨⟩
theorem tw72171085482501168:True:=⟨⟩
theorem tw2643621310473358050:True:=⟨⟩
theorem tw3921561202538563085:True:=⟨⟩
theorem tw338992602504530709:True:=⟨⟩
theorem tw14841618547131693131:True:=⟨⟩
theorem tw15280646952313083930:True:=⟨⟩
theorem tw8665297527580541383:True:=⟨⟩
theorem tw5851295058217587552:True:=⟨⟩
theorem tw2307234323896521212:True:=⟨⟩
theorem tw3918911505444099472:True:=⟨⟩
theorem tw2537904097841562723:True:=⟨⟩
theorem tw7102034166187443986:True:=⟨⟩
theorem tw10898351510116846647:True:=⟨⟩
theorem tw5644611100560351023:True:=⟨⟩
theorem tw335125647591208070:True:=⟨⟩
theorem tw15954156097102644813:True:=⟨⟩
theorem tw16858450778372329451:True:=⟨⟩
theorem tw8879641829140267408:True:=⟨⟩
theorem tw534432644284165095:True:=⟨⟩
theorem tw15385355331112360165:True:=⟨⟩
theorem tw7138750421896978499:True:=⟨⟩
theorem tw12090740014071122086:True:=⟨⟩
theorem tw10162136089714664601:True:=⟨⟩
theorem tw17138117064787005513:True:=⟨⟩
theorem tw14106037305013545594:True:=⟨⟩
theorem tw14862032693653477532:True:=⟨⟩
theorem tw3050859164234892623:True:=⟨⟩
theorem tw8022489163313087203:True:=⟨⟩
theorem tw12675193122942620884:True:=⟨⟩
theorem tw5164495143182779996:True:=⟨⟩
theorem tw17295947377999313808:True:=⟨⟩
theorem tw16467238532166930115:True:=⟨⟩
theorem tw7725767613943036205:True:=⟨⟩
theorem tw9748059470656194589:True:=⟨⟩
theorem tw15687499291607872362:True:=⟨⟩
theorem tw13116972037324713158:True:=⟨⟩
theorem tw5414667888542935988:True:=⟨⟩
theorem tw5481299405834151354:True:=⟨⟩
theorem tw564648937520570543:True:=⟨⟩
theorem tw10247147843588614955:True:=⟨⟩
theorem tw17298993809197369426:True:=⟨⟩
theorem tw9418104214774485696:True:=⟨⟩
theorem tw14384433866244568899:True:=⟨⟩
theorem tw3727799411878499235:True:=⟨⟩
theorem tw14127892534165941467:True:=⟨⟩
theorem tw14340248143908640458:True:=⟨⟩
theorem tw10419467273434807787:True:=⟨⟩
theorem tw14454909331610110614:True:=⟨⟩
theorem tw3854034587173856875:True:=⟨⟩
theorem tw18312475734832811294:True:=⟨⟩
theorem tw6265546819570229600:True:=⟨⟩
theorem tw11019908400080057917:True:=⟨⟩
theorem tw12561745266284152688:True:=⟨⟩
theorem tw3112413405672282380:True:=⟨⟩
theorem tw6704643495145973062:True:=⟨⟩
theorem tw4536660929677800991:True:=⟨⟩
theorem tw3872474501855949853:True:=⟨⟩
theorem tw14001065618552148024:True:=⟨⟩
theorem tw11579718177444201603:True:=⟨⟩
theorem tw7440481459157636924:True:=⟨⟩
theorem tw1661354701683865550:True:=⟨⟩
theorem tw5476248324297381516:True:=⟨⟩
theorem tw6114990094602966888:True:=⟨⟩
theorem tw764721759301370216:True:=⟨⟩
theorem tw12412202499695539772:True:=⟨⟩
theorem tw1099408696924760329:True:=⟨⟩
theorem tw7265295515839258865:True:=⟨⟩
theorem tw5479238501558096851:True:=⟨⟩
theorem tw1836385098719369152:True:=⟨⟩
theorem tw4962465087935420063:True:=⟨⟩
theorem tw7414448754959758648:True:=⟨⟩
theorem tw6512405304203734013:True:=⟨⟩
theorem tw9368083983479733567:True:=⟨⟩
theorem tw2100164134118573222:True:=⟨⟩
theorem tw15442126445657339083:True:=⟨⟩
theorem tw5550179968661894121:True:=⟨⟩
theorem tw8063023865953108887:True:=⟨⟩
theorem tw3995916700461784964:True:=⟨⟩
theorem tw2560706474893776358:True:=⟨⟩
theorem tw13719671011762438193:True:=⟨⟩
theorem tw6621851149237417462:True:=⟨⟩
theorem tw7948707703879453973:True:=⟨⟩
theorem tw11189443342637553624:True:=⟨⟩
theorem tw6828929122856467322:True:=⟨⟩
theorem tw8015115913020146497:True:=⟨⟩
theorem tw4253313521896844259:True:=⟨⟩
theorem tw15549716282684721142:True:=⟨⟩
theorem tw13951135829318883812:True:=⟨⟩
theorem tw11007781715002414634:True:=⟨⟩
theorem tw8866176933000269431:True:=⟨⟩
theorem tw3871881440364936437:True:=⟨⟩
theorem tw12913085162486074526:True:=⟨⟩
theorem tw10551695937857126063:True:=⟨⟩
theorem tw6256035377905200280:True:=⟨⟩
theorem tw2250745348120301015:True:=⟨⟩
theorem tw14928519929344787413:True:=⟨⟩
theorem tw3782787910924528219:True:=⟨⟩
theorem tw6801011448227584214:True:=⟨⟩
theorem tw7525143399035584855:True:=⟨⟩
theorem tw4414770915592666056:True:=⟨⟩
theorem tw11797140152213467905:True:=⟨⟩
theorem tw18273546682950695315:True:=⟨⟩
theorem tw6687603775900122244:True:=⟨⟩
theorem tw4588151584815323682:True:=⟨⟩
theorem tw2232501989363294568:True:=⟨⟩
theorem tw14646147035499023826:True:=⟨⟩
theorem tw10662833600131958374:True:=⟨⟩
theorem tw7092953028614603523:True:=⟨⟩
theorem tw11235136367982103907:True:=⟨⟩
theorem tw14689763403297206203:True:=⟨⟩
theorem tw8156568724067242471:True:=⟨⟩
theorem tw1484037960407581036:True:=⟨⟩
theorem tw12830458020025543744:True:=⟨⟩
theorem tw2879180741098230716:True:=⟨⟩
theorem tw5077558702566223214:True:=⟨⟩
theorem tw15576344425350490856:True:=⟨⟩
theorem tw680442459723742110:True:=⟨⟩
theorem tw11276755646097712525:True:=⟨⟩
theorem tw7671039183761024986:True:=⟨⟩
theorem tw12819362018175169178:True:=⟨⟩
theorem tw15639278536139029997:True:=⟨⟩
theorem tw9109363888396282889:True:=⟨⟩
theorem tw4584122485882883993:True:=⟨⟩
theorem tw3001273321685988157:True:=⟨⟩
theorem tw3606999477524058442:True:=⟨⟩
end PySem.W.Fast
open PySem PySem.W PyProof.Rows
set_option maxRecDepth 100000 in
set_option maxHeartbeats 0 in
theorem PySem.Challenge.cw_waithands_k64_loads_that_break_holds : PySem.Challenge.rw_waithands_k64_loads_that_break.Holds := by
  w_on; o_law; k_head; (case hw => w_witness2)
  k_fill
  refine K64.walk (l := PySem.Challenge.rw_waithands_k64_loads_that_break) rfl rfl (fun w h Y => PySem.W.kIn_of Y) ?F
  case F =>
    intro w mg fa h KX G hmg
    refine' K64.all_mk KX G hmg ?a0 ?l0 ?c0 ?k0 ?a1 ?l1 ?c1 ?k1 ?a2 ?l2 ?c2 ?k2 ?a3 ?l3 ?c3 ?k3 ?a4 ?l4 ?c4 ?k4 ?a5 ?l5 ?c5 ?k5 ?a6 ?l6 ?c6 ?k6 ?e6 ?a7 ?l7 ?c7 ?k7 ?a8 ?l8 ?c8 ?k8 ?a9 ?l9 ?c9 ?k9 ?a10 ?l10 ?c10 ?k10 ?a11 ?l11 ?c11 ?k11 ?a12 ?l12 ?c12 ?k12 ?a13 ?l13 ?c13 ?k13 ?a14 ?l14 ?c14 ?k14 ?a15 ?l15 ?c15 ?k15 ?a16 ?l16 ?c16 ?k16 ?a17 ?l17 ?c17 ?k17 ?a18 ?l18 ?c18 ?k18 ?a19 ?l19 ?c19 ?k19 ?a20 ?l20 ?c20 ?k20 ?a21 ?l21 ?c21 ?k21 ?a22 ?l22 ?c22 ?k22 ?a23 ?l23 ?c23 ?k23 ?a24 ?l24 ?c24 ?k24 ?a25 ?l25 ?c25 ?k25 ?a26 ?l26 ?c26 ?k26 ?a27 ?l27 ?c27 ?k27 ?a28 ?l28 ?c28 ?k28 ?a29 ?l29 ?c29 ?k29 ?a30 ?l30 ?c30 ?k30 ?a31 ?l31 ?c31 ?k31 ?a32 ?l32 ?c32 ?k32 ?a33 ?l33 ?c33 ?k33 ?a34 ?l34 ?c34 ?k34 ?a35 ?l35 ?c35 ?k35 ?a36 ?l36 ?c36 ?k36 ?a37 ?l37 ?c37 ?k37 ?a38 ?l38 ?c38 ?k38 ?a39 ?l39 ?c39 ?k39 ?a40 ?l40 ?c40 ?k40 ?z_isinstance ?z_int ?z_bool ?z_max ?z_min ?z_sum ?z_list ?z_reversed ?z_range ?z_tuple ?z_len ?z_zip ?z_all ?z_abs ?z_enumerate ?z_repr ?n_WHATS ?m_WHATS ?n_OVER ?n_UNDER ?n_EACH ?n_MOST_HANDS ?n_TRIPLES_SEEN ?n_MOST_BEATS_SHOWN
    (case a0 => k_is)
    (case l0 => k_is)
    (case c0 => k_is)
    (case k0 => k_is)
    (case a1 => k_is)
    (case l1 => k_is)
    (case c1 => k_is)
    (case k1 => k_is)
    (case a2 => k_is)
    (case l2 => k_is)
    (case c2 => k_is)
    (case k2 => k_is)
    (case a3 => k_is)
    (case l3 => k_is)
    (case c3 => k_is)
    (case k3 => k_is)
    (case a4 => k_is)
    (case l4 => k_is)
    (case c4 => k_is)
    (case k4 => k_is)
    (case a5 => k_is)
    (case l5 => k_is)
    (case c5 => k_is)
    (case k5 => k_is)
    (case a6 => k_is)
    (case l6 => k_is)
    (case c6 => k_is)
    (case k6 => k_is)
    (case e6 => k_is)
    (case a7 => k_is)
    (case l7 => k_is)
    (case c7 => k_is)
    (case k7 => k_is)
    (case a8 => k_is)
    (case l8 => k_is)
    (case c8 => k_is)
    (case k8 => k_is)
    (case a9 => k_is)
    (case l9 => k_is)
    (case c9 => k_is)
    (case k9 => k_is)
    (case a10 => k_is)
    (case l10 => k_is)
    (case c10 => k_is)
    (case k10 => k_is)
    (case a11 => k_is)
    (case l11 => k_is)
    (case c11 => k_is)
    (case k11 => k_is)
    (case a12 => k_is)
    (case l12 => k_is)
    (case c12 => k_is)
    (case k12 => k_is)
    (case a13 => k_is)
    (case l13 => k_is)
    (case c13 => k_is)
    (case k13 => k_is)
    (case a14 => k_is)
    (case l14 => k_is)
    (case c14 => k_is)
    (case k14 => k_is)
    (case a15 => k_is)
    (case l15 => k_is)
    (case c15 => k_is)
    (case k15 => k_is)
    (case a16 => k_is)
    (case l16 => k_is)
    (case c16 => k_is)
    (case k16 => k_is)
    (case a17 => k_is)
    (case l17 => k_is)
    (case c17 => k_is)
    (case k17 => k_is)
    (case a18 => k_is)
    (case l18 => k_is)
    (case c18 => k_is)
    (case k18 => k_is)
    (case a19 => k_is)
    (case l19 => k_is)
    (case c19 => k_is)
    (case k19 => k_is)
    (case a20 => k_is)
    (case l20 => k_is)
    (case c20 => k_is)
    (case k20 => k_is)
    (case a21 => k_is)
    (case l21 => k_is)
    (case c21 => k_is)
    (case k21 => k_is)
    (case a22 => k_is)
    (case l22 => k_is)
    (case c22 => k_is)
    (case k22 => k_is)
    (case a23 => k_is)
    (case l23 => k_is)
    (case c23 => k_is)
    (case k23 => k_is)
    (case a24 => k_is)
    (case l24 => k_is)
    (case c24 => k_is)
    (case k24 => k_is)
    (case a25 => k_is)
    (case l25 => k_is)
    (case c25 => k_is)
    (case k25 => k_is)
    (case a26 => k_is)
    (case l26 => k_is)
    (case c26 => k_is)
    (case k26 => k_is)
    (case a27 => k_is)
    (case l27 => k_is)
    (case c27 => k_is)
    (case k27 => k_is)
    (case a28 => k_is)
    (case l28 => k_is)
    (case c28 => k_is)
    (case k28 => k_is)
    (case a29 => k_is)
    (case l29 => k_is)
    (case c29 => k_is)
    (case k29 => k_is)
    (case a30 => k_is)
    (case l30 => k_is)
    (case c30 => k_is)
    (case k30 => k_is)
    (case a31 => k_is)
    (case l31 => k_is)
    (case c31 => k_is)
    (case k31 => k_is)
    (case a32 => k_is)
    (case l32 => k_is)
    (case c32 => k_is)
    (case k32 => k_is)
    (case a33 => k_is)
    (case l33 => k_is)
    (case c33 => k_is)
    (case k33 => k_is)
    (case a34 => k_is)
    (case l34 => k_is)
    (case c34 => k_is)
    (case k34 => k_is)
    (case a35 => k_is)
    (case l35 => k_is)
    (case c35 => k_is)
    (case k35 => k_is)
    (case a36 => k_is)
    (case l36 => k_is)
    (case c36 => k_is)
    (case k36 => k_is)
    (case a37 => k_is)
    (case l37 => k_is)
    (case c37 => k_is)
    (case k37 => k_is)
    (case a38 => k_is)
    (case l38 => k_is)
    (case c38 => k_is)
    (case k38 => k_is)
    (case a39 => k_is)
    (case l39 => k_is)
    (case c39 => k_is)
    (case k39 => k_is)
    (case a40 => k_is)
    (case l40 => k_is)
    (case c40 => k_is)
    (case k40 => k_is)
    (case z_isinstance => k_is)
    (case z_int => k_is)
    (case z_bool => k_is)
    (case z_max => k_is)
    (case z_min => k_is)
    (case z_sum => k_is)
    (case z_list => k_is)
    (case z_reversed => k_is)
    (case z_range => k_is)
    (case z_tuple => k_is)
    (case z_len => k_is)
    (case z_zip => k_is)
    (case z_all => k_is)
    (case z_abs => k_is)
    (case z_enumerate => k_is)
    (case z_repr => k_is)
    (case n_WHATS => k_is)
    (case m_WHATS => k_is)
    (case n_OVER => k_is)
    (case n_UNDER => k_is)
    (case n_EACH => k_is)
    (case n_MOST_HANDS => k_is)
    (case n_TRIPLES_SEEN => k_is)
    (case n_MOST_BEATS_SHOWN => k_is)
