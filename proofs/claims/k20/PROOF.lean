import PyProof.Rows.All
import Wide.All
import OpenK.AllK
import Wide.FinOn
import Lean
import PyProof.EqAt
import PyProof.EqKinds
import PyProof.TupleCall
import PyProof.P3In
import PyProof.NeData
import KE.KMinKey
import PyProof.Rows.CallKwBuiltin
import PyProof.LayNew
import PyProof.EnumFor
import PyProof.EnumMake
import PyProof.EnumStmt
import KE.KRevIter
import KE.KRevSl
import PyProof.StationsW
import PyProof.RulesAs
import KE.KTryMore
import PyProof.Rows.TopTwo
import PyProof.NsDelKeeps
import PyProof.ExcArgsOwn
import KE.KIsAll
import PyProof.AutoListH
import PySem.Challenge.RW_waithands_k20_loads_read
set_option Elab.async false
set_option linter.all false
set_option maxRecDepth 100000
/-! THE HAND LAYER, for ints, bools, texts, own classes, LISTS and tuples (index, slices, in, append, pop ..), calls, loops. Paste it whole ahead of your own text; what your proof does not reach may be deleted. -/
namespace L2
open PySem PySem.Spec PyProof.Rows

/-- a key: an int or a str -/
abbrev Key := Sum Int Str
def keyIs : Key → Value → Bool
  | .inl k, v => Value.isInt k v
  | .inr x, v => Value.isStrOf x v
def keyH (w : World) : Key → Int
  | .inl k => hashInt k
  | .inr x => hashStr w x
theorem keyIs_shape : ∀ {k : Key} {v : Value}, keyIs k v = true → (∃ i t, k = Sum.inl i ∧ v = Value.int i t) ∨ (∃ x t, k = Sum.inr x ∧ v = Value.str x t)
  | .inl i, v, h => by
    obtain ⟨t, e⟩ := Value.isInt_shape (k := i) (v := v) h
    exact .inl ⟨i, t, rfl, e⟩
  | .inr x, v, h => by
    obtain ⟨t, e⟩ := Value.isStrOf_shape (x := x) (v := v) h
    exact .inr ⟨x, t, rfl, e⟩
theorem key_ll (a b : Int) : decide ((Sum.inl a : Key) = Sum.inl b) = (a == b) := by
  by_cases e : a = b
  · subst e; simp
  · have h : ¬ (Sum.inl a : Key) = Sum.inl b := fun q => e (Sum.inl.inj q)
    rw [decide_eq_false h]
    exact (beq_eq_false_iff_ne.mpr e).symm
theorem key_rr (a b : Str) : decide ((Sum.inr a : Key) = Sum.inr b) = decide (a = b) := by
  by_cases e : a = b
  · subst e; simp
  · have h : ¬ (Sum.inr a : Key) = Sum.inr b := fun q => e (Sum.inr.inj q)
    rw [decide_eq_false h, decide_eq_false e]
theorem key_lr (a : Int) (b : Str) : decide ((Sum.inl a : Key) = Sum.inr b) = false := decide_eq_false (fun q => nomatch q)
theorem key_rl (a : Str) (b : Int) : decide ((Sum.inr a : Key) = Sum.inl b) = false := decide_eq_false (fun q => nomatch q)

def mixKind (prog : Program) (w : World) : PySem.KeyKind prog w Key where
  is := keyIs
  hash := keyH w
  inj := fun v a b ha hb => by
    rcases keyIs_shape ha with ⟨i, t, rfl, rfl⟩ | ⟨x, t, rfl, rfl⟩
    · rcases keyIs_shape hb with ⟨j, u, rfl, e⟩ | ⟨y, u, rfl, e⟩
      · injection e with e1 _; rw [e1]
      · exact nomatch e
    · rcases keyIs_shape hb with ⟨j, u, rfl, e⟩ | ⟨y, u, rfl, e⟩
      · exact nomatch e
      · injection e with e1 _; rw [e1]
  byValue := fun k v h => by
    rcases keyIs_shape h with ⟨i, t, rfl, rfl⟩ | ⟨x, t, rfl, rfl⟩ <;> rfl
  pyHash := fun hv h => by
    rcases keyIs_shape hv with ⟨i, t, rfl, rfl⟩ | ⟨x, t, rfl, rfl⟩
    · exact wpAny_pyHash_int h
    · exact wpAny_pyHash_str h
  eqBool := fun hu hv h => by
    rcases keyIs_shape hu with ⟨i, t, rfl, rfl⟩ | ⟨x, t, rfl, rfl⟩
    · rcases keyIs_shape hv with ⟨j, u, rfl, rfl⟩ | ⟨y, u, rfl, rfl⟩
      · rw [key_ll] at h; exact wpAny_eqBool_int h
      · rw [key_lr] at h; exact SeqAt.EqAt.int_str i t y u _ _ _ _ h
    · rcases keyIs_shape hv with ⟨j, u, rfl, rfl⟩ | ⟨y, u, rfl, rfl⟩
      · rw [key_rl] at h; exact SeqAt.EqAt.str_int x t j u _ _ _ _ h
      · rw [key_rr] at h; exact wpAny_eqBool_str h
  «strs» := fun k x t v h => by
    rcases keyIs_shape h with ⟨i, u, rfl, e⟩ | ⟨y, u, rfl, e⟩
    · exact nomatch e
    · injection e with e1 _
      subst e1
      cases v <;> rfl

end L2

namespace L2
open PySem PySem.Spec PyProof.Rows

/-- a value, without the heap -/
inductive V where
  | non | bl (b : Bool) | int (i : Int) | str (x : Str) | byt (b : Array UInt8) | flt (b : UInt64) | ref (a : Addr) | ty (n : String)
  deriving DecidableEq

def RelV : V → Value → Prop
  | .non, u => u = Value.none
  | .bl b, u => u = Value.bool b
  | .int i, u => ∃ t, u = Value.int i t
  | .str x, u => ∃ t, u = Value.str x t
  | .byt b, u => ∃ t, u = Value.bytes b t
  | .flt b, u => ∃ t, u = Value.float b t
  | .ref a, u => u = Value.ref a
  | .ty n, u => u = Value.type n

abbrev Vals : List V → List Value → Prop := Paired RelV
theorem Vals.length {xs : List V} {us : List Value} (r : Vals xs us) : xs.length = us.length := Paired.length r
theorem Vals.get : ∀ {xs : List V} {us : List Value} {i : Nat} {x : V}, Vals xs us → xs[i]? = some x → ∃ u, us[i]? = some u ∧ RelV x u
  | _, _, _, _, .nil, e => by simp at e
  | _, _, 0, _, .cons r _, e => by simp at e; subst e; exact ⟨_, rfl, r⟩
  | _, _, i + 1, x, .cons _ t, e => by
    obtain ⟨u, h1, h2⟩ := Vals.get (i := i) (x := x) t (by simpa using e)
    exact ⟨u, by simpa using h1, h2⟩
theorem Vals.set {x : V} {u : Value} (r : RelV x u) : ∀ {xs : List V} {us : List Value} (i : Nat), Vals xs us → Vals (xs.set i x) (us.set i u)
  | _, _, _, .nil => .nil
  | _, _, 0, .cons _ t => .cons r t
  | _, _, i + 1, .cons q t => .cons q (Vals.set r i t)
theorem Vals.append : ∀ {xs ys : List V} {us ws : List Value}, Vals xs us → Vals ys ws → Vals (xs ++ ys) (us ++ ws)
  | _, _, _, _, .nil, s => s
  | _, _, _, _, .cons r t, s => .cons r (Vals.append t s)
theorem Vals.take : ∀ {xs : List V} {us : List Value} (n : Nat), Vals xs us → Vals (xs.take n) (us.take n)
  | _, _, 0, _ => .nil
  | _, _, _ + 1, .nil => .nil
  | _, _, n + 1, .cons r t => .cons r (Vals.take n t)
theorem Vals.drop : ∀ {xs : List V} {us : List Value} (n : Nat), Vals xs us → Vals (xs.drop n) (us.drop n)
  | _, _, 0, r => r
  | _, _, _ + 1, .nil => .nil
  | _, _, n + 1, .cons _ t => Vals.drop n t
theorem Vals.none_of : ∀ {xs : List V} {us : List Value} {i : Nat}, Vals xs us → xs[i]? = none → us[i]? = none := fun {xs us i} r e => by
  have h1 := r.length
  have h2 : xs.length ≤ i := List.getElem?_eq_none_iff.mp e
  exact List.getElem?_eq_none_iff.mpr (by omega)

def RelO : Option V → Option Value → Prop
  | some v, some u => RelV v u
  | none, none => True
  | _, _ => False
def KV {κ : Type} : List (κ × V) → List (κ × Value) → Prop := Paired fun (p : κ × V) (q : κ × Value) => p.1 = q.1 ∧ RelV p.2 q.2

/-- a key of a dict (00_mix): an int or a text -/
def kV : Key → V
  | .inl i => .int i
  | .inr x => .str x

/-- what stands at a tracked address -/
inductive HO where
  /-- a list -/
  | lst (xs : List V)
  /-- a tuple (never changes) -/
  | tup (xs : List V)
  /-- a dict whose keys are ints and texts; one whose keys are tuples of ints and texts (the empty one is both) -/
  | dK (kvs : List (Key × V)) | dT (kvs : List (List Key × V))
  /-- a set of ints: its members, its size -/
  | set (S : Int → Bool) (n : Nat)
  /-- an instance of the class at C, its dict at dx, its attributes -/
  | ins (C dx : Addr) (fs : List (Str × V))
  /-- the dict of the instance at x -/
  | own (x : Addr)
  /-- the dict of an exception -/
  | xd (fs : List (Str × V))
  /-- a bound method, f of x -/
  | met (f x : Addr)
  /-- a range object lo, lo + 1, .. below hi -/
  | rng (lo hi : Int)
  /-- a thing that is known to the object (the script; a dict while a loop walks it): read, never written while it is so -/
  | frz (o : Obj) (u : HO)
  /-- a code object's table -/
  | tbl (ps : Array Value)
  /-- any other thing, by what is true of its one object (a def of one's own: SetO a S n := HO.ext fun h => ..) -/
  | ext (φ : Heap → Prop)

abbrev Hp := Addr → Option HO
def upd (H : Hp) (a : Addr) (o : HO) : Hp := fun b => if b = a then some o else H b
theorem upd_same {H : Hp} {a : Addr} {o : HO} : upd H a o a = some o := by unfold upd; rw [if_pos rfl]
theorem upd_ne {H : Hp} {a b : Addr} {o : HO} (h : b ≠ a) : upd H a o b = H b := by unfold upd; rw [if_neg h]
theorem ne_of_none {H : Hp} {a b : Addr} {o : HO} (h : H a = some o) (h' : H b = none) : a ≠ b := by
  intro e; subst e; rw [h] at h'; cases h'

section
variable (P : Program) (w : World)
def ObjOk (H : Hp) (h : Heap) (a : Addr) : HO → Prop
  | .lst xs => xs.length ≤ sizeLine ∧ ∃ (its : List Value) (n : Nat), Vals xs its ∧ h.get? a = some { cls := .type "list", data := .seq its.toArray n }
  | .tup xs => xs.length ≤ sizeLine ∧ ∃ its : List Value, Vals xs its ∧ IsTup h a its.toArray
  | .dK kvs => kvs.length ≤ sizeLine ∧ (a == sysModules) = false ∧ ∃ vs, KV kvs vs ∧ h.DictOf (mixKind P w) a vs
  | .dT kvs => kvs.length ≤ sizeLine ∧ (a == sysModules) = false ∧ ∃ xs : List (List Key × Addr × Value),
      Paired (fun (p : List Key × V) (q : List Key × Addr × Value) => p.1 = q.1 ∧ H q.2.1 = some (.tup (p.1.map kV)) ∧ RelV p.2 q.2.2) kvs xs ∧
      ∃ o es ep, h.get? a = some o ∧ o.ExactDict ∧ o.data = .dict es ep ∧ es.toList = xs.map (entryOfKey (tupleKind (mixKind P w))) ∧ (xs.map (·.1)).Nodup
  | .set S n => h.SetOf (intKind P w) a S n
  | .ins C dx fs => H dx = some (.own a) ∧ fs.length ≤ 1000 ∧ dx ≠ a ∧ h.get? a = some (PySem.W.instObj C dx) ∧
      ∃ mA, h.Ns1 dx mA ∧ (∀ f, RelO (fs.lookup f) (mA f)) ∧ PySem.Within mA (fs.map (·.1))
  | .own _ => ∃ o, h.get? a = some o
  | .xd fs => ∃ mA, h.Ns1 a mA ∧ ∀ f, RelO (fs.lookup f) (mA f)
  | .rng lo hi => ∃ t u v, h.get? a = some { cls := .type "range", data := .fields #[.int lo t, .int hi u, .int 1 v] }
  | .frz o u => h.get? a = some o ∧ ObjOk H h a u
  | .tbl ps => h.get? a = some { cls := .none, data := .fields ps }
  | .met f x => h.get? a = some (PySem.W.methodObj (.ref f) (.ref x))
  | .ext φ => φ h ∧ (∃ o, h.get? a = some o) ∧ ∀ h1 h2 : Heap, φ h1 → (∀ o, h1.get? a = some o → h2.get? a = some o) → φ h2
/-- the abstract heap is held -/
def HOk (H : Hp) (h : Heap) : Prop := ∀ a o, H a = some o → ObjOk P w H h a o
end

section
variable {P : Program} {w : World} {H H' : Hp} {h h' : Heap} {a : Addr} {o : HO}
theorem ObjOk.lt (x : ObjOk P w H h a o) : a < h.objs.size := by
  cases o with
  | lst xs => obtain ⟨_, _, _, _, e⟩ := x; exact Heap.lt_size e
  | tup xs => obtain ⟨_, _, _, p⟩ := x; exact p.lt
  | dK kvs => obtain ⟨_, _, _, _, o, _, _, e, _⟩ := x; exact Heap.lt_size e
  | dT kvs => obtain ⟨_, _, _, _, o, _, _, e, _⟩ := x; exact Heap.lt_size e
  | set S n => obtain ⟨o, _, _, _, e, _⟩ := x; exact Heap.lt_size e
  | ins C dx fs => obtain ⟨_, _, _, e, _⟩ := x; exact Heap.lt_size e
  | own y => obtain ⟨_, e⟩ := x; exact Heap.lt_size e
  | xd fs => obtain ⟨_, ⟨_, _, _, e, _⟩, _⟩ := x; exact Heap.lt_size e
  | rng lo hi => obtain ⟨_, _, _, e⟩ := x; exact Heap.lt_size e
  | frz ob u => obtain ⟨e, _⟩ := x; exact Heap.lt_size e
  | tbl ps => exact Heap.lt_size (show h.get? a = some _ from x)
  | met f y => exact Heap.lt_size (show h.get? a = some _ from x)
  | ext φ => obtain ⟨_, ⟨_, e⟩, _⟩ := x; exact Heap.lt_size e
theorem Paired.mapP {α β : Type} {F G : α → β → Prop} : ∀ {l₁ : List α} {l₂ : List β}, Paired F l₁ l₂ → (∀ a b, F a b → G a b) → Paired G l₁ l₂
  | _, _, .nil, _ => .nil
  | _, _, .cons r t, f => .cons (f _ _ r) (Paired.mapP t f)
/-- what an object's description leans on: its own object, its own dict, the tuples -/
theorem ObjOk.stay (x : ObjOk P w H h a o) (k : ∀ b u, (b = a ∨ H b = some (.own a)) → h.get? b = some u → h'.get? b = some u)
    (ho : ∀ b, H b = some (.own a) → H' b = some (.own a)) (ht : ∀ b xs, H b = some (.tup xs) → H' b = some (.tup xs)) : ObjOk P w H' h' a o := by
  induction o with
  | lst xs => obtain ⟨z, its, n, r, e⟩ := x; exact ⟨z, its, n, r, k _ _ (.inl rfl) e⟩
  | tup xs => obtain ⟨z, its, r, ob, e, c⟩ := x; exact ⟨z, its, r, ob, k _ _ (.inl rfl) e, c⟩
  | dK kvs => obtain ⟨z, y, vs, r, ob, es, ep, e, c⟩ := x; exact ⟨z, y, vs, r, ob, es, ep, k _ _ (.inl rfl) e, c⟩
  | dT kvs =>
    obtain ⟨z, y, xs, r, ob, es, ep, e, c⟩ := x
    exact ⟨z, y, xs, Paired.mapP r fun p q z => ⟨z.1, ht _ _ z.2.1, z.2.2⟩, ob, es, ep, k _ _ (.inl rfl) e, c⟩
  | set S n => obtain ⟨ob, es, ep, t, e, c⟩ := x; exact ⟨ob, es, ep, t, k _ _ (.inl rfl) e, c⟩
  | ins C dx fs =>
    obtain ⟨d, z, ne, e, mA, ⟨od, es, ep, e2, c⟩, r⟩ := x
    exact ⟨ho _ d, z, ne, k _ _ (.inl rfl) e, mA, ⟨od, es, ep, k _ _ (.inr d) e2, c⟩, r⟩
  | own y => obtain ⟨ob, e⟩ := x; exact ⟨ob, k _ _ (.inl rfl) e⟩
  | xd fs => obtain ⟨mA, ⟨od, es, ep, e, c⟩, r⟩ := x; exact ⟨mA, ⟨od, es, ep, k _ _ (.inl rfl) e, c⟩, r⟩
  | rng lo hi => obtain ⟨t, u, v, e⟩ := x; exact ⟨t, u, v, k _ _ (.inl rfl) e⟩
  | frz ob u ih => obtain ⟨e, q⟩ := x; exact ⟨k _ _ (.inl rfl) e, ih q⟩
  | tbl ps =>
    have e : h.get? a = some { cls := .none, data := .fields ps } := x
    show h'.get? a = some { cls := .none, data := .fields ps }
    exact k a _ (.inl rfl) e
  | met f y =>
    have e : h.get? a = some (PySem.W.methodObj (.ref f) (.ref y)) := x
    show h'.get? a = some (PySem.W.methodObj (.ref f) (.ref y))
    exact k a _ (.inl rfl) e
  | ext φ => obtain ⟨p, ⟨o, e⟩, st⟩ := x; exact ⟨st _ _ p fun o q => k _ _ (.inl rfl) q, ⟨o, k _ _ (.inl rfl) e⟩, st⟩
theorem HOk.lt (x : HOk P w H h) (e : H a = some o) : a < h.objs.size := (x a o e).lt
theorem HOk.fresh (x : HOk P w H h) (e : h.objs.size ≤ a) : H a = none := by
  cases q : H a with
  | none => rfl
  | some u => exact absurd (Nat.lt_of_lt_of_le (x.lt q) e) (Nat.lt_irrefl _)
/-- every object of the heap is kept -/
theorem HOk.kept (x : HOk P w H h) (k : ∀ b u, h.get? b = some u → h'.get? b = some u) : HOk P w H h' := fun a o e =>
  (x a o e).stay (fun b u _ q => k b u q) (fun _ q => q) fun _ _ q => q
/-- a new object is laid and tracked -/
theorem HOk.laid (x : HOk P w H h) (k : ∀ b u, h.get? b = some u → h'.get? b = some u) (hp : h.objs.size ≤ a) (new : ObjOk P w (upd H a o) h' a o) : HOk P w (upd H a o) h' := fun b u e => by
  have hn := x.fresh hp
  by_cases hb : b = a
  · subst hb; rw [upd_same] at e; cases e; exact new
  · rw [upd_ne hb] at e
    exact (x b u e).stay (fun c v _ q => k c v q) (fun c q => by rw [upd_ne (ne_of_none q hn)]; exact q) fun c xs q => by rw [upd_ne (ne_of_none q hn)]; exact q
end

/-- what may be read as u: it is u, or a known u -/
def Rd (H : Hp) (a : Addr) (u : HO) : Prop := H a = some u ∨ ∃ o, H a = some (.frz o u)
theorem Rd.of {H : Hp} {a : Addr} {u : HO} (h : H a = some u) : Rd H a u := .inl h
theorem Rd.ok {P : Program} {w : World} {H : Hp} {h : Heap} {a : Addr} {u : HO} (r : Rd H a u) (x : HOk P w H h) : ObjOk P w H h a u := by
  rcases r with r | ⟨o, r⟩
  · exact x a u r
  · obtain ⟨_, q⟩ := x a _ r
    exact q
/-- what may be written -/
def Mut : Option HO → Prop
  | some (.lst _) => True
  | some (.dK _) => True
  | some (.dT _) => True
  | some (.set _ _) => True
  | some (.ins _ _ _) => True
  | some (.ext _) => True
  | _ => False
section
variable {P : Program} {w : World} {H : Hp} {h h' : Heap} {x e : Addr} {o' : HO}
/-- the object at e is changed: x itself, or the dict of the instance x -/
theorem HOk.write (ok : HOk P w H h) (mu : Mut (H x)) (he : e = x ∨ H e = some (.own x)) (k : ∀ b u, b ≠ e → h.get? b = some u → h'.get? b = some u) (heo : ∃ u, h'.get? e = some u)
    (new : ObjOk P w (upd H x o') h' x o') : HOk P w (upd H x o') h' := fun b u q => by
  have nown : ∀ c y, H c = some (.own y) → c ≠ x := fun c y r z => by subst z; rw [r] at mu; exact mu
  have ntup : ∀ c xs, H c = some (.tup xs) → c ≠ x := fun c xs r z => by subst z; rw [r] at mu; exact mu
  by_cases hb : b = x
  · subst hb; rw [upd_same] at q; cases q; exact new
  · rw [upd_ne hb] at q
    by_cases hbe : b = e
    · have q' : H b = some (.own x) := by
        rcases he with z | z
        · exact absurd (hbe.trans z) hb
        · rw [hbe]; exact z
      rw [q] at q'; cases q'
      obtain ⟨v, hv⟩ := heo
      exact ⟨v, by rw [hbe]; exact hv⟩
    · refine (ok b u q).stay (fun c v hc r => k c v ?_ r) (fun c r => by rw [upd_ne (nown c b r)]; exact r) fun c xs r => by rw [upd_ne (ntup c xs r)]; exact r
      rcases hc with rfl | hc
      · exact hbe
      · rintro rfl
        rcases he with z | z
        · exact nown c b hc z
        · rw [hc] at z; cases z; exact hb rfl
end

/-! ### kept unless tracked; of the frames at fs (the callers') the slots may change (an exception that passes writes there); of the records at ex (iterators) nothing is said -/
structure Un (fs ex : List Addr) (H H' : Hp) (h h' : Heap) : Prop where
  keep : ∀ b o, h.get? b = some o → H b = none → b ∉ fs → b ∉ ex → h'.get? b = some o
  slot : ∀ b o, h.get? b = some o → H b = none → b ∈ fs → b ∉ ex → ∃ sl, h'.get? b = some { o with slots := sl }
  free : ∀ b o, h.get? b = some o → H b = none → b ∉ ex → H' b = none
  there : ∀ b o, h.get? b = some o → b ∉ ex → ∃ o', h'.get? b = some o'
  tups : ∀ b xs, H b = some (.tup xs) → H' b = some (.tup xs)
  frzs : ∀ b o u, H b = some (.frz o u) → H' b = some (.frz o u)
  tbls : ∀ b ps, H b = some (.tbl ps) → ∃ more, H' b = some (.tbl (ps ++ more))
section
variable {fs fs' ex ex' : List Addr} {H H1 H2 : Hp} {h h1 h2 h' : Heap} {a x e : Addr} {o : HO}
theorem Un.any (u : Un fs ex H H1 h h1) {b : Addr} {ob : Obj} (q : h.get? b = some ob) (n : H b = none) (hx : b ∉ ex) : ∃ sl, h1.get? b = some { ob with slots := sl } := by
  by_cases hb : b ∈ fs
  · exact u.slot b ob q n hb hx
  · exact ⟨ob.slots, u.keep b ob q n hb hx⟩
theorem Un.trans (a : Un fs ex H H1 h h1) (b : Un fs ex H1 H2 h1 h2) : Un fs ex H H2 h h2 where
  keep := fun c ob q n hc hx => b.keep c ob (a.keep c ob q n hc hx) (a.free c ob q n hx) hc hx
  slot := fun c ob q n hc hx => by
    obtain ⟨sl, e1⟩ := a.slot c ob q n hc hx
    obtain ⟨sl', e2⟩ := b.slot c _ e1 (a.free c ob q n hx) hc hx
    exact ⟨sl', e2⟩
  free := fun c ob q n hx => by
    obtain ⟨o', e1⟩ := a.there c ob q hx
    exact b.free c o' e1 (a.free c ob q n hx) hx
  there := fun c ob q hx => by
    obtain ⟨o', e1⟩ := a.there c ob q hx
    exact b.there c o' e1 hx
  tups := fun c xs q => b.tups c xs (a.tups c xs q)
  frzs := fun c ob xs q => b.frzs c ob xs (a.frzs c ob xs q)
  tbls := fun c ps q => by
    obtain ⟨m1, e1⟩ := a.tbls c ps q
    obtain ⟨m2, e2⟩ := b.tbls c _ e1
    exact ⟨m1 ++ m2, by rw [e2, Array.append_assoc]⟩
theorem Un.kept (k : ∀ b u, h.get? b = some u → h'.get? b = some u) : Un fs ex H H h h' :=
  ⟨fun b ob q _ _ _ => k b ob q, fun b ob q _ _ _ => ⟨ob.slots, k b ob q⟩, fun _ _ _ n _ => n, fun b ob q _ => ⟨ob, k b ob q⟩, fun _ _ q => q, fun _ _ _ q => q, fun _ ps q => ⟨#[], by rw [q]; simp⟩⟩
theorem Un.refl : Un fs ex H H h h := Un.kept fun _ _ q => q
theorem Un.laid (k : ∀ b u, h.get? b = some u → h'.get? b = some u) (hp : h.objs.size ≤ a) (hn : H a = none) : Un fs ex H (upd H a o) h h' where
  keep := fun b u q _ _ _ => k b u q
  slot := fun b u q _ _ _ => ⟨u.slots, k b u q⟩
  free := fun b u q n _ => by rw [upd_ne (Nat.ne_of_lt (Nat.lt_of_lt_of_le (Heap.lt_size q) hp))]; exact n
  there := fun b u q _ => ⟨u, k b u q⟩
  tups := fun b xs q => by rw [upd_ne (ne_of_none q hn)]; exact q
  frzs := fun b u xs q => by rw [upd_ne (ne_of_none q hn)]; exact q
  tbls := fun b ps q => ⟨#[], by rw [upd_ne (ne_of_none q hn), q]; simp⟩
theorem Un.write (mu : Mut (H x)) (he : e = x ∨ H e = some (.own x)) (k : ∀ b u, b ≠ e → h.get? b = some u → h'.get? b = some u) (heo : ∃ u, h'.get? e = some u) : Un fs ex H (upd H x o) h h' := by
  have hx : ∀ b, H b = none → b ≠ x := fun b n z => by subst z; rw [n] at mu; exact mu
  have hb : ∀ b, H b = none → b ≠ e := fun b n z => by
    subst z
    rcases he with r | r
    · exact hx b n r
    · rw [n] at r; cases r
  have hm : ∀ b u, H b = some u → ¬ Mut (some u) → b ≠ x := fun b u q nm z => by subst z; rw [q] at mu; exact nm mu
  refine ⟨fun b u q n _ _ => k b u (hb b n) q, fun b u q n _ _ => ⟨u.slots, k b u (hb b n) q⟩, fun b u q n _ => by rw [upd_ne (hx b n)]; exact n, fun b u q _ => ?_,
    fun b xs q => by rw [upd_ne (hm b _ q fun z => z)]; exact q, fun b u xs q => by rw [upd_ne (hm b _ q fun z => z)]; exact q, fun b ps q => ⟨#[], by rw [upd_ne (hm b _ q fun z => z), q]; simp⟩⟩
  by_cases hbe : b = e
  · subst hbe; exact heo
  · exact ⟨u, k b u hbe q⟩
theorem Un.mono (u : Un fs ex H H1 h h1) (hs : ∀ b ∈ fs, b ∈ fs') (hx : ∀ b ∈ ex, b ∈ ex') : Un fs' ex' H H1 h h1 :=
  ⟨fun b ob q n hb he => u.keep b ob q n (fun z => hb (hs b z)) fun z => he (hx b z), fun _ _ q n _ he => u.any q n fun z => he (hx _ z), fun b ob q n he => u.free b ob q n fun z => he (hx b z), fun b ob q he => u.there b ob q fun z => he (hx b z), u.tups, u.frzs, u.tbls⟩
end

/-! ### the heap without what is tracked -/
def trk (h : Heap) (H : Hp) : List Addr := (List.range h.objs.size).filter fun a => (H a).isSome
def hidT (h : Heap) (H : Hp) : Heap := PySem.W.hideAll h (trk h H)
theorem hidT_size (h : Heap) (H : Hp) : (hidT h H).objs.size = h.objs.size := PySem.W.hideAll_size _ _
theorem hidT_get {h : Heap} {H : Hp} {b : Addr} {o : Obj} (e : h.get? b = some o) (n : H b = none) : (hidT h H).get? b = some o :=
  PySem.W.hideAll_get _ e fun hm => by
    have q : (H b).isSome = true := (List.mem_filter.mp hm).2
    rw [n] at q; simp at q
theorem of_hidT {h : Heap} {H : Hp} {b : Addr} {o : Obj} (e : (hidT h H).get? b = some o) : h.get? b = some o ∧ H b = none := by
  have e' : h.get? b = some o := PySem.W.of_hideAll (trk h H) e
  refine ⟨e', ?_⟩
  cases q : H b with
  | none => rfl
  | some x =>
    have hm : b ∈ trk h H := List.mem_filter.mpr ⟨List.mem_range.mpr (Heap.lt_size e'), by simp [q]⟩
    have z : (hidT h H).get? b = none := PySem.W.hideAll_none (trk h H) hm
    rw [z] at e; cases e

/-! ### OpenK's ledger, filled with every new object but one -/
def allNews (g h : Heap) (L : Addr) : List (Addr × Obj) := (List.range h.objs.size).filterMap fun a => if a = L ∨ (g.get? a).isSome = true then none else (h.get? a).map fun o => (a, o)
def rest (g h : Heap) (L d : Addr) : List (Addr × Obj) := (allNews g h L).filter fun p => decide (p.1 ≠ d)
end L2

namespace L2
open PySem PySem.Spec PyProof.Rows

/-- the module's facts, over the base: the heap at the law's entry without what is tracked there -/
structure Mod (K : PySem.W.Frag) (mg : Str → Option Value) (base : Heap) : Prop where
  kin : K.In base
  glob : base.Ns mainGlobals mg
  blt : ∃ mb, base.Ns builtinsNs mb ∧ ∀ x : Str, x ≠ "__name__" → mb x = bootBuiltins x
  nolimit : base.NoLimit

/-- the context: a def's body (or a comprehension's block) running. base: fixed through the whole law; s₀, H₀: the entry; outer: the frames whose slots others may change (a def's callers); stack: all frames that run;
   ex: iterators that were made ahead of the entry and are walked here (a comprehension's); fn: the names whose cells were made at the entry (a def: all; a comprehension's block: its own); calm: not within an except suite; pn: pins that every state bears; xe: what is wanted of an exception that leaves the code -/
structure Cx where
  prog : Program
  w : World
  K : PySem.W.Frag
  mg : Str → Option Value
  base : Heap
  A : Around
  N : List Str
  s₀ : Shared
  H₀ : Hp
  env : Env
  outer : List Env
  stack : List Env
  ex : List Addr
  fn : Str → Bool
  calm : Bool
  pn : List (Addr × Obj)
  xe : Value → Shared → Prop
/-- the callers' frames -/
def frs (l : List Env) : List Addr := l.filterMap (·.frame)
abbrev Cx.fs (X : Cx) : List Addr := frs X.outer

def Vis (sc : Scope) (x : Str) : Prop := sc.names.lookup x = some .local ∨ sc.names.lookup x = some .cell ∨ sc.names.lookup x = some .free
def Loc (sc : Scope) (x : Str) : Prop := sc.names.lookup x = some .local ∨ sc.names.lookup x = some .cell
def Look (env : Env) (h : Heap) (m : Str → Option Value) (x : Str) (u : Value) : Prop :=
  (env.kindOf x = some .local ∧ m x = some u) ∨ ((env.kindOf x = some .cell ∨ env.kindOf x = some .free) ∧ ∃ c, env.cells.lookup x = some c ∧ h.IsCell c (some u))

structure Cx.Ok (X : Cx) : Prop where
  mod : Mod X.K X.mg X.base
  kind : X.env.scope.kind = .function
  glob : X.env.globals = mainGlobals
  blt : X.env.builtins = builtinsNs
  above : X.s₀.heap.objs.size ≤ X.env.locals
  inj : ∀ x y c, X.env.cells.lookup x = some c → X.env.cells.lookup y = some c → x = y
  has : ∀ x, (X.env.kindOf x = some .cell ∨ X.env.kindOf x = some .free) → ∃ c, X.env.cells.lookup x = some c
  cab : ∀ x c, X.fn x = true → X.env.cells.lookup x = some c → X.s₀.heap.objs.size ≤ c
  hd : X.calm = true → X.A.handled = none
  frames : X.A.frames = some X.stack
  stk : X.stack = X.outer ∨ (X.stack = X.env :: X.outer ∧ X.env.frame = some X.env.locals)
  exf : ∀ b ∈ X.ex, b ≠ X.env.locals ∧ ∀ x c, X.env.cells.lookup x = some c → c ≠ b
  bs : ∀ b o, X.base.get? b = some o → X.s₀.heap.get? b = some o ∧ X.H₀ b = none
  bsz : X.base.objs.size ≤ X.s₀.heap.objs.size
  noex : ∀ b o, X.base.get? b = some o → b ∉ X.ex
  exfs : ∀ b ∈ X.ex, b ∉ X.fs
  funs : X.s₀.heap.FunFrames X.base X.outer
  frf : ∀ b ∈ X.fs, X.H₀ b = none

structure Inv (X : Cx) (pins : List (Addr × Obj)) (σ : List (Option V)) (H : Hp) (s : Shared) : Prop where
  ok : X.Ok
  os : s.os = X.s₀.os
  bare : AllBare s.gens
  base : Un X.fs X.ex X.H₀ H X.s₀.heap s.heap
  loc : ∃ m, s.heap.Ns X.env.locals m ∧ ∀ (i : Nat) (x : Str) (v : V), X.N[i]? = some x → σ[i]? = some (some v) → Vis X.env.scope x → ∃ u, RelV v u ∧ Look X.env s.heap m x u
  cell : ∀ x c, X.env.cells.lookup x = some c → ∃ v, s.heap.IsCell c v
  free : H X.env.locals = none
  freeC : ∀ x c, X.env.cells.lookup x = some c → H c = none
  pin : ∀ p ∈ X.pn ++ pins, s.heap.get? p.1 = some p.2 ∧ H p.1 = none ∧ p.1 ≠ X.env.locals ∧ p.1 ∉ X.fs ∧ ∀ v, p.2.data ≠ .cell v
  hok : HOk X.prog X.w H s.heap
  len : σ.length = X.N.length

section
variable {X : Cx} {pins : List (Addr × Obj)} {σ : List (Option V)} {H H' : Hp} {s : Shared} {h' : Heap}

theorem Cx.Ok.nofr (ok : X.Ok) {b : Addr} {o : Obj} (e : X.base.get? b = some o) : b ∉ X.fs := fun hb => by
  have := (ok.funs.mem hb).1
  rw [e] at this; cases this
theorem Inv.bs (I : Inv X pins σ H s) : ∀ b o, X.base.get? b = some o → s.heap.get? b = some o ∧ H b = none := fun b o e =>
  ⟨I.base.keep b o (I.ok.bs b o e).1 (I.ok.bs b o e).2 (I.ok.nofr e) (I.ok.noex b o e), I.base.free b o (I.ok.bs b o e).1 (I.ok.bs b o e).2 (I.ok.noex b o e)⟩
theorem Inv.bk (I : Inv X pins σ H s) : ∀ b o, X.base.get? b = some o → s.heap.get? b = some o := fun b o e => (I.bs b o e).1
theorem Inv.mod (I : Inv X pins σ H s) : Mod X.K X.mg X.base := I.ok.mod
theorem Inv.kIn (I : Inv X pins σ H s) : X.K.In s.heap := I.ok.mod.kin.keeps I.bk
theorem Inv.nolimit (I : Inv X pins σ H s) : s.heap.NoLimit := I.ok.mod.nolimit.keeps I.bk
/-- the frame over the base: for OpenK's rules (K.In X.base is I.mod.kin) -/
theorem Inv.fr (I : Inv X pins σ H s) : ∃ m, Fr X.base X.env.locals s.heap m :=
  let ⟨m, hn, _⟩ := I.loc
  ⟨m, hn, I.bk, Nat.le_trans I.ok.bsz I.ok.above⟩
theorem Inv.lt (I : Inv X pins σ H s) : X.env.locals < s.heap.objs.size := let ⟨_, hn, _⟩ := I.loc; hn.lt
theorem Inv.sz (I : Inv X pins σ H s) : X.s₀.heap.objs.size ≤ s.heap.objs.size := Nat.le_trans I.ok.above (Nat.le_of_lt I.lt)
theorem Inv.nofs (I : Inv X pins σ H s) {a : Addr} (h : s.heap.objs.size ≤ a) : a ∉ X.fs := fun hb => by
  obtain ⟨_, o, ho, _⟩ := I.ok.funs.mem hb
  exact absurd (Nat.lt_of_lt_of_le (Heap.lt_size ho) (Nat.le_trans I.sz h)) (Nat.lt_irrefl _)
theorem Inv.cne (I : Inv X pins σ H s) : ∀ x c, X.env.cells.lookup x = some c → c ≠ X.env.locals := fun x c e z => by
  obtain ⟨v, o, ho, hd⟩ := I.cell x c e
  obtain ⟨m, ⟨o', es, ep, ho', hd', _⟩, _⟩ := I.loc
  rw [z, ho'] at ho; cases ho; rw [hd'] at hd; cases hd
theorem Inv.funs (I : Inv X pins σ H s) : s.heap.FunFrames X.base X.outer := by
  have all : ∀ (l : List Env), (∀ b ∈ frs l, b ∈ X.fs) → X.s₀.heap.FunFrames X.base l → s.heap.FunFrames X.base l := by
    intro l
    induction l with
    | nil => intro _ _; trivial
    | cons env r ih =>
      intro hs hl
      obtain ⟨hk, ⟨L, o, hf, hn, ho, hd⟩, hr⟩ := hl
      have hL : L ∈ X.fs := hs L (by unfold frs; rw [List.filterMap_cons, hf]; exact List.mem_cons_self)
      obtain ⟨sl, e⟩ := I.base.slot L o ho (I.ok.frf L hL) hL fun z => I.ok.exfs L z hL
      exact ⟨hk, ⟨L, _, hf, hn, e, hd⟩, ih (fun b hb => hs b (by unfold frs; rw [List.filterMap_cons, hf]; exact List.mem_cons_of_mem _ hb)) hr⟩
  exact all X.outer (fun _ hb => hb) I.ok.funs

/-- the frames that run, for a call -/
theorem Inv.stack (I : Inv X pins σ H s) : s.heap.FunFrames X.base X.stack := by
  rcases I.ok.stk with e | ⟨e, hf⟩
  · rw [e]; exact I.funs
  · rw [e]
    obtain ⟨m, hn, _⟩ := I.loc
    refine .cons (by rw [I.ok.kind]; decide) hf hn ?_ I.funs
    exact Heap.get?_none_of_le (Nat.le_trans I.ok.bsz I.ok.above)
theorem Inv.stkSub (I : Inv X pins σ H s) : ∀ b ∈ frs X.stack, b ∈ X.env.locals :: X.fs := fun b hb => by
  rcases I.ok.stk with e | ⟨e, hf⟩
  · rw [e] at hb; exact List.mem_cons_of_mem _ hb
  · rw [e] at hb
    unfold frs at hb
    rw [List.filterMap_cons, hf] at hb
    exact hb
theorem Inv.stkFree (I : Inv X pins σ H s) : ∀ b ∈ frs X.stack, H b = none := fun b hb => by
  rcases List.mem_cons.mp (I.stkSub b hb) with e | hb
  · rw [e]; exact I.free
  · obtain ⟨_, o, ho, _⟩ := I.ok.funs.mem hb
    exact I.base.free b o ho (I.ok.frf b hb) fun z => I.ok.exfs b z hb

/-- THE STEP: the untracked objects but the frame and the records at ch are kept (the callers' frames up to slots), the frame's map is kept, the new abstract heap is held -/
theorem Inv.step {g' : Array GenState} {t' : Nat} {d' : Drawn} {ch : List Addr} (I : Inv X pins σ H s)
    (hch : ∀ b ∈ ch, (b ∈ X.ex ∨ X.s₀.heap.objs.size ≤ b) ∧ b ≠ X.env.locals ∧ (∀ x c, X.env.cells.lookup x = some c → c ≠ b) ∧ ∀ p ∈ X.pn ++ pins, p.1 ≠ b)
    (keep : ∀ b o, b ≠ X.env.locals → b ∉ X.fs → b ∉ ch → s.heap.get? b = some o → H b = none → h'.get? b = some o)
    (slot : ∀ b o, b ≠ X.env.locals → b ∈ X.fs → b ∉ ch → s.heap.get? b = some o → H b = none → ∃ sl, h'.get? b = some { o with slots := sl }) (free : ∀ b o, b ∉ ch → s.heap.get? b = some o → H b = none → H' b = none)
    (there : ∀ b o, b ∉ ch → s.heap.get? b = some o → ∃ o', h'.get? b = some o')
    (tups : ∀ b xs, H b = some (.tup xs) → H' b = some (.tup xs)) (frzs : ∀ b o u, H b = some (.frz o u) → H' b = some (.frz o u)) (tbls : ∀ b ps, H b = some (.tbl ps) → ∃ more, H' b = some (.tbl (ps ++ more)))
    (ns : ∀ m, s.heap.Ns X.env.locals m → h'.Ns X.env.locals m) (hok : HOk X.prog X.w H' h') (hg : AllBare g') :
    Inv X pins σ H' { s with heap := h', gens := g', drawn := d', toks := t' } := by
  have neL : ∀ b o, X.s₀.heap.get? b = some o → b ≠ X.env.locals := fun b o e => Nat.ne_of_lt (Nat.lt_of_lt_of_le (Heap.lt_size e) I.ok.above)
  have neC : ∀ b o, X.s₀.heap.get? b = some o → b ∉ X.ex → b ∉ ch := fun b o e hx hb => by
    rcases (hch b hb).1 with z | z
    · exact hx z
    · exact absurd (Nat.lt_of_lt_of_le (Heap.lt_size e) z) (Nat.lt_irrefl _)
  have cellK : ∀ x c, X.env.cells.lookup x = some c → ∀ v, s.heap.IsCell c v → h'.IsCell c v := fun x c e v ⟨o, ho, hd⟩ => by
    have nch : c ∉ ch := fun z => (hch c z).2.2.1 x c e rfl
    by_cases hc : c ∈ X.fs
    · obtain ⟨sl, q⟩ := slot c o (I.cne x c e) hc nch ho (I.freeC x c e)
      exact ⟨_, q, hd⟩
    · exact ⟨o, keep c o (I.cne x c e) hc nch ho (I.freeC x c e), hd⟩
  refine ⟨I.ok, I.os, hg, ⟨fun b o e n hb hx => ?_, fun b o e n hb hx => ?_, fun b o e n hx => ?_, fun b o e hx => ?_, fun b xs e => tups b xs (I.base.tups b xs e), fun b o xs e => frzs b o xs (I.base.frzs b o xs e), fun b ps e => ?_⟩, ?_, fun x c e => ?_, ?_, fun x c e => ?_, fun p hp => ?_, hok, I.len⟩
  · exact keep b o (neL b o e) hb (neC b o e hx) (I.base.keep b o e n hb hx) (I.base.free b o e n hx)
  · obtain ⟨sl, e1⟩ := I.base.slot b o e n hb hx
    obtain ⟨sl', e2⟩ := slot b _ (neL b o e) hb (neC b o e hx) e1 (I.base.free b o e n hx)
    exact ⟨sl', e2⟩
  · obtain ⟨o', e1⟩ := I.base.there b o e hx
    exact free b o' (neC b o e hx) e1 (I.base.free b o e n hx)
  · obtain ⟨o', e1⟩ := I.base.there b o e hx
    exact there b o' (neC b o e hx) e1
  · obtain ⟨m1, e1⟩ := I.base.tbls b ps e
    obtain ⟨m2, e2⟩ := tbls b _ e1
    exact ⟨m1 ++ m2, by rw [e2, Array.append_assoc]⟩
  · obtain ⟨m, hn, hl⟩ := I.loc
    refine ⟨m, ns m hn, fun i x v e1 e2 e3 => ?_⟩
    obtain ⟨u, r, l⟩ := hl i x v e1 e2 e3
    refine ⟨u, r, ?_⟩
    rcases l with l | ⟨k, c, e, z⟩
    · exact .inl l
    · exact .inr ⟨k, c, e, cellK x c e _ z⟩
  · obtain ⟨v, z⟩ := I.cell x c e
    exact ⟨v, cellK x c e v z⟩
  · obtain ⟨m, ⟨o, _, _, ho, _⟩, _⟩ := I.loc
    exact free _ o (fun z => (hch _ z).2.1 rfl) ho I.free
  · obtain ⟨v, o, ho, hd⟩ := I.cell x c e
    exact free c o (fun z => (hch c z).2.2.1 x c e rfl) ho (I.freeC x c e)
  · obtain ⟨e, n, ne, nf, d⟩ := I.pin p hp
    have nch : p.1 ∉ ch := fun z => (hch p.1 z).2.2.2 p hp rfl
    exact ⟨keep p.1 p.2 ne nf nch e n, free p.1 p.2 nch e n, ne, nf, d⟩
/-- .. where the frame's own object is kept too -/
theorem Inv.un {t' : Nat} (I : Inv X pins σ H s) (u : Un X.fs [] H H' s.heap h') (hok : HOk X.prog X.w H' h') : Inv X pins σ H' { s with heap := h', toks := t' } := by
  obtain ⟨m, ⟨o, es, ep, ho, r⟩, _⟩ := id I.loc
  obtain ⟨sl, hL⟩ := u.any ho I.free (by simp)
  exact I.step (g' := s.gens) (d' := s.drawn) (ch := []) (fun _ z => nomatch z) (fun b o _ hb _ e n => u.keep b o e n hb (by simp)) (fun b o _ hb _ e n => u.slot b o e n hb (by simp)) (fun b o _ e n => u.free b o e n (by simp)) (fun b o _ e => u.there b o e (by simp)) u.tups u.frzs u.tbls (fun m' hm => by
    obtain ⟨o', es', ep', ho', r'⟩ := hm
    rw [ho] at ho'; cases ho'
    exact ⟨_, es', ep', hL, r'⟩) hok I.bare
/-- behind a call (or a comprehension's block): the slots of this frame may have changed too, the records at ch may have turned -/
theorem Inv.call {g' : Array GenState} {t' : Nat} {d' : Drawn} {ch : List Addr} (I : Inv X pins σ H s) (u : Un (frs X.stack) ch H H' s.heap h') (hok : HOk X.prog X.w H' h') (hg : AllBare g')
    (hch : ∀ b ∈ ch, (b ∈ X.ex ∨ X.s₀.heap.objs.size ≤ b) ∧ b ≠ X.env.locals ∧ (∀ x c, X.env.cells.lookup x = some c → c ≠ b) ∧ ∀ p ∈ X.pn ++ pins, p.1 ≠ b) :
    Inv X pins σ H' { s with heap := h', gens := g', drawn := d', toks := t' } := by
  obtain ⟨m, ⟨o, es, ep, ho, r⟩, _⟩ := id I.loc
  obtain ⟨sl, hL⟩ := u.any ho I.free fun z => (hch _ z).2.1 rfl
  exact I.step (ch := ch) hch (fun b o hL hb hc e n => u.keep b o e n (fun z => (List.mem_cons.mp (I.stkSub b z)).elim hL hb) hc) (fun b o _ _ hc e n => u.any e n hc) (fun b o hc e n => u.free b o e n hc) (fun b o hc e => u.there b o e hc) u.tups u.frzs u.tbls (fun m' hm => by
    obtain ⟨o', es', ep', ho', r'⟩ := hm
    rw [ho] at ho'; cases ho'
    exact ⟨_, es', ep', hL, r'⟩) hok hg
/-- an untracked record of ours (an iterator) has turned -/
theorem Inv.turned {t' : Nat} {it : Addr} (I : Inv X pins σ H s) (k : ∀ b o, b ≠ it → s.heap.get? b = some o → h'.get? b = some o) (hn : H it = none) (hL : it ≠ X.env.locals)
    (h1 : it ∈ X.ex ∨ X.s₀.heap.objs.size ≤ it) (h2 : ∀ x c, X.env.cells.lookup x = some c → c ≠ it) (h3 : ∀ p ∈ X.pn ++ pins, p.1 ≠ it) : Inv X pins σ H { s with heap := h', toks := t' } := by
  have nit : ∀ b u, H b = some u → b ≠ it := fun b u e z => by rw [z, hn] at e; cases e
  refine I.step (g' := s.gens) (d' := s.drawn) (ch := [it]) (fun b hb => ?_) (fun b o _ _ hc e _ => k b o (fun z => hc (by simp [z])) e) (fun b o _ _ hc e _ => ⟨o.slots, k b o (fun z => hc (by simp [z])) e⟩) (fun _ _ _ _ n => n)
    (fun b o hc e => ⟨o, k b o (fun z => hc (by simp [z])) e⟩) (fun _ _ e => e) (fun _ _ _ e => e) (fun b ps e => ⟨#[], by rw [e]; simp⟩) (fun m hm => ?_) (fun b u e => ?_) I.bare
  · have e : b = it := by simpa using hb
    subst e
    exact ⟨h1, hL, h2, h3⟩
  · obtain ⟨o, es, ep, ho, r⟩ := hm
    exact ⟨o, es, ep, k _ o (Ne.symm hL) ho, r⟩
  · refine (I.hok b u e).stay (fun c v hc q => k c v ?_ q) (fun _ q => q) fun _ _ q => q
    rcases hc with z | z
    · rw [z]; exact nit b u e
    · exact nit c _ z
theorem Inv.tok (I : Inv X pins σ H s) (t : Nat) : Inv X pins σ H { s with toks := t } := I.un (h' := s.heap) (t' := t) Un.refl I.hok
/-- all objects kept -/
theorem Inv.kept {t' : Nat} (I : Inv X pins σ H s) (k : ∀ b u, s.heap.get? b = some u → h'.get? b = some u) : Inv X pins σ H { s with heap := h', toks := t' } := I.un (Un.kept k) (I.hok.kept k)
/-- a new object laid and tracked -/
theorem Inv.laid {a : Addr} {o : HO} {t' : Nat} (I : Inv X pins σ H s) (k : ∀ b u, s.heap.get? b = some u → h'.get? b = some u) (hp : s.heap.objs.size ≤ a) (new : ObjOk X.prog X.w (upd H a o) h' a o) :
    Inv X pins σ (upd H a o) { s with heap := h', toks := t' } := I.un (Un.laid k hp (I.hok.fresh hp)) (I.hok.laid k hp new)
/-- an object written -/
theorem Inv.write {x e : Addr} {o : HO} {t' : Nat} (I : Inv X pins σ H s) (mu : Mut (H x)) (he : e = x ∨ H e = some (.own x)) (k : ∀ b u, b ≠ e → s.heap.get? b = some u → h'.get? b = some u) (heo : ∃ u, h'.get? e = some u)
    (new : ObjOk X.prog X.w (upd H x o) h' x o) : Inv X pins σ (upd H x o) { s with heap := h', toks := t' } := I.un (Un.write mu he k heo) (I.hok.write mu he k heo new)
/-- forgetting slots, pins -/
theorem Inv.weak {σ' : List (Option V)} (I : Inv X pins σ H s) (hl : σ'.length = σ.length) (w : ∀ (i : Nat) v, σ'[i]? = some (some v) → σ[i]? = some (some v)) : Inv X pins σ' H s :=
  ⟨I.ok, I.os, I.bare, I.base, let ⟨m, hn, hl'⟩ := I.loc; ⟨m, hn, fun i x v e1 e2 e3 => hl' i x v e1 (w i v e2) e3⟩, I.cell, I.free, I.freeC, I.pin, I.hok, hl.trans I.len⟩
theorem Inv.pins_of {pins' : List (Addr × Obj)} (I : Inv X pins σ H s) (h : ∀ p ∈ pins', s.heap.get? p.1 = some p.2 ∧ H p.1 = none ∧ p.1 ≠ X.env.locals ∧ p.1 ∉ X.fs ∧ ∀ v, p.2.data ≠ .cell v) : Inv X pins' σ H s :=
  ⟨I.ok, I.os, I.bare, I.base, I.loc, I.cell, I.free, I.freeC, fun p hp => (List.mem_append.mp hp).elim (fun z => I.pin p (List.mem_append_left _ z)) (h p), I.hok, I.len⟩

theorem nodup_ix {N : List Str} (hN : N.Nodup) {i j : Nat} {x : Str} (a : N[i]? = some x) (b : N[j]? = some x) : i = j := by
  obtain ⟨h1, e1⟩ := List.getElem?_eq_some_iff.mp a
  obtain ⟨h2, e2⟩ := List.getElem?_eq_some_iff.mp b
  exact (List.getElem_inj hN).mp (e1.trans e2.symm)

/-- a name is stored; what changed -/
theorem store_ok2 {M : Model} {A : Around} {E : Value → Shared → Prop} {i : Nat} {x : Str} {v : V} {u : Value} {Q : Unit → Shared → Prop} (I : Inv X pins σ H s) (hN : X.N.Nodup) (hi : X.N[i]? = some x) (hx : Loc X.env.scope x) (r : RelV v u)
    (h : ∀ s', Inv X pins (σ.set i (some v)) H s' → (∃ a, Heap.SameBut a s.heap s'.heap ∧ (a = X.env.locals ∨ X.env.cells.lookup x = some a)) → Q () s') (hf : X.fn x = true ∨ X.env.scope.names.lookup x = some .local := by first | exact .inl rfl | exact .inr rfl | assumption) : wpAny M A (storeName X.env x u) Q E s := by
  obtain ⟨m, hn, hl⟩ := id I.loc
  have hcls : (X.env.scope.kind == .class || (X.env.scope.kind == .module && X.env.locals != X.env.globals)) = false := by rw [I.ok.kind]; rfl
  have hiσ : i < σ.length := by rw [I.len]; exact (List.getElem?_eq_some_iff.mp hi).1
  have cne := I.cne
  have tracked : ∀ {a : Addr} {h' : Heap}, (∃ o, s.heap.get? a = some o ∧ H a = none) → Heap.SameBut a s.heap h' → HOk X.prog X.w H h' := fun {a h'} ha hs b ob e => by
    obtain ⟨_, _, hfree⟩ := ha
    refine (I.hok b ob e).stay (fun c w' hc q => (hs.2 c ?_).trans q) (fun _ q => q) fun _ _ q => q
    rintro rfl
    rcases hc with rfl | hc
    · rw [hfree] at e; cases e
    · rw [hfree] at hc; cases hc
  rcases hx with hk | hk
  · refine wpAny_storeName_local hk hn (fun h' hn' hs => ?_) hcls
    obtain ⟨oL, _, _, hoL, _⟩ := id hn
    refine h _ ⟨I.ok, I.os, I.bare, ⟨fun b o e n hb hx => ?_, fun b o e n hb hx => ?_, I.base.free, fun b o e hx => ?_, I.base.tups, I.base.frzs, I.base.tbls⟩, ⟨_, hn', fun j y v' e1 e2 e3 => ?_⟩, fun y c e => ?_, I.free, I.freeC, fun p hp => ?_, tracked ⟨oL, hoL, I.free⟩ hs, by simpa using I.len⟩ ⟨_, hs, .inl rfl⟩
    · exact (hs.2 b (Nat.ne_of_lt (Nat.lt_of_lt_of_le (Heap.lt_size e) I.ok.above))).trans (I.base.keep b o e n hb hx)
    · obtain ⟨sl, e1⟩ := I.base.slot b o e n hb hx
      exact ⟨sl, (hs.2 b (Nat.ne_of_lt (Nat.lt_of_lt_of_le (Heap.lt_size e) I.ok.above))).trans e1⟩
    · obtain ⟨o', e1⟩ := I.base.there b o e hx
      exact ⟨o', (hs.2 b (Nat.ne_of_lt (Nat.lt_of_lt_of_le (Heap.lt_size e) I.ok.above))).trans e1⟩
    · by_cases hj : j = i
      · subst hj
        rw [hi] at e1; cases e1
        rw [List.getElem?_set_self hiσ] at e2
        cases e2
        exact ⟨u, r, .inl ⟨hk, by simp⟩⟩
      · rw [List.getElem?_set_ne (Ne.symm hj)] at e2
        obtain ⟨u', r', q⟩ := hl j y v' e1 e2 e3
        refine ⟨u', r', ?_⟩
        rcases q with ⟨k, e⟩ | ⟨k, c, e, z⟩
        · refine .inl ⟨k, ?_⟩
          have : y ≠ x := fun e => hj (nodup_ix hN e1 (e ▸ hi))
          simp [this, e]
        · exact .inr ⟨k, c, e, z.sameBut hs (cne y c e)⟩
    · obtain ⟨w', z⟩ := I.cell y c e
      exact ⟨w', z.sameBut hs (cne y c e)⟩
    · obtain ⟨e, n, ne, nf, d⟩ := I.pin p hp
      exact ⟨(hs.2 p.1 ne).trans e, n, ne, nf, d⟩
  · have hfn : X.fn x = true := by
      rcases hf with z | z
      · exact z
      · rw [z] at hk; cases hk
    obtain ⟨c, hc⟩ := I.ok.has x (.inl hk)
    obtain ⟨w', z⟩ := I.cell x c hc
    refine wpAny_storeName_cell I.ok.kind hk hc z (fun h' hc' hs => ?_)
    obtain ⟨oc, hoc, hocd⟩ := id z
    refine h { s with heap := h' } ⟨I.ok, I.os, I.bare, ⟨fun b o e n hb hx => ?_, fun b o e n hb hx => ?_, I.base.free, fun b o e hx => ?_, I.base.tups, I.base.frzs, I.base.tbls⟩, ⟨m, hn.sameBut hs (Ne.symm (cne x c hc)), fun j y v' e1 e2 e3 => ?_⟩, fun y c' e => ?_, I.free, I.freeC, fun p hp => ?_, tracked ⟨oc, hoc, I.freeC x c hc⟩ hs, by simpa using I.len⟩ ⟨c, hs, .inr hc⟩
    · exact (hs.2 b (Nat.ne_of_lt (Nat.lt_of_lt_of_le (Heap.lt_size e) (I.ok.cab x c hfn hc)))).trans (I.base.keep b o e n hb hx)
    · obtain ⟨sl, e1⟩ := I.base.slot b o e n hb hx
      exact ⟨sl, (hs.2 b (Nat.ne_of_lt (Nat.lt_of_lt_of_le (Heap.lt_size e) (I.ok.cab x c hfn hc)))).trans e1⟩
    · obtain ⟨o', e1⟩ := I.base.there b o e hx
      exact ⟨o', (hs.2 b (Nat.ne_of_lt (Nat.lt_of_lt_of_le (Heap.lt_size e) (I.ok.cab x c hfn hc)))).trans e1⟩
    · by_cases hj : j = i
      · subst hj
        rw [hi] at e1; cases e1
        rw [List.getElem?_set_self hiσ] at e2
        cases e2
        exact ⟨u, r, .inr ⟨.inl hk, c, hc, hc'⟩⟩
      · rw [List.getElem?_set_ne (Ne.symm hj)] at e2
        obtain ⟨u', r', q⟩ := hl j y v' e1 e2 e3
        refine ⟨u', r', ?_⟩
        rcases q with q | ⟨k, c', e, z'⟩
        · exact .inl q
        · refine .inr ⟨k, c', e, z'.sameBut hs ?_⟩
          rintro rfl
          exact hj (nodup_ix hN e1 (I.ok.inj _ _ _ e hc ▸ hi))
    · by_cases hcc : c' = c
      · subst hcc; exact ⟨_, hc'⟩
      · obtain ⟨w2, z2⟩ := I.cell y c' e
        exact ⟨w2, z2.sameBut hs hcc⟩
    · obtain ⟨e, n, ne, nf, d⟩ := I.pin p hp
      refine ⟨(hs.2 p.1 ?_).trans e, n, ne, nf, d⟩
      intro q
      rw [q, hoc] at e
      have q' : oc = p.2 := Option.some.inj e
      exact d w' (by rw [← q']; exact hocd)
theorem store_ok {M : Model} {A : Around} {E : Value → Shared → Prop} {i : Nat} {x : Str} {v : V} {u : Value} {Q : Unit → Shared → Prop} (I : Inv X pins σ H s) (hN : X.N.Nodup) (hi : X.N[i]? = some x) (hx : Loc X.env.scope x) (r : RelV v u)
    (h : ∀ s', Inv X pins (σ.set i (some v)) H s' → Q () s') (hf : X.fn x = true ∨ X.env.scope.names.lookup x = some .local := by first | exact .inl rfl | exact .inr rfl | assumption) : wpAny M A (storeName X.env x u) Q E s :=
  store_ok2 I hN hi hx r (fun s' I' _ => h s' I') hf
/-- behind a call or a block, the state as it is -/
theorem Inv.call' {s' : Shared} {ch : List Addr} (I : Inv X pins σ H s) (ho : s'.os = s.os) (u : Un (frs X.stack) ch H H' s.heap s'.heap) (hok : HOk X.prog X.w H' s'.heap) (hg : AllBare s'.gens)
    (hch : ∀ b ∈ ch, (b ∈ X.ex ∨ X.s₀.heap.objs.size ≤ b) ∧ b ≠ X.env.locals ∧ (∀ x c, X.env.cells.lookup x = some c → c ≠ b) ∧ ∀ p ∈ X.pn ++ pins, p.1 ≠ b) : Inv X pins σ H' s' := by
  obtain ⟨h', g', d', t', o'⟩ := s'
  have e : o' = s.os := ho
  subst e
  exact I.call (g' := g') (t' := t') (d' := d') u hok hg hch
end

/-! ### the judgements -/
/-- an exception: its class, its own dict's address (where it has one), the abstract heap behind it -/
abbrev XK := Value → Option Addr → Hp → Prop
abbrev St := List (Option V)
abbrev VK := V → Hp → Prop
/-- an expression's reading; a test's; an argument list's -/
abbrev TE := St → Hp → VK → Prop
abbrev TT := St → Hp → (Bool → Hp → Prop) → Prop
abbrev TA := St → Hp → (List V → Hp → Prop) → Prop
/-- what is wanted behind a statement -/
structure Ends where
  nx : St → Hp → Prop
  rt : VK
  bk : St → Hp → Prop := fun _ _ => False
  ct : St → Hp → Prop := fun _ _ => False
abbrev TS := Ends → St → Hp → Prop

def EP (X : Cx) (pins : List (Addr × Obj)) (σ : St) (Q : VK) (u : Value) (s' : Shared) : Prop := ∃ v H', Inv X pins σ H' s' ∧ RelV v u ∧ Q v H'
def TP (X : Cx) (pins : List (Addr × Obj)) (σ : St) (Q : Bool → Hp → Prop) (b : Bool) (s' : Shared) : Prop := ∃ H', Inv X pins σ H' s' ∧ Q b H'
def AP (X : Cx) (pins : List (Addr × Obj)) (σ : St) (Q : List V → Hp → Prop) (us : List Value) (s' : Shared) : Prop := ∃ vs H', Inv X pins σ H' s' ∧ Vals vs us ∧ Q vs H'
def SP (X : Cx) (pins : List (Addr × Obj)) (D : Ends) (f : Flow) (s' : Shared) : Prop :=
  match f with
  | .next => ∃ σ' H', Inv X pins σ' H' s' ∧ D.nx σ' H'
  | .brk => ∃ σ' H', Inv X pins σ' H' s' ∧ D.bk σ' H'
  | .cont => ∃ σ' H', Inv X pins σ' H' s' ∧ D.ct σ' H'
  | .ret u => ∃ v σ' H', Inv X pins σ' H' s' ∧ RelV v u ∧ D.rt v H'

structure PE (X : Cx) (e : Expr) (t : TE) : Prop where
  mk ::
  go :
  ∀ (pins : List (Addr × Obj)) (s : Shared) (σ : St) (H : Hp) (Q : VK), Inv X pins σ H s → t σ H Q → wpAny (model X.prog X.w) X.A (eval e X.env) (EP X pins σ Q) X.xe s
instance {X : Cx} {e : Expr} {t : TE} : CoeFun (PE X e t) (fun _ =>
  ∀ (pins : List (Addr × Obj)) (s : Shared) (σ : St) (H : Hp) (Q : VK), Inv X pins σ H s → t σ H Q → wpAny (model X.prog X.w) X.A (eval e X.env) (EP X pins σ Q) X.xe s) := ⟨PE.go⟩
structure PT (X : Cx) (e : Expr) (t : TT) : Prop where
  mk ::
  go :
  ∀ (pins : List (Addr × Obj)) (s : Shared) (σ : St) (H : Hp) (Q : Bool → Hp → Prop), Inv X pins σ H s → t σ H Q → wpAny (model X.prog X.w) X.A (isTrue e X.env (eval e X.env)) (TP X pins σ Q) X.xe s
instance {X : Cx} {e : Expr} {t : TT} : CoeFun (PT X e t) (fun _ =>
  ∀ (pins : List (Addr × Obj)) (s : Shared) (σ : St) (H : Hp) (Q : Bool → Hp → Prop), Inv X pins σ H s → t σ H Q → wpAny (model X.prog X.w) X.A (isTrue e X.env (eval e X.env)) (TP X pins σ Q) X.xe s) := ⟨PT.go⟩
/-- a test whatever its 'whole' is (and, or) -/
structure PW (X : Cx) (e : Expr) (t : TT) : Prop where
  mk ::
  go :
  ∀ (whole : Sem Value) (pins : List (Addr × Obj)) (s : Shared) (σ : St) (H : Hp) (Q : Bool → Hp → Prop), Inv X pins σ H s → t σ H Q → wpAny (model X.prog X.w) X.A (isTrue e X.env whole) (TP X pins σ Q) X.xe s
instance {X : Cx} {e : Expr} {t : TT} : CoeFun (PW X e t) (fun _ =>
  ∀ (whole : Sem Value) (pins : List (Addr × Obj)) (s : Shared) (σ : St) (H : Hp) (Q : Bool → Hp → Prop), Inv X pins σ H s → t σ H Q → wpAny (model X.prog X.w) X.A (isTrue e X.env whole) (TP X pins σ Q) X.xe s) := ⟨PW.go⟩
theorem PW.pt {X : Cx} {e : Expr} {t : TT} (h : PW X e t) : PT X e t := .mk <| h _
/-- an argument list (no star), from the left -/
structure PA (X : Cx) (es : List Expr) (t : TA) : Prop where
  mk ::
  go :
  ∀ (pos : Pos) (pins : List (Addr × Obj)) (s : Shared) (σ : St) (H : Hp) (Q : List V → Hp → Prop), Inv X pins σ H s → t σ H Q → wpAny (model X.prog X.w) X.A (spliced (backTo pos (starEach es X.env))) (AP X pins σ Q) X.xe s
instance {X : Cx} {es : List Expr} {t : TA} : CoeFun (PA X es t) (fun _ =>
  ∀ (pos : Pos) (pins : List (Addr × Obj)) (s : Shared) (σ : St) (H : Hp) (Q : List V → Hp → Prop), Inv X pins σ H s → t σ H Q → wpAny (model X.prog X.w) X.A (spliced (backTo pos (starEach es X.env))) (AP X pins σ Q) X.xe s) := ⟨PA.go⟩
structure PS (X : Cx) (st : Stmt) (t : TS) : Prop where
  mk ::
  go :
  ∀ (pins : List (Addr × Obj)) (s : Shared) (σ : St) (H : Hp) (D : Ends), Inv X pins σ H s → t D σ H → wpAny (model X.prog X.w) X.A (exec st X.env) (SP X pins D) X.xe s
instance {X : Cx} {st : Stmt} {t : TS} : CoeFun (PS X st t) (fun _ =>
  ∀ (pins : List (Addr × Obj)) (s : Shared) (σ : St) (H : Hp) (D : Ends), Inv X pins σ H s → t D σ H → wpAny (model X.prog X.w) X.A (exec st X.env) (SP X pins D) X.xe s) := ⟨PS.go⟩
structure PSs (X : Cx) (st : List Stmt) (t : TS) : Prop where
  mk ::
  go :
  ∀ (pins : List (Addr × Obj)) (s : Shared) (σ : St) (H : Hp) (D : Ends), Inv X pins σ H s → t D σ H → wpAny (model X.prog X.w) X.A (execs st X.env) (SP X pins D) X.xe s
instance {X : Cx} {st : List Stmt} {t : TS} : CoeFun (PSs X st t) (fun _ =>
  ∀ (pins : List (Addr × Obj)) (s : Shared) (σ : St) (H : Hp) (D : Ends), Inv X pins σ H s → t D σ H → wpAny (model X.prog X.w) X.A (execs st X.env) (SP X pins D) X.xe s) := ⟨PSs.go⟩
/-- weaken the end -/
theorem thn {α : Type} {t : Sem α} {Q Q' : α → Shared → Prop} {M : Model} {A : Around} {E : Value → Shared → Prop} {s : Shared} (h : wpAny M A t Q E s) (hQ : ∀ a s, Q a s → Q' a s) : wpAny M A t Q' E s := wpAny_mono h hQ fun _ _ x => x
end L2

namespace L2
open PySem PySem.Spec PyProof.Rows
section
variable {X : Cx}

/-! ### names and constants -/
def tVar (i : Nat) : TE := fun σ H Q => ∃ v, σ[i]? = some (some v) ∧ Q v H
def tC (v : V) : TE := fun _ H Q => Q v H
theorem pe_var {i : Nat} {x : Str} {pos : Pos} (hN : X.N[i]? = some x) (hv : Vis X.env.scope x) (hd : (x == ("__debug__" : Str)) = false := by decide) (hcd : (x == ("__classdict__" : Str)) = false := by decide) : PE X (.Name x pos) (tVar i) := by
  refine .mk ?_
  intro pins s σ H Q I h
  obtain ⟨v, e, h⟩ := h
  obtain ⟨m, hn, hl⟩ := I.loc
  obtain ⟨u, r, l⟩ := hl i x v hN e hv
  have fin : EP X pins σ Q u s := ⟨v, H, I, r, h⟩
  rcases l with ⟨hk, hm⟩ | ⟨hk, c, hc, hcell⟩
  · exact wpAny_Name (wpAny_loadName_local I.ok.kind hk hn hm fin) hd
  · rcases hk with hk | hk
    · exact wpAny_Name (wpAny_loadName_cell I.ok.kind hk hc hcell fin) hd
    · exact wpAny_Name (wpAny_loadName_free I.ok.kind hk hc hcell fin hcd) hd
theorem pe_int {i j pos} : PE X (.Constant (.int i) j pos) (tC (.int i)) := .mk <| fun _ _ _ H _ I h => wpAny_Constant_int ⟨.int i, H, I.tok _, ⟨_, rfl⟩, h⟩
theorem pe_bl {b j pos} : PE X (.Constant (.bool b) j pos) (tC (.bl b)) := .mk <| fun _ _ _ H _ I h => Constant_bool ⟨.bl b, H, I, rfl, h⟩
theorem pe_non {j pos} : PE X (.Constant .none j pos) (tC .non) := .mk <| fun _ _ _ H _ I h => Constant_none ⟨.non, H, I, rfl, h⟩
theorem pe_str {x j pos} : PE X (.Constant (.str x) j pos) (tC (.str x)) := .mk <| fun _ _ _ H _ I h => Calls.Constant_str ⟨.str x, H, I.tok _, ⟨_, rfl⟩, h⟩

/-- a global name of the def -/
def Gl (X : Cx) (x : Str) : Prop := X.env.kindOf x = some .globalImplicit
theorem ld_glob {E : Value → Shared → Prop} {pins : List (Addr × Obj)} {s : Shared} {σ : St} {H : Hp} {x : Str} {u : Value} {pos : Pos} {Q : Value → Shared → Prop} (I : Inv X pins σ H s) (hg : Gl X x) (hm : X.mg x = some u) (h : Q u s)
    (hd : (x == ("__debug__" : Str)) = false := by decide) : wpAny (model X.prog X.w) X.A (eval (.Name x pos) X.env) Q E s :=
  Calls.Name_function_global I.ok.kind hg (Calls.loadGlobal_global (by rw [I.ok.glob]; exact I.mod.glob.keeps I.bk) hm h) hd
theorem ld_blt {E : Value → Shared → Prop} {pins : List (Addr × Obj)} {s : Shared} {σ : St} {H : Hp} {x : Str} {u : Value} {pos : Pos} {Q : Value → Shared → Prop} (I : Inv X pins σ H s) (hg : Gl X x) (hm : X.mg x = none) (hv : bootBuiltins x = some u) (h : Q u s)
    (hn : x ≠ "__name__" := by decide) (hd : (x == ("__debug__" : Str)) = false := by decide) : wpAny (model X.prog X.w) X.A (eval (.Name x pos) X.env) Q E s := by
  obtain ⟨mb, h1, h2⟩ := I.mod.blt
  exact Calls.Name_function_global I.ok.kind hg (Calls.loadGlobal_builtin (by rw [I.ok.glob]; exact I.mod.glob.keeps I.bk) hm (by rw [I.ok.blt]; exact h1.keeps I.bk) ((h2 x hn).trans hv) h) hd
/-- a module's constant, a class, a function, as a value -/
theorem pe_glob {x : Str} {v : V} {u : Value} {pos : Pos} (hg : Gl X x) (hm : X.mg x = some u) (r : RelV v u) (hd : (x == ("__debug__" : Str)) = false := by decide) : PE X (.Name x pos) (tC v) :=
  .mk <| fun _ _ _ H _ I h => ld_glob I hg hm ⟨v, H, I, r, h⟩ hd
theorem pe_bltn {x : Str} {v : V} {u : Value} {pos : Pos} (hg : Gl X x) (hm : X.mg x = none) (hv : bootBuiltins x = some u) (r : RelV v u) (hn : x ≠ "__name__" := by decide) (hd : (x == ("__debug__" : Str)) = false := by decide) : PE X (.Name x pos) (tC v) :=
  .mk <| fun _ _ _ H _ I h => ld_blt I hg hm hv ⟨v, H, I, r, h⟩ hn hd

/-! ### arithmetic -/
variable {a b : Expr} {ta tb : TE} {pos : Pos}
/-! ### comparisons -/
/-- a comparison as a value, as a test -/
def tB (t : TE) : TT := fun σ H Q => t σ H fun x H1 => ∃ c, x = .bl c ∧ Q c H1
/-- an expression whose value is a bool, as a test -/
theorem pt_val {e : Expr} {t : TE} (h : PE X e t) (he : ∀ whole, isTrue e X.env whole = (do let v ← whole; standAt e.pos; holding [v] (truthy v)) := by intro _; rfl) : PT X e (tB t) := by
  refine .mk ?_
  intro pins s σ H Q I hw
  refine isTrue_plain (thn (h pins s σ H _ I hw) fun v s1 ⟨x, H1, I1, r1, q1⟩ => ?_) (he _)
  obtain ⟨d, rfl, q⟩ := q1
  cases r1
  exact wpAny_truthy_bool ⟨H1, I1, q⟩

/-! ### and, or, not -/
variable {tA tB' : TT} {rest : List Expr}
def tAnd (t u : TT) : TT := fun σ H Q => t σ H fun c H1 => if c = true then u σ H1 Q else Q false H1
def tOr (t u : TT) : TT := fun σ H Q => t σ H fun c H1 => if c = true then Q true H1 else u σ H1 Q
def tNot (t : TT) : TT := fun σ H Q => t σ H fun c H1 => Q (!c) H1
theorem pw_and1 (ha : PT X a tA) : PW X (.BoolOp .And [a] pos) tA := by
  refine .mk ?_
  intro wh pins s σ H Q I h
  refine isTrue_and (thn (ha pins s σ H Q I h) fun c s1 e => ?_)
  cases c with
  | true => exact isTrue_and_nil e
  | false => exact e
theorem pw_or1 (ha : PT X a tA) : PW X (.BoolOp .Or [a] pos) tA := by
  refine .mk ?_
  intro wh pins s σ H Q I h
  refine isTrue_or (thn (ha pins s σ H Q I h) fun c s1 e => ?_)
  cases c with
  | false => exact isTrue_or_nil e
  | true => exact e
theorem pw_and (ha : PT X a tA) (hb : PW X (.BoolOp .And (b :: rest) pos) tB') : PW X (.BoolOp .And (a :: b :: rest) pos) (tAnd tA tB') := by
  refine .mk ?_
  intro wh pins s σ H Q I h
  refine isTrue_and (thn (ha pins s σ H _ I h) fun c s1 ⟨H1, I1, q1⟩ => ?_)
  cases c with
  | true => exact hb wh pins s1 σ H1 Q I1 q1
  | false => exact ⟨H1, I1, q1⟩
theorem pw_or (ha : PT X a tA) (hb : PW X (.BoolOp .Or (b :: rest) pos) tB') : PW X (.BoolOp .Or (a :: b :: rest) pos) (tOr tA tB') := by
  refine .mk ?_
  intro wh pins s σ H Q I h
  refine isTrue_or (thn (ha pins s σ H _ I h) fun c s1 ⟨H1, I1, q1⟩ => ?_)
  cases c with
  | true => exact ⟨H1, I1, q1⟩
  | false => exact hb wh pins s1 σ H1 Q I1 q1
theorem pt_not (ha : PT X a tA) : PT X (.UnaryOp .Not a pos) (tNot tA) := by
  refine .mk ?_
  intro pins s σ H Q I h
  exact isTrue_not (ha pins s σ H (fun c H1 => Q (!c) H1) I h)
/-- .. as values (bools) -/
def tAndV (ta tb : TE) : TE := fun σ H Q => ta σ H fun x H1 => ∃ c, x = .bl c ∧ if c = true then tb σ H1 Q else Q (.bl false) H1
def tOrV (ta tb : TE) : TE := fun σ H Q => ta σ H fun x H1 => ∃ c, x = .bl c ∧ if c = true then Q (.bl true) H1 else tb σ H1 Q
def tNotV (ta : TE) : TE := fun σ H Q => ta σ H fun x H1 => ∃ c, x = .bl c ∧ Q (.bl (!c)) H1
theorem pe_one {op} {t : TE} (h : PE X a t) : PE X (.BoolOp op [a] pos) t := .mk <| fun pins s σ H Q I hw => BoolOp_one (h pins s σ H Q I hw)
theorem pe_and (ha : PE X a ta) (hb : PE X (.BoolOp .And (b :: rest) pos) tb) : PE X (.BoolOp .And (a :: b :: rest) pos) (tAndV ta tb) := by
  refine .mk ?_
  intro pins s σ H Q I h
  refine BoolOp_and (thn (ha pins s σ H _ I h) fun v s1 ⟨x, H1, I1, r1, q1⟩ => ?_)
  obtain ⟨c, rfl, q1⟩ := q1
  cases r1
  refine wpAny_truthy_bool ?_
  cases c with
  | true => exact hb pins s1 σ H1 Q I1 q1
  | false => exact ⟨.bl false, H1, I1, rfl, q1⟩
/-- a if t else b -/
def tIf (t : TT) (ta tb : TE) : TE := fun σ H Q => t σ H fun c H1 => if c = true then ta σ H1 Q else tb σ H1 Q
theorem pe_ifExp {c : Expr} (hc : PT X c tA) (ha : PE X a ta) (hb : PE X b tb) : PE X (.IfExp c a b pos) (tIf tA ta tb) := by
  refine .mk ?_
  intro pins s σ H Q I h
  refine wpAny_IfExp (thn (hc pins s σ H _ I h) fun d s1 ⟨H1, I1, q1⟩ => ?_)
  cases d with
  | true => exact ha pins s1 σ H1 Q I1 q1
  | false => exact hb pins s1 σ H1 Q I1 q1
end
end L2

namespace L2
open PySem PySem.Spec PyProof.Rows

/-! ### a list, a tuple that is read: tracked, frozen, or an object of the module -/
def SqL (K : PySem.W.Frag) (H : Hp) (a : Addr) (xs : List V) : Prop :=
  Rd H a (.lst xs) ∨
    ∃ (o : Obj) (its : Array Value) (n : Nat), K.lookup a = some o ∧ o.cls = .type "list" ∧ o.dict = none ∧ o.data = .seq its n ∧ its.size ≤ sizeLine ∧ Vals xs its.toList
def SqT (K : PySem.W.Frag) (H : Hp) (a : Addr) (xs : List V) : Prop :=
  Rd H a (.tup xs) ∨
    ∃ (o : Obj) (its : Array Value) (n : Nat), K.lookup a = some o ∧ o.cls = .type "tuple" ∧ o.data = .seq its n ∧ its.size ≤ sizeLine ∧ Vals xs its.toList
def absV : Value → Option V
  | .none => some .non
  | .bool b => some (.bl b)
  | .int i _ => some (.int i)
  | .str x _ => some (.str x)
  | .bytes b _ => some (.byt b)
  | .float b _ => some (.flt b)
  | .ref a => some (.ref a)
  | .type n => some (.ty n)
  | _ => none
theorem RelV.abs {x : V} {u : Value} (r : RelV x u) : absV u = some x := by
  cases x with
  | non => cases r; rfl
  | bl _ => cases r; rfl
  | int _ => obtain ⟨t, rfl⟩ := r; rfl
  | str _ => obtain ⟨t, rfl⟩ := r; rfl
  | byt _ => obtain ⟨t, rfl⟩ := r; rfl
  | flt _ => obtain ⟨t, rfl⟩ := r; rfl
  | ref _ => cases r; rfl
  | ty _ => cases r; rfl
theorem RelV.inj {x y : V} {u : Value} (r : RelV x u) (q : RelV y u) : x = y := Option.some.inj (r.abs.symm.trans q.abs)
theorem Vals.inj : ∀ {xs ys : List V} {us : List Value}, Vals xs us → Vals ys us → xs = ys
  | _, _, _, .nil, .nil => rfl
  | _, _, _, .cons r t, .cons r' t' => by rw [r.inj r', Vals.inj t t']
section
variable {X : Cx} {pins : List (Addr × Obj)} {σ : St} {H : Hp} {s : Shared} {a : Addr} {xs ys : List V}
theorem SqL.of {K : PySem.W.Frag} (h : H a = some (.lst xs)) : SqL K H a xs := .inl (.inl h)
theorem SqT.of {K : PySem.W.Frag} (h : H a = some (.tup xs)) : SqT K H a xs := .inl (.inl h)
theorem Inv.list (I : Inv X pins σ H s) (h : SqL X.K H a xs) : ∃ its : List Value, Vals xs its ∧ PlainL s.heap a its.toArray ∧ xs.length ≤ sizeLine := by
  rcases h with h | ⟨o, its, n, hk, hc, hd, hs, hz, r⟩
  · obtain ⟨z, its, n, r, e⟩ := h.ok I.hok
    exact ⟨its, r, ⟨_, n, e, rfl, rfl, rfl⟩, z⟩
  · refine ⟨its.toList, r, ⟨o, n, I.kIn a o hk, hc, hd, by simpa using hs⟩, ?_⟩
    have e := r.length
    simp only [Array.length_toList] at e
    omega
theorem Inv.tuple (I : Inv X pins σ H s) (h : SqT X.K H a xs) : ∃ its : List Value, Vals xs its ∧ IsTup s.heap a its.toArray ∧ xs.length ≤ sizeLine := by
  rcases h with h | ⟨o, its, n, hk, hc, hs, hz, r⟩
  · obtain ⟨z, its, r, p⟩ := h.ok I.hok
    exact ⟨its, r, p, z⟩
  · refine ⟨its.toList, r, ⟨o, I.kIn a o hk, hc, n, by simpa using hs⟩, ?_⟩
    have e := r.length
    simp only [Array.length_toList] at e
    omega
theorem Inv.list_inj (I : Inv X pins σ H s) (h : SqL X.K H a xs) (h' : SqL X.K H a ys) : xs = ys := by
  obtain ⟨its, r, ⟨o, n, e, _, _, d⟩, _⟩ := I.list h
  obtain ⟨its', r', ⟨o', n', e', _, _, d'⟩, _⟩ := I.list h'
  rw [e] at e'; cases e'
  rw [d] at d'
  injection d' with d1 _
  have : its = its' := by simpa using congrArg Array.toList d1
  subst this
  exact r.inj r'
end

/-! ### another wish about exceptions -/
abbrev Cx.wish (X : Cx) (E : Value → Shared → Prop) : Cx := { X with xe := E }
/-- no exception leaves -/
abbrev Cx.nox (X : Cx) : Cx := X.wish fun _ _ => False
theorem Cx.Ok.wish {X : Cx} (ok : X.Ok) (E : Value → Shared → Prop) : (X.wish E).Ok :=
  ⟨ok.mod, ok.kind, ok.glob, ok.blt, ok.above, ok.inj, ok.has, ok.cab, ok.hd, ok.frames, ok.stk, ok.exf, ok.bs, ok.bsz, ok.noex, ok.exfs, ok.funs, ok.frf⟩
theorem Cx.Ok.unwish {X : Cx} {E : Value → Shared → Prop} (ok : (X.wish E).Ok) : X.Ok :=
  ⟨ok.mod, ok.kind, ok.glob, ok.blt, ok.above, ok.inj, ok.has, ok.cab, ok.hd, ok.frames, ok.stk, ok.exf, ok.bs, ok.bsz, ok.noex, ok.exfs, ok.funs, ok.frf⟩
section
variable {X : Cx} {pins : List (Addr × Obj)} {σ : St} {H : Hp} {s : Shared} {E : Value → Shared → Prop}
theorem Inv.wish (I : Inv X pins σ H s) (E : Value → Shared → Prop) : Inv (X.wish E) pins σ H s := ⟨I.ok.wish E, I.os, I.bare, I.base, I.loc, I.cell, I.free, I.freeC, I.pin, I.hok, I.len⟩
theorem Inv.unwish (I : Inv (X.wish E) pins σ H s) : Inv X pins σ H s := ⟨I.ok.unwish, I.os, I.bare, I.base, I.loc, I.cell, I.free, I.freeC, I.pin, I.hok, I.len⟩
theorem SP.unwish {D : Ends} {f : Flow} {s' : Shared} (h : SP (X.wish E) pins D f s') : SP X pins D f s' := by
  cases f with
  | next => obtain ⟨σ', H', I, q⟩ := h; exact ⟨σ', H', I.unwish, q⟩
  | brk => obtain ⟨σ', H', I, q⟩ := h; exact ⟨σ', H', I.unwish, q⟩
  | cont => obtain ⟨σ', H', I, q⟩ := h; exact ⟨σ', H', I.unwish, q⟩
  | ret u => obtain ⟨v, σ', H', I, r, q⟩ := h; exact ⟨v, σ', H', I.unwish, r, q⟩
theorem PE.nox {e : Expr} {t : TE} (h : PE X.nox e t) : PE X e t := .mk <| fun pins s σ H Q I hw =>
  wpAny_mono (h pins s σ H Q (I.wish _) hw) (fun _ _ ⟨v, H', I', r, q⟩ => ⟨v, H', I'.unwish, r, q⟩) fun _ _ z => False.elim z
theorem PT.nox {e : Expr} {t : TT} (h : PT X.nox e t) : PT X e t := .mk <| fun pins s σ H Q I hw =>
  wpAny_mono (h pins s σ H Q (I.wish _) hw) (fun _ _ ⟨H', I', q⟩ => ⟨H', I'.unwish, q⟩) fun _ _ z => False.elim z
theorem PSs.nox {st : List Stmt} {t : TS} (h : PSs X.nox st t) : PSs X st t := .mk <| fun pins s σ H D I hw =>
  wpAny_mono (h pins s σ H D (I.wish _) hw) (fun _ _ q => q.unwish) fun _ _ z => False.elim z
end

/-! ### blocks and small statements -/
section
variable {X : Cx} {st : Stmt} {rest : List Stmt} {t u : TS} {e : Expr} {te : TE} {pos : Pos}
def tNext : TS := fun D σ H => D.nx σ H
def tSeq (t u : TS) : TS := fun D σ H => t { D with nx := u D } σ H
theorem pss_nil : PSs X [] tNext := .mk <| fun _ _ σ H _ I h => wpAny_execs_nil ⟨σ, H, I, h⟩
theorem pss_cons (h1 : PS X st t) (h2 : PSs X rest u) : PSs X (st :: rest) (tSeq t u) := by
  refine .mk ?_
  intro pins s σ H D I h
  refine wpAny_execs_cons (thn (h1 pins s σ H { D with nx := u D } I h) fun f s1 q => ?_)
  cases f with
  | next =>
    obtain ⟨σ', H', I', q⟩ := q
    exact h2 pins s1 σ' H' D I' q
  | ret v => exact q
  | brk => exact q
  | cont => exact q
theorem pss_one (h1 : PS X st t) : PSs X [st] t := by
  refine .mk ?_
  intro pins s σ H D I h
  refine wpAny_execs_cons (thn (h1 pins s σ H D I h) fun f s1 q => ?_)
  cases f with
  | next => exact wpAny_execs_nil q
  | ret v => exact q
  | brk => exact q
  | cont => exact q
/-- in a def's body nothing is shown -/
theorem Inv.quiet {pins : List (Addr × Obj)} {σ : St} {H : Hp} {s : Shared} (I : Inv X pins σ H s) : interactive X.env = false := by simp [interactive, I.ok.kind]
/-- an expression whose value is dropped -/
def tDrop (te : TE) : TS := fun D σ H => te σ H fun _ H1 => D.nx σ H1
theorem ps_expr (he : PE X e te) (hs : swapsWith e none pos.line X.env = pure false := by rfl) : PS X (.Expr e pos) (tDrop te) := by
  refine .mk ?_
  intro pins s σ H D I h
  exact wpAny_Expr_any (thn (he pins s σ H _ I h) fun v s1 ⟨x, H1, I1, r1, q1⟩ => ⟨σ, H1, I1, q1⟩) I.quiet hs
def tRet (te : TE) : TS := fun D σ H => te σ H D.rt
theorem ps_ret (he : PE X e te) : PS X (.Return (some e) pos) (tRet te) := by
  refine .mk ?_
  intro pins s σ H D I h
  exact wpAny_Return_some (thn (he pins s σ H _ I h) fun v s1 ⟨x, H1, I1, r1, q1⟩ => ⟨x, σ, H1, I1, r1, q1⟩)
def tRetN : TS := fun D _ H => D.rt .non H
def tIfS (c : TT) (t u : TS) : TS := fun D σ H => c σ H fun b H1 => if b = true then t D σ H1 else u D σ H1
theorem ps_if {c : Expr} {a b : List Stmt} {tc : TT} (hc : PT X c tc) (ha : PSs X a t) (hb : PSs X b u) : PS X (.If c a b pos) (tIfS tc t u) := by
  refine .mk ?_
  intro pins s σ H D I h
  refine wpAny_If (thn (hc pins s σ H _ I h) fun d s1 ⟨H1, I1, q1⟩ => ?_)
  cases d with
  | true => exact ha pins s1 σ H1 D I1 q1
  | false => exact hb pins s1 σ H1 D I1 q1
end

/-! ### targets -/
abbrev TG := V → St → Hp → (St → Hp → Prop) → Prop
abbrev TGs := List V → St → Hp → (St → Hp → Prop) → Prop
structure PG (X : Cx) (target : Expr) (t : TG) : Prop where
  mk ::
  go :
  ∀ (pins : List (Addr × Obj)) (s : Shared) (σ : St) (H : Hp) (v : V) (u : Value) (Q : St → Hp → Prop), Inv X pins σ H s → RelV v u → t v σ H Q →
    wpAny (model X.prog X.w) X.A (assign target X.env u) (fun _ s' => ∃ σ' H', Inv X pins σ' H' s' ∧ Q σ' H') X.xe s
instance {X : Cx} {target : Expr} {t : TG} : CoeFun (PG X target t) (fun _ =>
  ∀ (pins : List (Addr × Obj)) (s : Shared) (σ : St) (H : Hp) (v : V) (u : Value) (Q : St → Hp → Prop), Inv X pins σ H s → RelV v u → t v σ H Q →
    wpAny (model X.prog X.w) X.A (assign target X.env u) (fun _ s' => ∃ σ' H', Inv X pins σ' H' s' ∧ Q σ' H') X.xe s) := ⟨PG.go⟩
/-- several targets, one after another -/
structure PGs (X : Cx) (ts : List Expr) (t : TGs) : Prop where
  mk ::
  go :
  ∀ (pins : List (Addr × Obj)) (s : Shared) (σ : St) (H : Hp) (vs : List V) (us : List Value) (Q : St → Hp → Prop), Inv X pins σ H s → Vals vs us → t vs σ H Q →
    wpAny (model X.prog X.w) X.A (assignInOrder ((assignEach ts X.env).map (·.2)) us) (fun _ s' => ∃ σ' H', Inv X pins σ' H' s' ∧ Q σ' H') X.xe s
instance {X : Cx} {ts : List Expr} {t : TGs} : CoeFun (PGs X ts t) (fun _ =>
  ∀ (pins : List (Addr × Obj)) (s : Shared) (σ : St) (H : Hp) (vs : List V) (us : List Value) (Q : St → Hp → Prop), Inv X pins σ H s → Vals vs us → t vs σ H Q →
    wpAny (model X.prog X.w) X.A (assignInOrder ((assignEach ts X.env).map (·.2)) us) (fun _ s' => ∃ σ' H', Inv X pins σ' H' s' ∧ Q σ' H') X.xe s) := ⟨PGs.go⟩
/-- o[i] = v, by values -/
abbrev TSet := V → V → V → Hp → (Hp → Prop) → Prop
structure PSet (X : Cx) (t : TSet) : Prop where
  mk ::
  go :
  ∀ (pins : List (Addr × Obj)) (s : Shared) (σ : St) (H : Hp) (o i v : V) (ov iv u : Value) (Q : Hp → Prop), Inv X pins σ H s → RelV o ov → RelV i iv → RelV v u → t o i v H Q →
    wpAny (model X.prog X.w) X.A (setItem ov iv u) (fun _ s' => ∃ H', Inv X pins σ H' s' ∧ Q H') X.xe s
instance {X : Cx} {t : TSet} : CoeFun (PSet X t) (fun _ =>
  ∀ (pins : List (Addr × Obj)) (s : Shared) (σ : St) (H : Hp) (o i v : V) (ov iv u : Value) (Q : Hp → Prop), Inv X pins σ H s → RelV o ov → RelV i iv → RelV v u → t o i v H Q →
    wpAny (model X.prog X.w) X.A (setItem ov iv u) (fun _ s' => ∃ H', Inv X pins σ H' s' ∧ Q H') X.xe s) := ⟨PSet.go⟩
/-- a op= b, by values -/
abbrev TIp := V → V → Hp → VK → Prop
def PIp (X : Cx) (op : Operator) (t : TIp) : Prop :=
  ∀ (pins : List (Addr × Obj)) (s : Shared) (σ : St) (H : Hp) (x y : V) (v u : Value) (Q : VK), Inv X pins σ H s → RelV x v → RelV y u → t x y H Q →
    wpAny (model X.prog X.w) X.A (inplaceOp op v u) (EP X pins σ Q) X.xe s
section
variable {X : Cx} {pos : Pos}
def gName (i : Nat) : TG := fun v σ H Q => Q (σ.set i (some v)) H
theorem pg_name {i : Nat} {x : Str} (hN : X.N.Nodup) (hi : X.N[i]? = some x) (hx : Loc X.env.scope x) (hf : X.fn x = true ∨ X.env.scope.names.lookup x = some .local := by first | exact .inl rfl | exact .inr rfl | assumption) : PG X (.Name x pos) (gName i) := by
  refine .mk ?_
  intro pins s σ H v u Q I r h
  exact wpAny_assign_Name (store_ok I hN hi hx r (fun s' I' => ⟨_, H, I', h⟩) hf)
def gNil : TGs := fun vs σ H Q => vs = [] ∧ Q σ H
def gCons (t : TG) (u : TGs) : TGs := fun vs σ H Q => ∃ v r, vs = v :: r ∧ t v σ H fun σ' H' => u r σ' H' Q
theorem pgs_nil : PGs X [] gNil := by
  refine .mk ?_
  intro pins s σ H vs us Q I r h
  obtain ⟨e, h⟩ := h
  subst e
  cases r
  exact assignInOrder_nil ⟨σ, H, I, h⟩
theorem pgs_cons {e : Expr} {es : List Expr} {t : TG} {u : TGs} (h1 : PG X e t) (h2 : PGs X es u)
    (hs : (assignEach (e :: es) X.env).map (·.2) = assign e X.env :: (assignEach es X.env).map (·.2) := by rfl) : PGs X (e :: es) (gCons t u) := by
  refine .mk ?_
  intro pins s σ H vs us Q I r h
  obtain ⟨v, vr, e1, h⟩ := h
  subst e1
  cases r with
  | cons r rr =>
    rw [hs]
    refine assignInOrder_cons (thn (h1 pins s σ H _ _ _ I r h) fun _ s1 ⟨σ1, H1, I1, q1⟩ => ?_)
    exact h2 pins s1 σ1 H1 _ _ Q I1 rr q1
/-- (a, b, ..) = a tuple of that length -/
def gTup (K : PySem.W.Frag) (n : Nat) (t : TGs) : TG := fun v σ H Q => ∃ a xs, v = .ref a ∧ SqT K H a xs ∧ xs.length = n ∧ t xs σ H Q
theorem pg_tup {es : List Expr} {k : Nat} {t : TGs} {n : Nat} (hc : X.calm = true) (h : PGs X es t)
    (hn : (assignEach es X.env).length = n := by rfl) (hst : (assignEach es X.env).findIdx? (·.1) = none := by rfl) : PG X (.Tuple es k pos) (gTup X.K n t) := by
  refine .mk ?_
  intro pins s σ H v u Q I r hw
  obtain ⟨a, xs, e1, hq, hl, hw⟩ := hw
  subst e1
  cases r
  obtain ⟨its, rv, ht, hz⟩ := I.tuple hq
  refine assign_Tuple_tuple (I.ok.hd hc) ht (by simp [hn, ← hl, rv.length]) hst fun h' hx => ?_
  have I1 : Inv X pins σ H { s with heap := h' } := I.kept (t' := s.toks) fun b o e => hx b o (Nat.ne_of_lt (Heap.lt_size e)) e
  exact h pins _ σ H xs _ Q I1 (by simpa using rv) hw
/-- o[i] = .. -/
def gSub (to ti : TE) (t : TSet) : TG := fun v σ H Q => to σ H fun o H1 => ti σ H1 fun i H2 => t o i v H2 fun H3 => Q σ H3
theorem pg_sub {o i : Expr} {to ti : TE} {t : TSet} (ho : PE X o to) (hi : PE X i ti) (hs : PSet X t)
    (ha : ∀ v, assign (.Subscript o i pos) X.env v = (do
      let ov ← holding [v] (eval o X.env)
      let iv ← holding [v, ov] (eval i X.env)
      standAt pos
      holding [v, ov, iv] (setItem ov iv v)
      release [v, ov, iv] []) := by intro _; rfl) : PG X (.Subscript o i pos) (gSub to ti t) := by
  refine .mk ?_
  intro pins s σ H v u Q I r h
  rw [ha]
  refine wpAny_bind (wpAny_holding (thn (ho pins s σ H _ I h) fun ov s1 ⟨x, H1, I1, r1, q1⟩ => ?_))
  refine wpAny_bind (wpAny_holding (thn (hi pins s1 σ H1 _ I1 q1) fun iv s2 ⟨y, H2, I2, r2, q2⟩ => ?_))
  refine wpAny_bind (wpAny_standAt (wpAny_bind (wpAny_holding (thn (hs pins s2 σ H2 x y v ov iv u _ I2 r1 r2 r q2) fun _ s3 ⟨H3, I3, q3⟩ => ?_))))
  exact wpAny_release ⟨σ, H3, I3, q3⟩
/-- target = value -/
def tAsg (te : TE) (g : TG) : TS := fun D σ H => te σ H fun x H1 => g x σ H1 D.nx
theorem ps_asg {tg e : Expr} {te : TE} {g : TG} (he : PE X e te) (hg : PG X tg g) (hs : swapsWithSole [tg] e pos.line X.env = pure false := by rfl) (hw : swappedStores [tg] e X.env = pure none := by rfl)
    (h1 : (assignEach [tg] X.env).map (·.2) = [assign tg X.env] := by rfl) : PS X (.Assign [tg] e pos) (tAsg te g) := by
  refine .mk ?_
  intro pins s σ H D I h
  refine wpAny_Assign_stores (thn (he pins s σ H _ I h) fun v s1 ⟨x, H1, I1, r1, q1⟩ => ?_) hs hw
  rw [h1]
  exact thn (hg pins s1 σ H1 x v _ I1 r1 q1) fun _ s2 q => q
/-- name = value -/
theorem ps_set {i : Nat} {x : Str} {e : Expr} {te : TE} {pos' : Pos} (hN : X.N.Nodup) (hi : X.N[i]? = some x) (hx : Loc X.env.scope x) (he : PE X e te) (hs : swapsWith e (some (.Name x pos')) pos.line X.env = pure false := by rfl) (hf : X.fn x = true ∨ X.env.scope.names.lookup x = some .local := by first | exact .inl rfl | exact .inr rfl | assumption) :
    PS X (.Assign [.Name x pos'] e pos) (tAsg te (gName i)) := by
  refine .mk ?_
  intro pins s σ H D I h
  refine wpAny_Assign_Name (thn (he pins s σ H _ I h) fun v s1 ⟨y, H1, I1, r1, q1⟩ => ?_) hs
  exact store_ok I1 hN hi hx r1 (fun s2 I2 => ⟨_, H1, I2, q1⟩) hf
/-- a, b = x, y with plain local names: stored from the right; the pair itself is not tracked (the opening rows as in PyProof/Rows/TupAssign.lean:23) -/
def tPar (i j : Nat) (ta : TA) : TS := fun D σ H => ta σ H fun vs H1 => ∃ v w, vs = [v, w] ∧ D.nx ((σ.set i (some v)).set j (some w)) H1
theorem ps_par {i j : Nat} {x y : Str} {a b : Expr} {ta : TA} {px py pt : Pos} {kt k2 pt2} (hc : X.calm = true) (hN : X.N.Nodup) (hi : X.N[i]? = some x) (hj : X.N[j]? = some y) (hij : i ≠ j)
    (hx : X.env.scope.names.lookup x = some .local) (hy : X.env.scope.names.lookup y = some .local) (ha : PA X [a, b] ta)
    (hw : swappedStores [.Tuple [.Name x px, .Name y py] kt pt] (.Tuple [a, b] k2 pt2) X.env = pure (some [x, y]))
    (hs : swapsWithSole [.Tuple [.Name x px, .Name y py] kt pt] (.Tuple [a, b] k2 pt2) pos.line X.env = pure false := by rfl) :
    PS X (.Assign [.Tuple [.Name x px, .Name y py] kt pt] (.Tuple [a, b] k2 pt2) pos) (tPar i j ta) := by
  refine .mk ?_
  intro pins s σ H D I h
  rw [exec_Assign_arm]
  refine wpAny_bind (wpAny_standAt ?_)
  rw [hs]
  refine wpAny_bind (wpAny_pure ?_)
  rw [if_neg (by decide)]
  refine wpAny_bind (Tuple_ (thn (ha _ pins s σ H _ I h) fun us s1 ⟨vs, H1, I1, r1, q1⟩ => ?_))
  obtain ⟨v, w, e1, q1⟩ := q1
  subst e1
  obtain ⟨u1, u2, rfl, rv, rw'⟩ : ∃ u1 u2, us = [u1, u2] ∧ RelV v u1 ∧ RelV w u2 := by
    cases r1 with
    | cons p q =>
      cases q with
      | cons p' q' =>
        cases q'
        exact ⟨_, _, rfl, p, p'⟩
  refine wpAny_newObj_type ?_ (by show 2 ≤ sizeLine; decide)
  have I2 : Inv X pins σ H1 { s1 with heap := s1.heap.push { cls := .type "tuple", data := .seq [u1, u2].toArray } } := I1.kept (t' := s1.toks) fun b o e => Heap.get?_push_of_some _ e
  rw [hw]
  refine wpAny_bind (wpAny_pure ?_)
  show wpAny (model X.prog X.w) X.A (do rule "assign.swapped-stores"; let items ← unpackItems (.ref s1.heap.objs.size) 2 none; assignInOrder [fun v => bindName X.env y v, fun v => bindName X.env x v] items.reverse; pure Flow.next) _ _ _
  refine wpAny_bind (wpAny_rule (wpAny_bind (unpackItems_tuple (items := #[u1, u2]) (I.ok.hd hc) (IsTup.new s1.heap _) fun h' hx' => ?_)))
  have I3 := I2.kept (h' := h') (t' := s1.toks) fun b o e => hx' b o (Nat.ne_of_lt (Heap.lt_size e)) e
  show wpAny _ _ (assignInOrder [fun v => bindName X.env y v, fun v => bindName X.env x v] [u2, u1] >>= fun _ => pure Flow.next) _ _ _
  refine wpAny_bind (assignInOrder_cons (wpAny_bindName (store_ok I3 hN hj (.inl hy) rw' (fun s2 I4 => ?_) (.inr hy))))
  refine assignInOrder_cons (wpAny_bindName (store_ok I4 hN hi (.inl hx) rv (fun s3 I5 => assignInOrder_nil (wpAny_pure ?_)) (.inr hx)))
  rw [List.set_comm _ _ (Ne.symm hij)] at I5
  exact ⟨_, H1, I5, q1⟩
/-- name op= e -/
def tAug (i : Nat) (te : TE) (ti : TIp) : TS := fun D σ H => ∃ x, σ[i]? = some (some x) ∧ te σ H fun y H1 => ti x y H1 fun z H2 => D.nx (σ.set i (some z)) H2
theorem ps_aug {i : Nat} {x : Str} {e : Expr} {te : TE} {op : Operator} {ti : TIp} {pos' : Pos} (hN : X.N.Nodup) (hi : X.N[i]? = some x) (hx : Loc X.env.scope x) (he : PE X e te) (ho : PIp X op ti) (hf : X.fn x = true ∨ X.env.scope.names.lookup x = some .local := by first | exact .inl rfl | exact .inr rfl | assumption) :
    PS X (.AugAssign (.Name x pos') op e pos) (tAug i te ti) := by
  refine .mk ?_
  intro pins s σ H D I h
  obtain ⟨v, e1, h⟩ := h
  obtain ⟨m, hn, hl⟩ := I.loc
  have vis : Vis X.env.scope x := by rcases hx with k | k; exact .inl k; exact .inr (.inl k)
  obtain ⟨u, r, l⟩ := hl i x v hi e1 vis
  refine wpAny_AugAssign_Name ?_
  have go : wpAny (model X.prog X.w) X.A (eval e X.env) (fun w s₂ => wpAny (model X.prog X.w) X.A (inplaceOp op u w) (fun r s₃ => wpAny (model X.prog X.w) X.A (storeName X.env x r) (fun _ => SP X pins D .next) X.xe s₃) X.xe s₂) X.xe s := by
    refine thn (he pins s σ H _ I h) fun w s1 ⟨y, H1, I1, r1, q1⟩ => ?_
    refine thn (ho pins s1 σ H1 v y u w _ I1 r r1 q1) fun z s2 ⟨zv, H2, I2, r2, q2⟩ => ?_
    exact store_ok I2 hN hi hx r2 (fun s3 I3 => ⟨_, H2, I3, q2⟩) hf
  rcases l with ⟨hk, hm⟩ | ⟨hk, c, hc, hcell⟩
  · exact wpAny_loadName_local I.ok.kind hk hn hm go
  · rcases hk with hk | hk
    · exact wpAny_loadName_cell I.ok.kind hk hc hcell go
    · rcases hx with k | k
      · have : X.env.scope.names.lookup x = some .free := hk
        rw [k] at this; cases this
      · have : X.env.scope.names.lookup x = some .free := hk
        rw [k] at this; cases this
/-- o[i] op= e -/
def tAugS (to ti te : TE) (tget : V → V → Hp → VK → Prop) (tip : TIp) (tset : TSet) : TS := fun D σ H => to σ H fun o H1 => ti σ H1 fun i H2 => tget o i H2 fun x H3 => te σ H3 fun y H4 => tip x y H4 fun z H5 => tset o i z H5 fun H6 => D.nx σ H6
/-- ints -/
def ipI (f : Int → Int → Int) : TIp := fun x y H Q => ∃ i j, x = .int i ∧ y = .int j ∧ Q (.int (f i j)) H
theorem ip_add : PIp X .Add (ipI fun i j => i + j) := by
  intro pins s σ H x y v u Q I r1 r2 h
  obtain ⟨i, j, e1, e2, q⟩ := h
  subst e1; subst e2
  obtain ⟨t, rfl⟩ := r1
  obtain ⟨t', rfl⟩ := r2
  exact iadd_int ⟨.int _, H, I.tok _, ⟨_, rfl⟩, q⟩
end

/-! ### while -/
section
variable {X : Cx} {pos : Pos}
/-- the invariant W with its measure -/
def tWhile (c : TT) (tb : TS) : TS := fun D σ H => ∃ W : Nat → St → Hp → Prop, (∃ m, W m σ H) ∧ ∀ m σ H, W m σ H →
  c σ H fun b H1 => if b = true then ∃ N : St → Hp → Prop, (∀ σ' H', N σ' H' → ∃ m', m' < m ∧ W m' σ' H') ∧ tb { D with nx := N, ct := N, bk := D.nx } σ H1 else D.nx σ H1
theorem ps_while {c : Expr} {body : List Stmt} {tc : TT} {tb : TS} (hp : PassesOwn (model X.prog X.w) X.A X.env X.xe) (hc : PT X c tc) (hb : PSs X body tb) : PS X (.While c body [] pos) (tWhile tc tb) := by
  refine .mk ?_
  intro pins s σ H D I h
  obtain ⟨W, ⟨m0, w0⟩, turn⟩ := h
  refine wpAny_While (codeAny_whileLoop (fun n s' => ∃ σ' H', Inv X pins σ' H' s' ∧ W n σ' H') ?_ m0 ⟨σ, H, I, w0⟩)
  rintro n s1 ⟨σ1, H1, I1, w1⟩
  refine wpAny_passesOwn hp (thn (hc pins s1 σ1 H1 _ I1 (turn n σ1 H1 w1)) fun b s2 ⟨H2, I2, q2⟩ => ?_)
  cases b with
  | true =>
    obtain ⟨N, hN, q2⟩ := q2
    rw [if_pos rfl]
    refine wpAny_passesOwn hp (thn (hb pins s2 σ1 H2 _ I2 q2) fun f s3 q3 => ?_)
    cases f with
    | next =>
      obtain ⟨σ3, H3, I3, n3⟩ := q3
      obtain ⟨m', hm, w3⟩ := hN σ3 H3 n3
      exact ⟨m', hm, σ3, H3, I3, w3⟩
    | cont =>
      obtain ⟨σ3, H3, I3, n3⟩ := q3
      obtain ⟨m', hm, w3⟩ := hN σ3 H3 n3
      exact ⟨m', hm, σ3, H3, I3, w3⟩
    | brk => exact q3
    | ret v => exact q3
  | false =>
    rw [if_neg Bool.false_ne_true]
    exact wpAny_execs_nil ⟨σ1, H2, I2, q2⟩
end

/-! ### what a loop or a comprehension walks -/
/-- at turn i: it yields x (the heap may grow), or it stops -/
structure It where
  go : Nat → Hp → Prop
  yld : Nat → Hp → V → Hp → Prop
  stop : Nat → Hp → Prop
/-- the iterator's own objects may turn: they are not the frame's, not pinned, younger than the entry (or a comprehension's own) -/
def FpOk (X : Cx) (pins : List (Addr × Obj)) (H : Hp) (b : Addr) : Prop :=
  H b = none ∧ b ≠ X.env.locals ∧ b ∉ X.fs ∧ (b ∈ X.ex ∨ X.s₀.heap.objs.size ≤ b) ∧ (∀ x c, X.env.cells.lookup x = some c → c ≠ b) ∧ ∀ p ∈ X.pn ++ pins, p.1 ≠ b
theorem Inv.fpOk {X : Cx} {pins : List (Addr × Obj)} {σ : St} {H H' : Hp} {s : Shared} {b : Addr} (I : Inv X pins σ H s) (hb : s.heap.objs.size ≤ b) (hn : H' b = none) : FpOk X pins H' b := by
  refine ⟨hn, Nat.ne_of_gt (Nat.lt_of_lt_of_le I.lt hb), I.nofs hb, .inr (Nat.le_trans I.sz hb), fun x c e z => ?_, fun p hp z => ?_⟩
  · obtain ⟨v, q⟩ := I.cell x c e
    exact absurd (Nat.lt_of_lt_of_le q.lt (by rw [z]; exact hb)) (Nat.lt_irrefl _)
  · exact absurd (Nat.lt_of_lt_of_le (Heap.lt_size (I.pin p hp).1) (by rw [z]; exact hb)) (Nat.lt_irrefl _)
structure Turn (P : Program) (w : World) (K : PySem.W.Frag) (tg : Expr) (J : It) (fp : List Addr) (it : Addr) (tn : Nat → Heap → Prop) : Prop where
  mem : it ∈ fp
  obj : ∀ i h, tn i h → ∀ b ∈ fp, ∃ o, h.get? b = some o ∧ ∀ v, o.data ≠ .cell v
  keep : ∀ i h h', tn i h → (∀ b ∈ fp, ∀ o, h.get? b = some o → h'.get? b = some o) → tn i h'
  item : ∀ (X : Cx), X.prog = P → X.w = w → X.K = K → X.calm = true → ∀ (i : Nat) (pins : List (Addr × Obj)) (s : Shared) (σ : St) (H : Hp) (E : Value → Shared → Prop), Inv X pins σ H s → (∀ b ∈ fp, FpOk X pins H b) → tn i s.heap → J.go i H →
    wpAny (model P w) X.A (pyNext (.ref it)) (fun r s1 => ∃ u, r = some u ∧
      wpAny (model P w) X.A (letOwnedTupleGo tg (.ref it) u) (fun _ s2 => ∃ x H', Inv X pins σ H' s2 ∧ RelV x u ∧ J.yld i H x H' ∧ tn (i + 1) s2.heap ∧ ∀ b ∈ fp, H' b = none) E s1) E s
  done : ∀ (X : Cx), X.prog = P → X.w = w → X.K = K → X.calm = true → ∀ (i : Nat) (pins : List (Addr × Obj)) (s : Shared) (σ : St) (H : Hp) (E : Value → Shared → Prop), Inv X pins σ H s → (∀ b ∈ fp, FpOk X pins H b) → tn i s.heap → J.stop i H →
    wpAny (model P w) X.A (pyNext (.ref it)) (fun r s1 => r = none ∧ Inv X pins σ H s1) E s
  self : ∀ (A : Around) (i : Nat) (s : Shared) (Q : Value → Shared → Prop) (E : Value → Shared → Prop), tn i s.heap → Q (.ref it) s → wpAny (model P w) A (pyIter (.ref it)) Q E s
abbrev TI := St → Hp → (It → Hp → Prop) → Prop
/-- an iterator has come -/
def PIE (X : Cx) (pins : List (Addr × Obj)) (σ : St) (tg : Expr) (R : It → Hp → Prop) (itv : Value) (s2 : Shared) : Prop :=
  ∃ (it : Addr) (fp : List Addr) (tn : Nat → Heap → Prop) (J : It) (H' : Hp), itv = .ref it ∧ Inv X pins σ H' s2 ∧ Turn X.prog X.w X.K tg J fp it tn ∧ tn 0 s2.heap ∧ (∀ b ∈ fp, FpOk X pins H' b) ∧ R J H'
structure PI (X : Cx) (tg iter : Expr) (wi : TI) : Prop where
  mk ::
  go :
  ∀ (pins : List (Addr × Obj)) (s : Shared) (σ : St) (H : Hp) (R : It → Hp → Prop), Inv X pins σ H s → wi σ H R →
    wpAny (model X.prog X.w) X.A (eval iter X.env) (fun v s1 => wpAny (model X.prog X.w) X.A (pyIter v) (PIE X pins σ tg R) X.xe s1) X.xe s
instance {X : Cx} {tg iter : Expr} {wi : TI} : CoeFun (PI X tg iter wi) (fun _ =>
  ∀ (pins : List (Addr × Obj)) (s : Shared) (σ : St) (H : Hp) (R : It → Hp → Prop), Inv X pins σ H s → wi σ H R →
    wpAny (model X.prog X.w) X.A (eval iter X.env) (fun v s1 => wpAny (model X.prog X.w) X.A (pyIter v) (PIE X pins σ tg R) X.xe s1) X.xe s) := ⟨PI.go⟩

/-- the step ahead of the store is nothing for an iterator that keeps no tuple -/
theorem go_of {M : Model} {A : Around} {E : Value → Shared → Prop} {s : Shared} {tg : Expr} {it : Addr} {u : Value} {o : Obj} {n : String} {vs : Array Value} {Q : Unit → Shared → Prop} (ho : s.heap.get? it = some o) (hc : o.cls = .type n) (hd : o.data = .fields vs)
    (hn : ["enumerate", "zip", "dict_itemiterator", "dict_reverseitemiterator", "odict_iterator", "itertools.zip_longest", "itertools.pairwise"].contains n = false) (hQ : Q () s) : wpAny M A (letOwnedTupleGo tg (.ref it) u) Q E s := by
  unfold letOwnedTupleGo
  cases tg <;> first
    | exact wpAny_pure hQ
    | (cases u <;> first
        | exact wpAny_pure hQ
        | (refine wpAny_bind (wpAny_load ho ?_)
           rw [hc, hd]
           show wpAny M A (if (["enumerate", "zip", "dict_itemiterator", "dict_reverseitemiterator", "odict_iterator", "itertools.zip_longest", "itertools.pairwise"].contains n && vs[0]? == some (rawInt _)) = true then _ else _) Q E s
           rw [if_neg (by intro h; rw [hn, Bool.false_and] at h; cases h)]
           exact wpAny_pure hQ))

/-- the list at a, as it stands at each turn (a loop may append to it) -/
def Itl (K : PySem.W.Frag) (a : Addr) : It :=
  ⟨fun i H => ∃ xs x, SqL K H a xs ∧ xs[i]? = some x, fun i H x H' => H' = H ∧ ∀ xs, SqL K H a xs → xs[i]? = some x, fun i H => ∃ xs, SqL K H a xs ∧ xs.length ≤ i⟩
def Itt (K : PySem.W.Frag) (a : Addr) : It :=
  ⟨fun i H => ∃ xs x, SqT K H a xs ∧ xs[i]? = some x, fun i H x H' => H' = H ∧ ∀ xs, SqT K H a xs → xs[i]? = some x, fun i H => ∃ xs, SqT K H a xs ∧ xs.length ≤ i⟩
/-- lo, lo + 1, .. (n of them) -/
def Itr (lo : Int) (n : Nat) : It := ⟨fun i _ => i < n, fun i H x H' => H' = H ∧ x = .int (lo + i), fun i _ => n ≤ i⟩
theorem turn_range {P : Program} {w : World} {K : PySem.W.Frag} {tg : Expr} (it : Addr) (lo : Int) (n : Nat) : Turn P w K tg (Itr lo n) [it] it (fun i h => IsRangeIter h it (lo + (i : Nat) * 1) ((n : Int) - (i : Nat)) 1) where
  mem := by simp
  obj := fun i h st b hb => by
    have e : b = it := by simpa using hb
    subst e
    exact ⟨_, st, fun v z => by
      have z' : Data.fields _ = Data.cell v := z
      cases z'⟩
  keep := fun i h h' st k => k it (by simp) _ st
  item := by
    intro X hP hw hK hc i pins s σ H E I hf st hg
    subst hP hw hK
    obtain ⟨f0, f1, f2, f3, f4, f5⟩ := hf it (by simp)
    have W := Walks.range (prog := X.prog) (w := X.w) (I.ok.hd hc) it lo 1 n
    refine W.item i s _ _ hg st fun v h' tk hv st' kk => ?_
    obtain ⟨t, rfl⟩ := hv
    have I1 : Inv X pins σ H { s with heap := h', toks := tk } := I.turned (fun b o hb e => kk b o (by simpa using hb) e) f0 f1 f3 f4 f5
    refine ⟨_, rfl, go_of (s := { s with heap := h', toks := tk }) (n := "range_iterator") st' rfl rfl (by decide) ⟨.int (lo + i), H, I1, ⟨t, ?_⟩, ⟨rfl, rfl⟩, st', fun b hb => (hf b hb).1⟩⟩
    rw [Int.mul_one]
  done := by
    intro X hP hw hK hc i pins s σ H E I hf st hg
    subst hP hw hK
    obtain ⟨f0, f1, f2, f3, f4, f5⟩ := hf it (by simp)
    exact wpAny_pyNext_range_end (I.ok.hd hc) st (by have : n ≤ i := hg; omega) fun h' eb => ⟨rfl, I.turned (t' := s.toks) (fun b o hb e => eb b o hb e) f0 f1 f3 f4 f5⟩
  self := fun _ _ _ _ _ st h => wpAny_pyIter_rangeiter st h
end L2

namespace L2
open PySem PySem.Spec PyProof.Rows
section
variable {X : Cx} {tg : Expr}
def iList (K : PySem.W.Frag) (tl : TE) : TI := fun σ H R => tl σ H fun x H1 => ∃ a, x = .ref a ∧ (∃ xs, SqL K H1 a xs) ∧ R (Itl K a) H1
/-- a range object just made, walked -/
theorem range_it {pins : List (Addr × Obj)} {σ : St} {H : Hp} {s : Shared} {R : It → Hp → Prop} {E : Value → Shared → Prop} {lo hi : Int} {t u v : Tok} {tk : Nat} (I : Inv X pins σ H s) (h1 : -(2 ^ 62) ≤ lo) (h2 : lo < 2 ^ 62) (h3 : -(2 ^ 62) ≤ hi) (h4 : hi < 2 ^ 62)
    (q : R (Itr lo (hi - lo).toNat) H) : wpAny (model X.prog X.w) X.A (pyIter (.ref s.heap.objs.size)) (PIE X pins σ tg R) E { s with heap := s.heap.push { cls := .type "range", data := .fields #[.int lo t, .int hi u, .int 1 v] }, toks := tk } := by
  refine wpAny_pyIter_range (IsRange.new ..) (small_one h1 h2 h3 h4) ?_
  have I1 : Inv X pins σ H { s with heap := s.heap.push { cls := .type "range", data := .fields #[.int lo t, .int hi u, .int 1 v] }, toks := tk } := I.kept fun b o e => Heap.get?_push_of_some _ e
  refine ⟨(s.heap.push { cls := .type "range", data := .fields #[.int lo t, .int hi u, .int 1 v] }).objs.size, [(s.heap.push { cls := .type "range", data := .fields #[.int lo t, .int hi u, .int 1 v] }).objs.size], _, _, H, rfl,
    I1.kept (t' := tk) fun b o e => Heap.get?_push_of_some _ e, turn_range _ lo (hi - lo).toNat, ?_, fun b hb => ?_, q⟩
  · have e1 : lo + ((0 : Nat) : Int) * 1 = lo := by simp
    have e2 : (((hi - lo).toNat : Nat) : Int) - ((0 : Nat) : Int) = Builtin.Range.rangeSize lo hi 1 := by rw [rangeSize_one]; split <;> omega
    show IsRangeIter _ _ (lo + ((0 : Nat) : Int) * 1) ((((hi - lo).toNat : Nat) : Int) - ((0 : Nat) : Int)) 1
    rw [e1, e2]
    exact Heap.get?_push_size _ rfl
  · have e : b = (s.heap.push { cls := .type "range", data := .fields #[.int lo t, .int hi u, .int 1 v] }).objs.size := by simpa using hb
    subst e
    exact I1.fpOk (Nat.le_refl _) (I1.hok.fresh (Nat.le_refl _))
def iRng1 (ta : TA) : TI := fun σ H R => ta σ H fun vs H1 => ∃ j : Int, vs = [.int j] ∧ -(2 ^ 62) ≤ j ∧ j < 2 ^ 62 ∧ R (Itr 0 j.toNat) H1
theorem pi_range1 {a : Expr} {ta : TA} {p pos : Pos} (hg : Gl X "range") (hm : X.mg "range" = none) (ha : PA X [a] ta) (hs : starEach [a] X.env = [(false, eval a X.env)] := by rfl) : PI X tg (.Call (.Name "range" p) [a] [] pos) (iRng1 ta) := by
  refine .mk ?_
  intro pins s σ H R I h
  refine Call_ (ld_blt I hg hm boot_range (PyProof.Rows.callWith_type1 (thn (ha pos pins s σ H _ I h) fun us s1 ⟨vs, H1, I1, r1, q1⟩ => ?_) hs rfl))
  obtain ⟨j, e, q1, q2, q⟩ := q1
  subst e
  cases r1 with
  | cons r rr =>
    cases rr
    obtain ⟨t, rfl⟩ := r
    exact call_range_1 (range_it I1 (by omega) (by omega) q1 q2 (by simpa using q))
/-! ### for -/
/-- W: the invariant by the turn and a measure; N: what the body is to reach -/
def tFor (wi : TI) (g : TG) (tb : TS) : TS := fun D σ H => wi σ H fun J H1 => ∃ W : Nat → Nat → St → Hp → Prop, (∃ m, W 0 m σ H1) ∧ ∀ i m σ H, W i m σ H →
  (J.stop i H ∧ D.nx σ H) ∨ (J.go i H ∧ ∃ N : St → Hp → Prop, (∀ σ' H', N σ' H' → ∃ m', m' < m ∧ W (i + 1) m' σ' H') ∧ ∀ x H', J.yld i H x H' → g x σ H' fun σ2 H2 => tb { D with nx := N, ct := N, bk := D.nx } σ2 H2)
/-- the records at fp as they stand -/
def pinsAt (fp : List Addr) (h : Heap) : List (Addr × Obj) := fp.filterMap fun b => (h.get? b).map fun o => (b, o)
theorem mem_pinsAt {fp : List Addr} {h : Heap} {b : Addr} {o : Obj} (hb : b ∈ fp) (e : h.get? b = some o) : (b, o) ∈ pinsAt fp h := List.mem_filterMap.mpr ⟨b, hb, by rw [e]; rfl⟩
theorem of_pinsAt {fp : List Addr} {h : Heap} {p : Addr × Obj} (hp : p ∈ pinsAt fp h) : p.1 ∈ fp ∧ h.get? p.1 = some p.2 := by
  obtain ⟨b, hb, e⟩ := List.mem_filterMap.mp hp
  cases q : h.get? b with
  | none => rw [q] at e; cases e
  | some o =>
    rw [q] at e
    have e' : (b, o) = p := Option.some.inj e
    subst e'
    exact ⟨hb, q⟩
theorem Inv.pinned {pins : List (Addr × Obj)} {σ : St} {H : Hp} {s : Shared} {fp : List Addr} (I : Inv X pins σ H s) (hf : ∀ b ∈ fp, FpOk X pins H b) (ho : ∀ b ∈ fp, ∃ o, s.heap.get? b = some o ∧ ∀ v, o.data ≠ .cell v) : Inv X (pins ++ pinsAt fp s.heap) σ H s :=
  I.pins_of fun p hp => (List.mem_append.mp hp).elim (fun z => I.pin p (List.mem_append_right _ z)) fun z => by
    obtain ⟨hb, e⟩ := of_pinsAt z
    obtain ⟨f0, f1, f2, _⟩ := hf p.1 hb
    obtain ⟨o, e', d⟩ := ho p.1 hb
    rw [e] at e'; cases e'
    exact ⟨e, f0, f1, f2, d⟩
theorem Inv.unpinned {pins pl : List (Addr × Obj)} {σ : St} {H : Hp} {s : Shared} (I : Inv X (pins ++ pl) σ H s) : Inv X pins σ H s := I.pins_of fun p hp => I.pin p (List.mem_append_right _ (List.mem_append_left _ hp))
theorem ps_for {iter : Expr} {body : List Stmt} {wi : TI} {g : TG} {tb : TS} {pos : Pos} (hp : PassesOwn (model X.prog X.w) X.A X.env X.xe) (hc : X.calm = true) (hi : PI X tg iter wi) (hg : PG X tg g) (hb : PSs X body tb)
    (hs : ∀ x, foldedSetIterable iter X.env x = pure x := by intro _; rfl) : PS X (.For tg iter body [] pos) (tFor wi g tb) := by
  refine .mk ?_
  intro pins s σ H D I h
  refine wpAny_For (thn (hi pins s σ H _ I h) fun v s1 h1 => thn h1 fun itv s2 h2 => ?_) hs
  obtain ⟨it, fp, tn, J, H2, e, I2, T, st2, f2, W, ⟨m0, w0⟩, turn⟩ := h2
  subst e
  -- what stays true of the iterator's objects through the loop
  have stat : ∀ {H' : Hp}, (∀ b ∈ fp, H' b = none) → ∀ b ∈ fp, FpOk X pins H' b := fun hn b hb => ⟨hn b hb, (f2 b hb).2⟩
  refine codeAny_forLoop_any (fun n s' => ∃ i σ' H', Inv X pins σ' H' s' ∧ tn i s'.heap ∧ (∀ b ∈ fp, H' b = none) ∧ W i n σ' H') ?_ m0 ⟨0, σ, H2, I2, st2, fun b hb => (f2 b hb).1, w0⟩
  rintro n s3 ⟨i, σ3, H3, I3, st3, fr3, w3⟩
  rcases turn i n σ3 H3 w3 with ⟨stop, qn⟩ | ⟨go, N, hN, step⟩
  · refine wpAny_passesOwn hp (thn (T.done X rfl rfl rfl hc i pins s3 σ3 H3 X.xe I3 (stat fr3) st3 stop) fun r s4 ⟨hr, I4⟩ => ?_)
    subst hr
    exact wpAny_execs_nil ⟨σ3, H3, I4, qn⟩
  · refine wpAny_passesOwn hp (thn (T.item X rfl rfl rfl hc i pins s3 σ3 H3 X.xe I3 (stat fr3) st3 go) fun r s4 ⟨u, hr, h4⟩ => ?_)
    subst hr
    refine wpAny_passesOwn hp (thn h4 fun _ s5 ⟨x, H5, I5, r5, y5, st5, fr5⟩ => ?_)
    have I5' := I5.pinned (stat fr5) (T.obj _ _ st5)
    refine wpAny_passesOwn hp (thn (hg _ s5 σ3 H5 x u _ I5' r5 (step x H5 y5)) fun _ s6 ⟨σ6, H6, I6, q6⟩ => ?_)
    refine wpAny_passesOwn hp (thn (hb _ s6 σ6 H6 _ I6 q6) fun f s7 q7 => ?_)
    have again : ∀ {σ7 : St} {H7 : Hp}, Inv X (pins ++ pinsAt fp s5.heap) σ7 H7 s7 → N σ7 H7 → ∃ m, m < n ∧ ∃ i σ' H', Inv X pins σ' H' s7 ∧ tn i s7.heap ∧ (∀ b ∈ fp, H' b = none) ∧ W i m σ' H' := fun {σ7 H7} I7 n7 => by
      obtain ⟨m', hm, w7⟩ := hN σ7 H7 n7
      refine ⟨m', hm, i + 1, σ7, H7, I7.unpinned, T.keep _ _ _ st5 fun b hb o e => (I7.pin (b, o) (List.mem_append_right _ (List.mem_append_right _ (mem_pinsAt hb e)))).1, fun b hb => ?_, w7⟩
      obtain ⟨o, e, d⟩ := T.obj _ _ st5 b hb
      exact (I7.pin (b, o) (List.mem_append_right _ (List.mem_append_right _ (mem_pinsAt hb e)))).2.1
    cases f with
    | next => obtain ⟨σ7, H7, I7, n7⟩ := q7; exact again I7 n7
    | cont => obtain ⟨σ7, H7, I7, n7⟩ := q7; exact again I7 n7
    | brk => obtain ⟨σ7, H7, I7, q7⟩ := q7; exact ⟨σ7, H7, I7.unpinned, q7⟩
    | ret v => obtain ⟨x7, σ7, H7, I7, r7, q7⟩ := q7; exact ⟨x7, σ7, H7, I7.unpinned, r7, q7⟩
end

/-! ### the forms one uses -/
/-- over a list that the body leaves as it is -/
theorem for_list {K : PySem.W.Frag} {a : Addr} {xs : List V} {g : TG} {tb : TS} {D : Ends} {σ : St} {H : Hp} (Pv : Nat → St → Hp → Prop) (h0 : Pv 0 σ H) (hl : ∀ i σ H, i ≤ xs.length → Pv i σ H → SqL K H a xs)
    (hs : ∀ i x σ H, xs[i]? = some x → Pv i σ H → g x σ H fun σ2 H2 => tb { D with nx := Pv (i + 1), ct := Pv (i + 1), bk := D.nx } σ2 H2) (hd : ∀ σ H, Pv xs.length σ H → D.nx σ H) :
    ∃ W : Nat → Nat → St → Hp → Prop, (∃ m, W 0 m σ H) ∧ ∀ i m σ H, W i m σ H →
      ((Itl K a).stop i H ∧ D.nx σ H) ∨ ((Itl K a).go i H ∧ ∃ N : St → Hp → Prop, (∀ σ' H', N σ' H' → ∃ m', m' < m ∧ W (i + 1) m' σ' H') ∧ ∀ x H', (Itl K a).yld i H x H' → g x σ H' fun σ2 H2 => tb { D with nx := N, ct := N, bk := D.nx } σ2 H2) := by
  refine ⟨fun i m σ H => m = xs.length - i ∧ i ≤ xs.length ∧ Pv i σ H, ⟨xs.length, by simp, Nat.zero_le _, h0⟩, ?_⟩
  rintro i m σ H ⟨rfl, hi, p⟩
  have q := hl i σ H hi p
  by_cases hlt : i < xs.length
  · refine .inr ⟨⟨xs, xs[i], q, by simp [hlt]⟩, Pv (i + 1), fun σ' H' p' => ⟨xs.length - (i + 1), by omega, rfl, hlt, p'⟩, fun x H' y => ?_⟩
    obtain ⟨e, y⟩ := y
    subst e
    exact hs i x σ _ (y xs q) p
  · have e : i = xs.length := by omega
    subst e
    exact .inl ⟨⟨xs, q, Nat.le_refl _⟩, hd σ H p⟩
theorem for_tup {K : PySem.W.Frag} {a : Addr} {xs : List V} {g : TG} {tb : TS} {D : Ends} {σ : St} {H : Hp} (Pv : Nat → St → Hp → Prop) (h0 : Pv 0 σ H) (hl : ∀ i σ H, i ≤ xs.length → Pv i σ H → SqT K H a xs)
    (hs : ∀ i x σ H, xs[i]? = some x → Pv i σ H → g x σ H fun σ2 H2 => tb { D with nx := Pv (i + 1), ct := Pv (i + 1), bk := D.nx } σ2 H2) (hd : ∀ σ H, Pv xs.length σ H → D.nx σ H) :
    ∃ W : Nat → Nat → St → Hp → Prop, (∃ m, W 0 m σ H) ∧ ∀ i m σ H, W i m σ H →
      ((Itt K a).stop i H ∧ D.nx σ H) ∨ ((Itt K a).go i H ∧ ∃ N : St → Hp → Prop, (∀ σ' H', N σ' H' → ∃ m', m' < m ∧ W (i + 1) m' σ' H') ∧ ∀ x H', (Itt K a).yld i H x H' → g x σ H' fun σ2 H2 => tb { D with nx := N, ct := N, bk := D.nx } σ2 H2) := by
  refine ⟨fun i m σ H => m = xs.length - i ∧ i ≤ xs.length ∧ Pv i σ H, ⟨xs.length, by simp, Nat.zero_le _, h0⟩, ?_⟩
  rintro i m σ H ⟨rfl, hi, p⟩
  have q := hl i σ H hi p
  by_cases hlt : i < xs.length
  · refine .inr ⟨⟨xs, xs[i], q, by simp [hlt]⟩, Pv (i + 1), fun σ' H' p' => ⟨xs.length - (i + 1), by omega, rfl, hlt, p'⟩, fun x H' y => ?_⟩
    obtain ⟨e, y⟩ := y
    subst e
    exact hs i x σ _ (y xs q) p
  · have e : i = xs.length := by omega
    subst e
    exact .inl ⟨⟨xs, q, Nat.le_refl _⟩, hd σ H p⟩
theorem for_range {lo : Int} {n : Nat} {g : TG} {tb : TS} {D : Ends} {σ : St} {H : Hp} (Pv : Nat → St → Hp → Prop) (h0 : Pv 0 σ H)
    (hs : ∀ i σ H, i < n → Pv i σ H → g (.int (lo + i)) σ H fun σ2 H2 => tb { D with nx := Pv (i + 1), ct := Pv (i + 1), bk := D.nx } σ2 H2) (hd : ∀ σ H, Pv n σ H → D.nx σ H) :
    ∃ W : Nat → Nat → St → Hp → Prop, (∃ m, W 0 m σ H) ∧ ∀ i m σ H, W i m σ H →
      ((Itr lo n).stop i H ∧ D.nx σ H) ∨ ((Itr lo n).go i H ∧ ∃ N : St → Hp → Prop, (∀ σ' H', N σ' H' → ∃ m', m' < m ∧ W (i + 1) m' σ' H') ∧ ∀ x H', (Itr lo n).yld i H x H' → g x σ H' fun σ2 H2 => tb { D with nx := N, ct := N, bk := D.nx } σ2 H2) := by
  refine ⟨fun i m σ H => m = n - i ∧ i ≤ n ∧ Pv i σ H, ⟨n, by simp, Nat.zero_le _, h0⟩, ?_⟩
  rintro i m σ H ⟨rfl, hi, p⟩
  by_cases hlt : i < n
  · refine .inr ⟨hlt, Pv (i + 1), fun σ' H' p' => ⟨n - (i + 1), by omega, rfl, hlt, p'⟩, fun x H' y => ?_⟩
    obtain ⟨e, y⟩ := y
    subst e y
    exact hs i σ _ hlt p
  · have e : i = n := by omega
    subst e
    exact .inl ⟨Nat.le_refl _, hd σ H p⟩
end L2

namespace L2
open PySem PySem.Spec PyProof.Rows

abbrev R2 := V → V → Hp → VK → Prop
/-- a two-place operation on values: f is binaryOp op, inplaceOp op or compareOp op -/
structure OpR (X : Cx) (f : Value → Value → Sem Value) (r : R2) : Prop where
  mk ::
  go :
  ∀ (pins : List (Addr × Obj)) (s : Shared) (σ : St) (H : Hp) (x y : V) (v u : Value) (Q : VK), Inv X pins σ H s → RelV x v → RelV y u → r x y H Q →
    wpAny (model X.prog X.w) X.A (f v u) (EP X pins σ Q) X.xe s
instance {X : Cx} {f : Value → Value → Sem Value} {r : R2} : CoeFun (OpR X f r) (fun _ =>
  ∀ (pins : List (Addr × Obj)) (s : Shared) (σ : St) (H : Hp) (x y : V) (v u : Value) (Q : VK), Inv X pins σ H s → RelV x v → RelV y u → r x y H Q →
    wpAny (model X.prog X.w) X.A (f v u) (EP X pins σ Q) X.xe s) := ⟨OpR.go⟩
/-- a one-place operation -/
structure UnR (X : Cx) (f : Value → Sem Value) (r : V → Hp → VK → Prop) : Prop where
  mk ::
  go :
  ∀ (pins : List (Addr × Obj)) (s : Shared) (σ : St) (H : Hp) (x : V) (v : Value) (Q : VK), Inv X pins σ H s → RelV x v → r x H Q →
    wpAny (model X.prog X.w) X.A (f v) (EP X pins σ Q) X.xe s
instance {X : Cx} {f : Value → Sem Value} {r : V → Hp → VK → Prop} : CoeFun (UnR X f r) (fun _ =>
  ∀ (pins : List (Addr × Obj)) (s : Shared) (σ : St) (H : Hp) (x : V) (v : Value) (Q : VK), Inv X pins σ H s → RelV x v → r x H Q →
    wpAny (model X.prog X.w) X.A (f v) (EP X pins σ Q) X.xe s) := ⟨UnR.go⟩
/-- a call of a value that is known (a builtin, a type) with values -/
structure CallR (X : Cx) (f : Value) (r : List V → Hp → VK → Prop) : Prop where
  mk ::
  go :
  ∀ (pins : List (Addr × Obj)) (s : Shared) (σ : St) (H : Hp) (xs : List V) (us : List Value) (Q : VK), Inv X pins σ H s → Vals xs us → r xs H Q →
    wpAny (model X.prog X.w) X.A (call f us) (EP X pins σ Q) X.xe s
instance {X : Cx} {f : Value} {r : List V → Hp → VK → Prop} : CoeFun (CallR X f r) (fun _ =>
  ∀ (pins : List (Addr × Obj)) (s : Shared) (σ : St) (H : Hp) (xs : List V) (us : List Value) (Q : VK), Inv X pins σ H s → Vals xs us → r xs H Q →
    wpAny (model X.prog X.w) X.A (call f us) (EP X pins σ Q) X.xe s) := ⟨CallR.go⟩
def tOp (r : R2) (ta tb : TE) : TE := fun σ H Q => ta σ H fun x H1 => tb σ H1 fun y H2 => r x y H2 Q
def tUn (r : V → Hp → VK → Prop) (ta : TE) : TE := fun σ H Q => ta σ H fun x H1 => r x H1 Q
/-- ints in, under C, and a value out -/
def rI (C : Int → Int → Prop) (g : Int → Int → V) : R2 := fun x y H Q => ∃ i j, x = .int i ∧ y = .int j ∧ C i j ∧ Q (g i j) H
def rI0 (g : Int → Int → V) : R2 := fun x y H Q => ∃ i j, x = .int i ∧ y = .int j ∧ Q (g i j) H
def rU (g : Int → V) : V → Hp → VK → Prop := fun x H Q => ∃ i, x = .int i ∧ Q (g i) H

section
variable {X : Cx} {a b c : Expr} {ta tb tc : TE} {pos : Pos}

theorem binT (ha : PE X a ta) (hb : PE X b tb) {pins : List (Addr × Obj)} {s : Shared} {σ : St} {H : Hp} {R : V → V → Hp → Prop} (I : Inv X pins σ H s)
    (h : ta σ H fun x H1 => tb σ H1 fun y H2 => R x y H2) {Q : Value → Shared → Prop} {f : Value → Value → Sem Value}
    (hf : ∀ v u s2 x y H2, Inv X pins σ H2 s2 → RelV x v → RelV y u → R x y H2 → wpAny (model X.prog X.w) X.A (f v u) Q X.xe s2) :
    wpAny (model X.prog X.w) X.A (eval a X.env) (fun v s₁ => wpAny (model X.prog X.w) X.A (eval b X.env) (fun u s₂ => wpAny (model X.prog X.w) X.A (f v u) Q X.xe s₂) X.xe s₁) X.xe s := by
  refine thn (ha pins s σ H _ I h) fun v s1 ⟨x, H1, I1, r1, q1⟩ => ?_
  refine thn (hb pins s1 σ H1 _ I1 q1) fun u s2 ⟨y, H2, I2, r2, q2⟩ => ?_
  exact hf v u s2 x y H2 I2 r1 r2 q2

theorem pe_op {op : Operator} {r : R2} (ho : OpR X (binaryOp op) r) (ha : PE X a ta) (hb : PE X b tb) : PE X (.BinOp a op b pos) (tOp r ta tb) := by
  refine .mk ?_
  intro pins s σ H Q I h
  exact wpAny_BinOp (binT ha hb I h fun v u s2 x y H2 I2 rx ry q => ho pins s2 σ H2 x y v u Q I2 rx ry q)
/-! ### ints -/
theorem opI {f : Value → Value → Sem Value} {C : Int → Int → Prop} {g : Int → Int → Int}
    (rule : ∀ (i j : Int) (t u : Tok) (s : Shared) (Q : Value → Shared → Prop) (E : Value → Shared → Prop), C i j → Q (.int (g i j) s.toks) { s with toks := s.toks + 1 } → wpAny (model X.prog X.w) X.A (f (.int i t) (.int j u)) Q E s) :
    OpR X f (rI C fun i j => .int (g i j)) := by
  refine .mk ?_
  intro pins s σ H x y v u Q I rx ry h
  obtain ⟨i, j, rfl, rfl, hc, q⟩ := h
  obtain ⟨t, rfl⟩ := rx
  obtain ⟨t', rfl⟩ := ry
  exact rule i j t t' s _ _ hc ⟨.int (g i j), H, I.tok _, ⟨_, rfl⟩, q⟩
theorem opI0 {f : Value → Value → Sem Value} {g : Int → Int → Int}
    (rule : ∀ (i j : Int) (t u : Tok) (s : Shared) (Q : Value → Shared → Prop) (E : Value → Shared → Prop), Q (.int (g i j) s.toks) { s with toks := s.toks + 1 } → wpAny (model X.prog X.w) X.A (f (.int i t) (.int j u)) Q E s) :
    OpR X f (rI0 fun i j => .int (g i j)) := by
  refine .mk ?_
  intro pins s σ H x y v u Q I rx ry h
  obtain ⟨i, j, rfl, rfl, q⟩ := h
  obtain ⟨t, rfl⟩ := rx
  obtain ⟨t', rfl⟩ := ry
  exact rule i j t t' s _ _ ⟨.int (g i j), H, I.tok _, ⟨_, rfl⟩, q⟩
theorem opB0 {f : Value → Value → Sem Value} {g : Int → Int → Bool}
    (rule : ∀ (i j : Int) (t u : Tok) (s : Shared) (Q : Value → Shared → Prop) (E : Value → Shared → Prop), Q (.bool (g i j)) s → wpAny (model X.prog X.w) X.A (f (.int i t) (.int j u)) Q E s) :
    OpR X f (rI0 fun i j => .bl (g i j)) := by
  refine .mk ?_
  intro pins s σ H x y v u Q I rx ry h
  obtain ⟨i, j, rfl, rfl, q⟩ := h
  obtain ⟨t, rfl⟩ := rx
  obtain ⟨t', rfl⟩ := ry
  exact rule i j t t' s _ _ ⟨.bl (g i j), H, I, rfl, q⟩

def CDiv (i j : Int) : Prop := 0 < j ∧ j < 1073741824
def CPow (i j : Int) : Prop := 0 ≤ j ∧ j ≤ 1000000 ∧ i.natAbs < 2 ^ 64
def CMul (i j : Int) : Prop := (-(2 ^ 64) < i ∧ i < 2 ^ 64) ∨ (-(2 ^ 64) < j ∧ j < 2 ^ 64)
theorem CMul.ok {i j : Int} (h : CMul i j) : IntMulOk i j := by
  rcases h with ⟨h1, h2⟩ | ⟨h1, h2⟩
  · exact .of_left (intBits_le_64 h1 h2)
  · exact .of_right (intBits_le_64 h1 h2)
theorem op_add : OpR X (binaryOp .Add) (rI0 fun i j => .int (i + j)) := opI0 fun _ _ _ _ _ _ _ q => add_int q
theorem op_sub : OpR X (binaryOp .Sub) (rI0 fun i j => .int (i - j)) := opI0 fun _ _ _ _ _ _ _ q => sub_int q
theorem op_mul : OpR X (binaryOp .Mult) (rI CMul fun i j => .int (i * j)) := opI fun _ _ _ _ _ _ _ hc q => mul_int q hc.ok
/-- // by a positive divisor -/
theorem op_fdiv : OpR X (binaryOp .FloorDiv) (rI CDiv fun i j => .int (i / j)) := opI fun i j _ _ _ _ _ hc q => by
  have h1 : (0 : Int) < j := hc.1
  have h2 : j < 1073741824 := hc.2
  exact floordiv_int (by omega) (by rw [Int.fdiv_eq_ediv_of_nonneg i (by omega)]; exact q) (.inl (PyProof.noPylong_small (by omega)))
/-- % by a positive divisor of any size -/
theorem op_mod : OpR X (binaryOp .Mod) (rI (fun _ j => 0 < j) fun i j => .int (i % j)) := opI fun i j _ _ _ _ _ hc q => by
  have h1 : (0 : Int) < j := hc
  exact mod_int' (by omega) (by rw [Int.fmod_eq_emod_of_nonneg i (by omega)]; exact q)
theorem op_pow : OpR X (binaryOp .Pow) (rI CPow fun i j => .int (i ^ j.toNat)) := opI fun _ _ _ _ _ _ _ hc q => pow_int_small hc.1 hc.2.1 hc.2.2 q
/-! ### bools among ints: n += (a < b) -/
end

/-! ### comparisons -/
/-- the scalars that == tells apart as data does -/
def scal : V → V → Bool
  | .non, .non => true | .non, .int _ => true | .int _, .non => true | .non, .bl _ => true | .bl _, .non => true | .non, .str _ => true | .str _, .non => true
  | .int _, .int _ => true | .bl _, .bl _ => true | .str _, .str _ => true | .byt _, .byt _ => true
  | .int _, .str _ => true | .str _, .int _ => true | .bl _, .str _ => true | .str _, .bl _ => true
  | _, _ => false
def rEq : R2 := fun x y H Q => scal x y = true ∧ Q (.bl (decide (x = y))) H
def rNe : R2 := fun x y H Q => scal x y = true ∧ Q (.bl (!decide (x = y))) H

theorem dec_int {i j : Int} : decide (V.int i = V.int j) = (i == j) := by
  rw [Bool.eq_iff_iff]
  simp
theorem dec_bl {i j : Bool} : decide (V.bl i = V.bl j) = (i == j) := by
  rw [Bool.eq_iff_iff]
  simp
theorem dec_str {i j : Str} : decide (V.str i = V.str j) = (i == j) := by
  rw [Bool.eq_iff_iff]
  simp
theorem dec_byt {i j : Array UInt8} : decide (V.byt i = V.byt j) = (i.toList == j.toList) := by
  rw [Bool.eq_iff_iff]
  cases i
  cases j
  simp

section
variable {X : Cx} {a b c : Expr} {ta tb tc : TE} {pos : Pos}
theorem fin_bl {pins : List (Addr × Obj)} {σ : St} {H : Hp} {s : Shared} {Q : VK} {k k' : Bool} (I : Inv X pins σ H s) (q : Q (.bl k) H) (e : k = k') : EP X pins σ Q (.bool k') s := by
  subst e
  exact ⟨.bl k, H, I, rfl, q⟩
theorem op_eq : OpR X (compareOp .Eq) rEq := by
  refine .mk ?_
  intro pins s σ H x y v u Q I rx ry h
  obtain ⟨hs, q⟩ := h
  cases x with
  | non =>
    cases rx
    cases y with
    | non => cases ry; exact PySem.EqNone.eq_none_none (fin_bl I q (by simp))
    | bl j => cases ry; exact PySem.EqNone.eq_none_bool (fin_bl I q (by simp))
    | int j => obtain ⟨t', rfl⟩ := ry; exact PySem.EqNone.eq_none_int (fin_bl I q (by simp))
    | str j => obtain ⟨t', rfl⟩ := ry; exact PySem.EqNone.eq_none_str (fin_bl I q (by simp))
    | _ => exact absurd (show false = true from hs) Bool.false_ne_true
  | bl i =>
    cases rx
    cases y with
    | non => cases ry; exact PySem.EqNone.eq_bool_none (fin_bl I q (by simp))
    | bl j => cases ry; exact eq_bool (fin_bl I q dec_bl)
    | str j => obtain ⟨t', rfl⟩ := ry; exact PySem.EqMixed.eq_bool_str (fin_bl I q (by simp))
    | _ => exact absurd (show false = true from hs) Bool.false_ne_true
  | int i =>
    obtain ⟨t, rfl⟩ := rx
    cases y with
    | non => cases ry; exact PySem.EqNone.eq_int_none (fin_bl I q (by simp))
    | int j => obtain ⟨t', rfl⟩ := ry; exact eq_int (fin_bl I q dec_int)
    | str j => obtain ⟨t', rfl⟩ := ry; exact PySem.EqMixed.eq_int_str (fin_bl I q (by simp))
    | _ => exact absurd (show false = true from hs) Bool.false_ne_true
  | str i =>
    obtain ⟨t, rfl⟩ := rx
    cases y with
    | non => cases ry; exact PySem.EqNone.eq_str_none (fin_bl I q (by simp))
    | bl j => cases ry; exact PySem.EqMixed.eq_str_bool (fin_bl I q (by simp))
    | int j => obtain ⟨t', rfl⟩ := ry; exact PySem.EqMixed.eq_str_int (fin_bl I q (by simp))
    | str j => obtain ⟨t', rfl⟩ := ry; exact eq_str (fin_bl I q dec_str)
    | _ => exact absurd (show false = true from hs) Bool.false_ne_true
  | byt i =>
    obtain ⟨t, rfl⟩ := rx
    cases y with
    | byt j => obtain ⟨t', rfl⟩ := ry; exact PySem.W.eq_bytes (fin_bl I q dec_byt)
    | _ => exact absurd (show false = true from hs) Bool.false_ne_true
  | _ => cases y <;> exact absurd (show false = true from hs) Bool.false_ne_true
theorem op_ne : OpR X (compareOp .NotEq) rNe := by
  refine .mk ?_
  intro pins s σ H x y v u Q I rx ry h
  obtain ⟨hs, q⟩ := h
  cases x with
  | non =>
    cases rx
    cases y with
    | non => cases ry; exact PySem.EqNone.ne_none_none (fin_bl I q (by simp))
    | bl j => cases ry; exact PySem.EqNone.ne_none_bool (fin_bl I q (by simp))
    | int j => obtain ⟨t', rfl⟩ := ry; exact PySem.EqNone.ne_none_int (fin_bl I q (by simp))
    | str j => obtain ⟨t', rfl⟩ := ry; exact PySem.EqNone.ne_none_str (fin_bl I q (by simp))
    | _ => exact absurd (show false = true from hs) Bool.false_ne_true
  | bl i =>
    cases rx
    cases y with
    | non => cases ry; exact PySem.EqNone.ne_bool_none (fin_bl I q (by simp))
    | bl j => cases ry; exact ne_bool (fin_bl I q (congrArg not dec_bl))
    | str j => obtain ⟨t', rfl⟩ := ry; exact PySem.EqMixed.ne_bool_str (fin_bl I q (by simp))
    | _ => exact absurd (show false = true from hs) Bool.false_ne_true
  | int i =>
    obtain ⟨t, rfl⟩ := rx
    cases y with
    | non => cases ry; exact PySem.EqNone.ne_int_none (fin_bl I q (by simp))
    | int j => obtain ⟨t', rfl⟩ := ry; exact ne_int (fin_bl I q (congrArg not dec_int))
    | str j => obtain ⟨t', rfl⟩ := ry; exact PySem.EqMixed.ne_int_str (fin_bl I q (by simp))
    | _ => exact absurd (show false = true from hs) Bool.false_ne_true
  | str i =>
    obtain ⟨t, rfl⟩ := rx
    cases y with
    | non => cases ry; exact PySem.EqNone.ne_str_none (fin_bl I q (by simp))
    | bl j => cases ry; exact PySem.EqMixed.ne_str_bool (fin_bl I q (by simp))
    | int j => obtain ⟨t', rfl⟩ := ry; exact PySem.EqMixed.ne_str_int (fin_bl I q (by simp))
    | str j => obtain ⟨t', rfl⟩ := ry; exact ne_str (fin_bl I q (congrArg not dec_str))
    | _ => exact absurd (show false = true from hs) Bool.false_ne_true
  | byt i =>
    obtain ⟨t, rfl⟩ := rx
    cases y with
    | byt j => obtain ⟨t', rfl⟩ := ry; exact PySem.W.ne_bytes (fin_bl I q (congrArg not dec_byt))
    | _ => exact absurd (show false = true from hs) Bool.false_ne_true
  | _ => cases y <;> exact absurd (show false = true from hs) Bool.false_ne_true

theorem op_lt : OpR X (compareOp .Lt) (rI0 fun i j => .bl (decide (i < j))) := opB0 fun _ _ _ _ _ _ _ q => lt_int q
theorem op_le : OpR X (compareOp .LtE) (rI0 fun i j => .bl (decide (i ≤ j))) := opB0 fun _ _ _ _ _ _ _ q => le_int q
theorem op_gt : OpR X (compareOp .Gt) (rI0 fun i j => .bl (decide (j < i))) := opB0 fun _ _ _ _ _ _ _ q => gt_int q
theorem op_ge : OpR X (compareOp .GtE) (rI0 fun i j => .bl (decide (j ≤ i))) := opB0 fun _ _ _ _ _ _ _ q => ge_int q
/-- the one string within the other -/
theorem op_in_str : OpR X (compareOp .In) (fun x y H Q => ∃ i j, x = .str i ∧ y = .str j ∧ Q (.bl (!(Builtin.Str.occurrences j i 0 j.length 1).isEmpty)) H) := by
  refine .mk ?_
  intro pins s σ H x y v u Q I rx ry h
  obtain ⟨i, j, rfl, rfl, q⟩ := h
  obtain ⟨t, rfl⟩ := rx
  obtain ⟨t', rfl⟩ := ry
  exact in_str (fin_bl I q rfl)

/-- is None, is not None: the right side a value none -/
theorem op_isN : OpR X (compareOp .Is) (fun x y H Q => y = .non ∧ Q (.bl (decide (x = .non))) H) := by
  refine .mk ?_
  intro pins s σ H x y v u Q I rx ry h
  obtain ⟨rfl, q⟩ := h
  cases ry
  refine is_none_gen (fin_bl I q ?_)
  cases x <;> first
    | (cases rx; rfl)
    | (obtain ⟨t, rfl⟩ := rx; rfl)
/-- two rules for one operation: by cases -/
theorem OpR.or {f : Value → Value → Sem Value} {r r' : R2} (h : OpR X f r) (h' : OpR X f r') : OpR X f (fun x y H Q => r x y H Q ∨ r' x y H Q) := by
  refine .mk ?_
  intro pins s σ H x y v u Q I rx ry q
  rcases q with q | q
  · exact h pins s σ H x y v u Q I rx ry q
  · exact h' pins s σ H x y v u Q I rx ry q

theorem nomark (b : Expr) {op : CmpOp} (h : op ≠ .In := by decide) (h2 : op ≠ .NotIn := by decide) : behindInMarks op b = false := by
  have e1 : (op == CmpOp.In) = false := by cases op <;> first | rfl | exact absurd rfl h
  have e2 : (op == CmpOp.NotIn) = false := by cases op <;> first | rfl | exact absurd rfl h2
  cases b <;> simp [behindInMarks, e1, e2]
/-- a comparison as a value; hm: nomark b, or (for in, not in) by with_unfolding_all rfl -/
theorem pe_cmpR {op : CmpOp} {r : R2} (ho : OpR X (compareOp op) r) (ha : PE X a ta) (hb : PE X b tb) (hm : behindInMarks op b = false) : PE X (.Compare a [op] [b] pos) (tOp r ta tb) := by
  refine .mk ?_
  intro pins s σ H Q I h
  exact wpAny_Compare1 (binT ha hb I h fun v u s2 x y H2 I2 rx ry q => ho pins s2 σ H2 x y v u Q I2 rx ry q) hm
/-- a reading of a value as a test -/
def tTest (t : TE) : TT := fun σ H Q => t σ H fun x H' => ∃ k, x = .bl k ∧ Q k H'
theorem pt_cmpR {op : CmpOp} {r : R2} (ho : OpR X (compareOp op) r) (ha : PE X a ta) (hb : PE X b tb) (hm : behindInMarks op b = false) : PT X (.Compare a [op] [b] pos) (tTest (tOp r ta tb)) := by
  refine .mk ?_
  intro pins s σ H Q I h
  refine wpAny_isTrue_Compare1 (thn (ha pins s σ H _ I h) fun v s1 ⟨x, H1, I1, r1, q1⟩ => thn (hb pins s1 σ H1 _ I1 q1) fun u s2 ⟨y, H2, I2, r2, q2⟩ =>
    thn (ho pins s2 σ H2 x y v u _ I2 r1 r2 q2) fun c s3 ⟨z, H3, I3, r3, k, e, q3⟩ => ?_) hm
  subst e
  cases r3
  exact wpAny_truthy_bool ⟨H3, I3, q3⟩
/-- a op1 b op2 c -/
def tChain (r r' : R2) (ta tb tc : TE) : TE := fun σ H Q => ta σ H fun x H1 => tb σ H1 fun y H2 => r x y H2 fun z H3 => ∃ k, z = .bl k ∧
  (if k = true then tc σ H3 fun w' H4 => r' y w' H4 Q else Q (.bl false) H3)
theorem pt_chain {op op' : CmpOp} {r r' : R2} (ho : OpR X (compareOp op) r) (ho' : OpR X (compareOp op') r') (ha : PE X a ta) (hb : PE X b tb) (hc : PE X c tc)
    (hm : lastMarks [op, op'] [b, c] = false := by with_unfolding_all rfl) : PT X (.Compare a [op, op'] [b, c] pos) (tTest (tChain r r' ta tb tc)) := by
  refine .mk ?_
  intro pins s σ H Q I h
  refine isTrue_chain (thn (ha pins s σ H _ I h) fun v s1 ⟨x, H1, I1, r1, q1⟩ => test_link (thn (hb pins s1 σ H1 _ I1 q1) fun u s2 ⟨y, H2, I2, r2, q2⟩ =>
    thn (ho pins s2 σ H2 x y v u _ I2 r1 r2 q2) fun d s3 ⟨z, H3, I3, r3, k, e, q3⟩ => ?_)) hm
  subst e
  cases r3
  refine wpAny_truthy_bool ?_
  cases k with
  | false =>
    obtain ⟨k', e', q'⟩ := q3
    cases e'
    exact ite_ff ⟨H3, I3, q'⟩
  | true =>
    refine ite_tt (test_last (thn (hc pins s3 σ H3 _ I3 q3) fun w' s4 ⟨z', H4, I4, r4, q4⟩ => thn (ho' pins s4 σ H4 y z' u w' _ I4 r2 r4 q4) fun d' s5 ⟨z2, H5, I5, r5, k2, e2, q5⟩ => ?_))
    subst e2
    cases r5
    exact wpAny_truthy_bool ⟨H5, I5, q5⟩

/-! ### truth -/
/-- a value's truth by the abstract heap -/
def TruV (K : PySem.W.Frag) (x : V) (H : Hp) (k : Bool) : Prop :=
  match x with
  | .non => k = false
  | .bl b => k = b
  | .int i => k = (i != 0)
  | .str y => y.length ≤ sizeLine ∧ k = ((y.length : Int) != 0)
  | .byt y => y.size ≤ sizeLine ∧ k = ((y.size : Int) != 0)
  | .ref p => (∃ xs, SqL K H p xs ∧ k = !xs.isEmpty) ∨ (∃ xs, SqT K H p xs ∧ k = !xs.isEmpty) ∨ ∃ kvs, H p = some (.dK kvs) ∧ k = !kvs.isEmpty
  | _ => False
theorem line63 : (sizeLine : Nat) < 2 ^ 63 := by rw [sizeLine_eq]; decide
/-! ### strs and bytes -/
theorem op_add_str : OpR X (binaryOp .Add) (fun x y H Q => ∃ i j, x = .str i ∧ y = .str j ∧ i.length + j.length ≤ sizeLine ∧ Q (.str (i ++ j)) H) := by
  refine .mk ?_
  intro pins s σ H x y v u Q I rx ry h
  obtain ⟨i, j, rfl, rfl, hz, q⟩ := h
  obtain ⟨t, rfl⟩ := rx
  obtain ⟨t', rfl⟩ := ry
  exact add_str (fun t' tk => ⟨.str (i ++ j), H, I.tok _, ⟨_, rfl⟩, q⟩) hz
/-! ### scalar builtins, by CallR -/
theorem vals1 {x : V} {us : List Value} (r : Vals [x] us) : ∃ u, us = [u] ∧ RelV x u := by
  cases r with
  | cons r1 r2 => cases r2; exact ⟨_, rfl, r1⟩
theorem vals2 {x y : V} {us : List Value} (r : Vals [x, y] us) : ∃ u w', us = [u, w'] ∧ RelV x u ∧ RelV y w' := by
  cases r with
  | cons r1 r2 =>
    cases r2 with
    | cons r3 r4 => cases r4; exact ⟨_, _, rfl, r1, r3⟩
theorem call_abs : CallR X (.builtin "abs") (fun xs H Q => ∃ i, xs = [.int i] ∧ Q (.int (if i < 0 then -i else i)) H) := by
  refine .mk ?_
  intro pins s σ H xs us Q I r h
  obtain ⟨i, rfl, q⟩ := h
  obtain ⟨u, rfl, t, rfl⟩ := vals1 r
  exact call_abs_int fun u tk => ⟨.int (if i < 0 then -i else i), H, I.tok _, ⟨_, rfl⟩, q⟩
theorem call_max2 (hc : X.calm = true) : CallR X (.builtin "max") (fun xs H Q => ∃ i j, xs = [.int i, .int j] ∧ Q (.int (if j > i then j else i)) H) := by
  refine .mk ?_
  intro pins s σ H xs us Q I r h
  obtain ⟨i, j, rfl, q⟩ := h
  obtain ⟨u, w', rfl, ⟨t, rfl⟩, ⟨t', rfl⟩⟩ := vals2 r
  refine max_two_ints (I.ok.hd hc) fun h' tk k => ⟨_, H, I.kept k, ?_, q⟩
  by_cases hj : j > i
  · rw [if_pos hj, if_pos hj]; exact ⟨_, rfl⟩
  · rw [if_neg hj, if_neg hj]; exact ⟨_, rfl⟩
theorem call_min2 (hc : X.calm = true) : CallR X (.builtin "min") (fun xs H Q => ∃ i j, xs = [.int i, .int j] ∧ Q (.int (if j < i then j else i)) H) := by
  refine .mk ?_
  intro pins s σ H xs us Q I r h
  obtain ⟨i, j, rfl, q⟩ := h
  obtain ⟨u, w', rfl, ⟨t, rfl⟩, ⟨t', rfl⟩⟩ := vals2 r
  refine min_two_ints (I.ok.hd hc) fun h' tk k => ⟨_, H, I.kept k, ?_, q⟩
  by_cases hj : j < i
  · rw [if_pos hj, if_pos hj]; exact ⟨_, rfl⟩
  · rw [if_neg hj, if_neg hj]; exact ⟨_, rfl⟩
theorem call_str_int : CallR X (.type "str") (fun xs H Q => ∃ i, xs = [.int i] ∧ i.natAbs.log2 < 1920 ∧ Q (.str (toString i)) H) := by
  refine .mk ?_
  intro pins s σ H xs us Q I r h
  obtain ⟨i, rfl, hz, q⟩ := h
  obtain ⟨u, rfl, t, rfl⟩ := vals1 r
  exact PySem.P.str_of_int hz ⟨.str _, H, I.tok _, ⟨_, rfl⟩, q⟩
end
end L2

namespace L2
open PySem PySem.Spec PyProof.Rows

/-! ### an instance, its attributes a map -/
structure ObjM (h : Heap) (x dx C : Addr) (mA : Str → Option Value) : Prop where
  obj : h.get? x = some (PySem.W.instObj C dx)
  ns : h.Ns1 dx mA
  ne : dx ≠ x

theorem lookIn_ns {h : Heap} {dx : Addr} {mA : Str → Option Value} (n : h.Ns1 dx mA) : ∃ od, h.get? dx = some od ∧ ∀ name, PySem.W.lookIn name od = some (mA name) := by
  obtain ⟨o, es, ep, ho, hd, hk, _, hm⟩ := n
  refine ⟨o, ho, fun name => ?_⟩
  have e := hm name
  unfold nsFind findBy at e
  rw [← Array.find?_toList] at e
  unfold PySem.W.lookIn
  rw [hd]
  dsimp only
  split
  · rename_i y q
    rw [q] at e
    exact congrArg some e
  · rename_i q
    rw [q] at e
    have a : es.toList.any (·.refKey) = false := by
      rw [List.any_eq_false]
      intro y hy
      obtain ⟨z, t, hkey⟩ := hk y (Array.mem_toList_iff.mp hy)
      simp [DictEntry.refKey, hkey]
    have a' : ¬ es.toList.any (·.refKey) = true := by rw [a]; exact Bool.false_ne_true
    rw [if_neg a']
    exact congrArg some e

theorem ObjM.look {h : Heap} {x dx C : Addr} {mA : Str → Option Value} (I : ObjM h x dx C mA) : ∃ od, PySem.W.InstAt h x (PySem.W.instObj C dx) C (some od) ∧ ∀ name, PySem.W.lookIn name od = some (mA name) :=
  let ⟨od, ho, hl⟩ := lookIn_ns I.ns
  ⟨od, ⟨I.obj, rfl, rfl, ho⟩, hl⟩

section
variable {prog : Program} {w : World} {A : Around} {E : Value → Shared → Prop} {s : Shared} {K : PySem.W.Frag} {x dx C f : Addr} {mA : Str → Option Value} {name : Str} {v : Value}

end

/-! ### the attributes as a list of pairs -/
theorem RelO.none_of {o : Option Value} (r : RelO none o) : o = none := by
  cases o with
  | none => rfl
  | some u => exact (show False from r).elim
section
variable {P : Program} {w : World} {H H' : Hp} {h h' : Heap} {a C dx : Addr} {fs fs' : List (Str × V)}
theorem ins_get (hok : HOk P w H h) (e : H a = some (.ins C dx fs)) : ∃ mA, ObjM h a dx C mA ∧ (∀ f, RelO (fs.lookup f) (mA f)) ∧ PySem.Within mA (fs.map (·.1)) ∧ fs.length ≤ 1000 ∧ H dx = some (.own a) := by
  obtain ⟨d, z, ne, ob, mA, n, r, q⟩ := (show ObjOk P w H h a (.ins C dx fs) from hok a _ e)
  exact ⟨mA, ⟨ob, n, ne⟩, r, q, z, d⟩
end

/-! ### what of the text a class must have -/
structure Cls (K : PySem.W.Frag) (C : Addr) : Prop where
  pg : PySem.W.plainGet K C Str.empty = true
  hd : PySem.W.hasDictIn K C = true
  po : PySem.W.plainOver K C = true
  sa : PySem.W.findIn K (.ref C) "__setattr__" = some (some (.builtin "object.__setattr__"))
theorem Cls.get {K : PySem.W.Frag} {C : Addr} (c : Cls K C) (f : Str) : PySem.W.plainGet K C f = true := c.pg
/-- a constant of the class -/
structure Con (K : PySem.W.Frag) (C : Addr) (f : Str) (v : V) (u : Value) : Prop where
  at_ : PySem.W.findIn K (.ref C) f = some (some u)
  rel : RelV v u
  get : PySem.W.specialIn K u "__get__" = some none
  cp : PySem.W.copiedNames.contains f = false
/-- a method: a plain def of the class or of one above it -/
structure Meth (K : PySem.W.Frag) (C : Addr) (m : Str) (f : Addr) : Prop where
  at_ : PySem.W.findIn K (.ref C) m = some (some (.ref f))
  fn : PySem.W.isFn K (.ref f) = true
  kp : PySem.W.keepIn K (.ref f) = true

section
variable {X : Cx} {pins : List (Addr × Obj)} {σ : St} {H : Hp} {s : Shared} {a C dx : Addr} {fs : List (Str × V)} {f : Str} {v : V} {A : Around} {E : Value → Shared → Prop}

/-- a new instance, tracked, without attributes -/
theorem Inv.made (I : Inv X pins σ H s) : Inv X pins σ (upd (upd H s.heap.objs.size (.own (s.heap.objs.size + 1))) (s.heap.objs.size + 1) (.ins C s.heap.objs.size []))
    { s with heap := (s.heap.push PySem.W.emptyDict).push (PySem.W.instObj C s.heap.objs.size) } := by
  have e1 : (s.heap.push PySem.W.emptyDict).get? s.heap.objs.size = some PySem.W.emptyDict := Heap.get?_push_size s.heap rfl
  have e2 : ((s.heap.push PySem.W.emptyDict).push (PySem.W.instObj C s.heap.objs.size)).get? (s.heap.objs.size + 1) = some (PySem.W.instObj C s.heap.objs.size) := by
    have := Heap.get?_push_size (s.heap.push PySem.W.emptyDict) (o := PySem.W.instObj C s.heap.objs.size) rfl
    rwa [Heap.size_push] at this
  have e3 : (s.heap.push PySem.W.emptyDict).Ns s.heap.objs.size (fun _ => none) := ⟨PySem.W.emptyDict, #[], _, e1, rfl, (fun e he => absurd he (by simp)), fun _ => rfl⟩
  have I1 := I.laid (a := s.heap.objs.size) (o := .own (s.heap.objs.size + 1)) (h' := s.heap.push PySem.W.emptyDict) (t' := s.toks) (fun b u q => Heap.get?_push_of_some _ q) (Nat.le_refl _) ⟨_, e1⟩
  refine I1.laid (a := s.heap.objs.size + 1) (o := .ins C s.heap.objs.size []) (t' := s.toks) (fun b u q => Heap.get?_push_of_some _ q) (Nat.le_of_eq (Heap.size_push _ _)) ?_
  have ne : s.heap.objs.size ≠ s.heap.objs.size + 1 := Nat.ne_of_lt (Nat.lt_succ_self _)
  refine ⟨by rw [upd_ne ne, upd_same], Nat.zero_le _, ne, e2, fun _ => none, (Heap.Ns1.of_empty e3).at fun o q => Heap.get?_push_of_some _ q, fun _ => True.intro, fun y hy => absurd rfl hy⟩

end

/-! ### readings and rules -/
section
variable {X : Cx} {o e value : Expr} {f : Str} {pos pos' tpos : Pos} {ta tv : TE}
end

/-! ### isinstance -/
section
variable {X : Cx} {pins : List (Addr × Obj)} {σ : St} {H : Hp} {s : Shared} {A : Around} {E : Value → Shared → Prop} {Q : Value → Shared → Prop} {c : Value} {b : Bool}
/-- the type of a value, as the fragment's deciders take it; for an instance its class -/
inductive TyOf (K : PySem.W.Frag) (H : Hp) : V → Value → Prop where
  | non : TyOf K H .non (.type "NoneType")
  | bl (x : Bool) : TyOf K H (.bl x) (.type "bool")
  | int (i : Int) : TyOf K H (.int i) (.type "int")
  | str (x : Str) : TyOf K H (.str x) (.type "str")
  | flt (x : UInt64) : TyOf K H (.flt x) (.type "float")
  | lst {a : Addr} {xs : List V} (e : H a = some (.lst xs)) : TyOf K H (.ref a) (.type "list")
  | frz {a : Addr} {o : Obj} {xs : List V} (e : H a = some (.frz o (.lst xs))) : TyOf K H (.ref a) (.type "list")
  | tup {a : Addr} {xs : List V} (e : H a = some (.tup xs)) : TyOf K H (.ref a) (.type "tuple")
  | dK {a : Addr} {kvs : List (Key × V)} (e : H a = some (.dK kvs)) : TyOf K H (.ref a) (.type "dict")
  | dT {a : Addr} {kvs : List (List Key × V)} (e : H a = some (.dT kvs)) : TyOf K H (.ref a) (.type "dict")
  | ins {a C dx : Addr} {fs : List (Str × V)} (e : H a = some (.ins C dx fs)) (cl : Cls K C) (ha : PySem.W.findIn K (.ref C) "__class__" = some (some (.builtin "object.__class__")))
      (hn : PySem.W.specialIn K (.builtin "object.__class__") "__get__" = some (some (.builtin "getset_descriptor.__get__"))) (htk : PySem.W.takesIn K (.builtin "object.__class__") = some true)
      (hm : PySem.W.mroIn K C (.type "object") = some true) : TyOf K H (.ref a) (.ref C)
/-- isinstance(x, c) for one class c, a built-in or an own one: kitOne's answer -/
theorem isinst_ok {x : V} {u t : Value} (I : Inv X pins σ H s) (rx : RelV x u) (ty : TyOf X.K H x t) (e : PySem.W.kitOne X.K t c = some b) (h : ∀ tk, Q (.bool b) { s with toks := tk }) :
    wpAny (model X.prog X.w) A (call (.builtin "isinstance") [u, c]) Q E s := by
  cases ty with
  | non => cases (show u = Value.none from rx); exact PySem.W.kia_one PySem.W.kitx_none I.kIn True.intro e (fun z => nomatch z) h
  | bl y => cases (show u = Value.bool y from rx); exact PySem.W.kia_one PySem.W.kitx_bool I.kIn True.intro e (fun z => nomatch z) h
  | int i => obtain ⟨t, q⟩ := (show ∃ t, u = Value.int i t from rx); cases q; exact PySem.W.kia_one PySem.W.kitx_int I.kIn True.intro e (fun z => nomatch z) h
  | str y => obtain ⟨t, q⟩ := (show ∃ t, u = Value.str y t from rx); cases q; exact PySem.W.kia_one PySem.W.kitx_str I.kIn True.intro e (fun z => nomatch z) h
  | flt y => obtain ⟨t, q⟩ := (show ∃ t, u = Value.float y t from rx); cases q; exact PySem.W.kia_one PySem.W.kitx_float I.kIn True.intro e (fun z => nomatch z) h
  | @lst a xs ea =>
    cases (show u = Value.ref a from rx)
    obtain ⟨_, _, n, _, h1⟩ := (show ObjOk X.prog X.w H s.heap a (.lst xs) from I.hok a _ ea)
    exact PySem.W.kia_one PySem.W.kitx_list I.kIn ⟨_, h1, rfl⟩ e (fun z => nomatch z) h
  | @frz a ob xs ea =>
    cases (show u = Value.ref a from rx)
    obtain ⟨_, _, _, n, _, h1⟩ := (show ObjOk X.prog X.w H s.heap a (.frz ob (.lst xs)) from I.hok a _ ea)
    exact PySem.W.kia_one PySem.W.kitx_list I.kIn ⟨_, h1, rfl⟩ e (fun z => nomatch z) h
  | @tup a xs ea =>
    cases (show u = Value.ref a from rx)
    obtain ⟨_, _, _, p⟩ := (show ObjOk X.prog X.w H s.heap a (.tup xs) from I.hok a _ ea)
    obtain ⟨o, h1, h2, _⟩ := p
    exact PySem.W.kia_one PySem.W.kitx_tuple I.kIn ⟨o, h1, h2⟩ e (fun z => nomatch z) h
  | @dK a kvs ea =>
    cases (show u = Value.ref a from rx)
    obtain ⟨_, _, vs, _, p⟩ := (show ObjOk X.prog X.w H s.heap a (.dK kvs) from I.hok a _ ea)
    obtain ⟨o, es, ep, h1, h2, _⟩ := p
    exact PySem.W.kia_one PySem.W.kitx_dict I.kIn ⟨o, h1, h2.1⟩ e (fun z => nomatch z) h
  | @dT a kvs ea =>
    cases (show u = Value.ref a from rx)
    obtain ⟨_, _, xs, _, o, es, ep, h1, h2, _⟩ := (show ObjOk X.prog X.w H s.heap a (.dT kvs) from I.hok a _ ea)
    exact PySem.W.kia_one PySem.W.kitx_dict I.kIn ⟨o, h1, h2.1⟩ e (fun z => nomatch z) h
  | @ins a C dx fs ea cl ha hn htk hm =>
    cases (show u = Value.ref a from rx)
    obtain ⟨mA, O, _⟩ := ins_get I.hok ea
    obtain ⟨od, J, _⟩ := O.look
    exact PySem.W.kia_one (PySem.W.kitx_own (cl.get _) cl.hd ha hn htk hm) I.kIn J e (fun z => nomatch z) h
end
end L2

namespace L2
open PySem PySem.Spec PyProof.Rows

/-! ### room -/
structure Room (k : Nat) (A : Around) : Prop where
  hd : A.handled = none
  dp : A.depth + 3 * k + 5 < recursionLimit
  un : A.units + 16 * k + 200 < cLine
  gd : A.guards = some []
theorem Room.mono {j k : Nat} {A : Around} (r : Room k A) (h : j ≤ k) : Room j A := ⟨r.hd, by have := r.dp; omega, by have := r.un; omega, r.gd⟩
theorem Room.deeper {k : Nat} {A : Around} (r : Room (k + 1) A) (env : Env) : Room k (A.deeper env) :=
  ⟨r.hd, by have := r.dp; show A.depth + 1 + 3 * k + 5 < _; omega, by have := r.un; show A.units + 3 + 16 * k + 200 < _; omega, by first | exact r.gd | (simpa [Around.deeper, Around.under, Code.guards, Code.isGuard, guardIds, pushGuards] using r.gd)⟩
theorem Room.in1 {k : Nat} {A : Around} (r : Room (k + 1) A) : Room k A.in1 :=
  ⟨r.hd, by have := r.dp; show A.depth + 3 * k + 5 < _; omega, by have := r.un; show A.units + 1 + 16 * k + 200 < _; omega, r.gd⟩
theorem make_depth {A : Around} {C : Addr} {us : List Value} {kw : List (Str × Value)} : (A.under (.builtin "type.__call__" ⟨.ref C :: us, kw⟩)).depth = A.depth + 1 := by
  first | rfl | simp [Around.under, Code.weight, Code.isCreation, Code.isGuard, Code.isCaller, Code.frames, Code.isFrame, guardIds]
theorem make_units {A : Around} {C : Addr} {us : List Value} {kw : List (Str × Value)} : (A.under (.builtin "type.__call__" ⟨.ref C :: us, kw⟩)).units = A.units + 1 := by
  first | rfl | simp [Around.under, Code.cUnits, Code.frames, Code.isFrame]
theorem Room.make {k : Nat} {A : Around} (r : Room (k + 1) A) (C : Addr) (us : List Value) (kw : List (Str × Value)) : Room k (A.under (.builtin "type.__call__" ⟨.ref C :: us, kw⟩)) :=
  ⟨r.hd, by have := r.dp; rw [make_depth]; omega, by have := r.un; rw [make_units]; omega, by first | exact r.gd | (simpa [Around.deeper, Around.under, Code.guards, Code.isGuard, guardIds, pushGuards] using r.gd)⟩
theorem Room.depth {k : Nat} {A : Around} (r : Room k A) : A.depth < recursionLimit := by have := r.dp; omega
theorem Room.units {k : Nat} {A : Around} (r : Room k A) : A.units + 64 < cLine := by have := r.un; omega
/-! ### argument lists and displays -/
def tNil : TA := fun _ H Q => Q [] H
def tCons (ta : TE) (tr : TA) : TA := fun σ H Q => ta σ H fun x H1 => tr σ H1 fun xs H2 => Q (x :: xs) H2
section
variable {X : Cx} {e : Expr} {es : List Expr} {te : TE} {t : TA} {pos : Pos}
theorem pa_nil : PA X [] tNil := .mk <| fun _ _ _ _ H Q I h => Calls.spliced_nil ⟨[], H, I, .nil, h⟩
theorem pa_cons (ha : PE X e te) (hr : PA X es t) (hs : starEach (e :: es) X.env = (false, eval e X.env) :: starEach es X.env := by rfl) : PA X (e :: es) (tCons te t) := by
  refine .mk ?_
  intro pos pins s σ H Q I h
  rw [hs]
  show wpAny _ _ (spliced ((false, eval e X.env) :: backTo pos (starEach es X.env))) _ _ s
  refine Calls.spliced_cons (thn (ha pins s σ H _ I h) fun u s1 ⟨x, H1, I1, r1, q1⟩ => ?_)
  exact thn (hr pos pins s1 σ H1 _ I1 q1) fun us s2 ⟨xs, H2, I2, r2, q2⟩ => ⟨x :: xs, H2, I2, .cons r1 r2, q2⟩

/-- a tuple, a list of written items -/
def tTup (t : TA) : TE := fun σ H Q => t σ H fun xs H1 => xs.length ≤ sizeLine ∧ ∀ p, H1 p = none → Q (.ref p) (upd H1 p (.tup xs))
def tLst (t : TA) : TE := fun σ H Q => t σ H fun xs H1 => xs.length ≤ sizeLine ∧ ∀ p, H1 p = none → Q (.ref p) (upd H1 p (.lst xs))
theorem pe_lst (h : PA X es t) : PE X (.List es pos) (tLst t) := by
  refine .mk ?_
  intro pins s σ H Q I hq
  refine wpAny_List_spliced (thn (h pos pins s σ H _ I hq) fun us s1 ⟨xs, H1, I1, r, z, q⟩ => ⟨by rw [← r.length]; exact z, ?_⟩)
  have hf : H1 s1.heap.objs.size = none := I1.hok.fresh (Nat.le_refl _)
  refine ⟨.ref s1.heap.objs.size, upd H1 s1.heap.objs.size (.lst xs), I1.laid (t' := s1.toks) (fun b u e => Heap.get?_push_of_some _ e) (Nat.le_refl _) ?_, rfl, q _ hf⟩
  exact ⟨z, us, 0, r, Heap.get?_push_size _ rfl⟩
end

/-! ### what a def promises -/
/-- a def's promise: the bound arguments in the parameters' order, the heap, the wanted end, the wanted exception -/
abbrev Sp := List V → Hp → VK → XK → Prop
/-- how an exception lies behind a call (file 08 gives it): the callers' frames, abstract heap and state ahead of the call, the wish, the exception, the state -/
abbrev CXT := List Env → Hp → Shared → XK → Value → Shared → Prop

/-- the state at a call -/
structure Env0 (P : Program) (w : World) (K : PySem.W.Frag) (mg : Str → Option Value) (base : Heap) (A : Around) (outer : List Env) (s : Shared) (H : Hp) : Prop where
  frames : A.frames = some outer
  mod : Mod K mg base
  bs : ∀ b o, base.get? b = some o → s.heap.get? b = some o ∧ H b = none
  bsz : base.objs.size ≤ s.heap.objs.size
  funs : s.heap.FunFrames base outer
  frf : ∀ b ∈ frs outer, H b = none
  hok : HOk P w H s.heap
  bare : AllBare s.gens
/-- a call's end -/
def CE (outer : List Env) (P : Program) (w : World) (H : Hp) (s : Shared) (Q : VK) (u : Value) (s' : Shared) : Prop :=
  ∃ v H', s'.os = s.os ∧ AllBare s'.gens ∧ Un (frs outer) [] H H' s.heap s'.heap ∧ HOk P w H' s'.heap ∧ RelV v u ∧ Q v H'
def CR (CX : CXT) (outer : List Env) (P : Program) (w : World) (H : Hp) (s : Shared) (Q : VK) (E : XK) (r : Result) (s' : Shared) : Prop :=
  match r with
  | .ok (.ret u) => CE outer P w H s Q u s'
  | .ok _ => False
  | .error e => CX outer H s E e s'
structure FnOk (P : Program) (w : World) (K : PySem.W.Frag) (mg : Str → Option Value) (base : Heap) (CX : CXT) (k : Nat) (f : Addr) (fd : FuncData) (ps : List Str) (sp : Sp) : Prop where
  len : ∀ vs H Q E, sp vs H Q E → vs.length = ps.length
  run : ∀ (A : Around) (outer : List Env) (s : Shared) (H : Hp) (args : Args) (us : List Value) (vs : List V) (Q : VK) (E : XK), Room k A → Env0 P w K mg base A outer s H → BindsTo s fd args (ps.zip us) → Vals vs us → sp vs H Q E →
    codeAny (model P w) A (.call (.ref f) args) (CR CX outer P w H s Q E) s
theorem FnOk.mono {P : Program} {w : World} {K : PySem.W.Frag} {mg : Str → Option Value} {base : Heap} {CX : CXT} {j k : Nat} {f : Addr} {fd : FuncData} {ps : List Str} {sp : Sp} (F : FnOk P w K mg base CX j f fd ps sp) (h : j ≤ k) :
    FnOk P w K mg base CX k f fd ps sp := ⟨F.len, fun A outer s H args us vs Q E hr => F.run A outer s H args us vs Q E (hr.mono h)⟩
theorem Env0.make {P : Program} {w : World} {K : PySem.W.Frag} {mg : Str → Option Value} {base : Heap} {A : Around} {outer : List Env} {s : Shared} {H : Hp} (e : Env0 P w K mg base A outer s H) (C : Addr) (us : List Value) (kw : List (Str × Value)) :
    Env0 P w K mg base (A.under (.builtin "type.__call__" ⟨.ref C :: us, kw⟩)) outer s H := ⟨by first | exact e.frames | (simpa [Around.under, Code.envs, Code.isFrame, pushEnvs] using e.frames), e.mod, e.bs, e.bsz, e.funs, e.frf, e.hok, e.bare⟩
theorem Env0.in1 {P : Program} {w : World} {K : PySem.W.Frag} {mg : Str → Option Value} {base : Heap} {A : Around} {outer : List Env} {s : Shared} {H : Hp} (e : Env0 P w K mg base A outer s H) :
    Env0 P w K mg base A.in1 outer s H := ⟨e.frames, e.mod, e.bs, e.bsz, e.funs, e.frf, e.hok, e.bare⟩

section
variable {X : Cx} {pins : List (Addr × Obj)} {σ : St} {H : Hp} {s s' : Shared}
/-- from a body: what a callee wants -/
theorem Inv.env0 (I : Inv X pins σ H s) : Env0 X.prog X.w X.K X.mg X.base X.A X.stack s H :=
  ⟨I.ok.frames, I.ok.mod, I.bs, Nat.le_trans I.ok.bsz I.sz, I.stack, I.stkFree, I.hok, I.bare⟩
/-- behind a call -/
theorem Inv.after {Q : VK} {u : Value} (I : Inv X pins σ H s) (h : CE X.stack X.prog X.w H s Q u s') : EP X pins σ Q u s' := by
  obtain ⟨v, H', os, bare, un, hok, r, q⟩ := h
  obtain ⟨hh, g, d, t, os'⟩ := s'
  obtain rfl : os' = s.os := os
  exact ⟨v, H', I.call (h' := hh) (g' := g) (d' := d) (t' := t) (ch := []) un hok bare (fun b z => absurd z (by simp)), r, q⟩
end

/-! ### calls -/
/-- f(..): the written arguments, then the defaults dvs; E: what is wanted of an exception -/
def tCall (sp : Sp) (dvs : List V) (E : XK) (t : TA) : TE := fun σ H Q => t σ H fun vs H1 => sp (vs ++ dvs) H1 Q E
/-- how the parameters are bound: us the positional arguments, kw the keywords' values by name, ds the defaults that fill up -/
def Binds (K : PySem.W.Frag) (fd : FuncData) (ps : List Str) (ds : List Value) : Prop :=
  ∀ (s : Shared) (us : List Value), K.In s.heap → (us ++ ds).length = ps.length → BindsTo s fd ⟨us, []⟩ (ps.zip (us ++ ds))
/-- every parameter is given -/
theorem Binds.all {K : PySem.W.Frag} {fd : FuncData} {ps : List Str} (h : ∀ us : List Value, us.length = ps.length → bindArgs fd ⟨us, []⟩ = pure (ps.zip us)) : Binds K fd ps [] := fun s us _ hl => by
  rw [List.append_nil] at hl ⊢
  exact .of_eq (h us hl)

/-- an exception of a callee reaches what this body wants of exceptions -/
def Passes (CX : CXT) (X : Cx) (E : XK) : Prop := ∀ (pins : List (Addr × Obj)) (σ : St) (H : Hp) (s : Shared) (e : Value) (s' : Shared), Inv X pins σ H s → CX X.stack H s E e s' → X.xe e s'

section
variable {X : Cx} {CX : CXT} {k : Nat} {f C : Addr} {fd : FuncData} {ps : List Str} {sp : Sp} {dvs : List V} {ds : List Value} {E : XK} {x m : Str} {p pos apos : Pos} {e o : Expr} {es : List Expr} {ta : TE} {t : TA}

/-- the callee runs -/
theorem run_fn {pins : List (Addr × Obj)} {σ : St} {H : Hp} {s : Shared} {Q : VK} {us : List Value} {vs : List V} (F : FnOk X.prog X.w X.K X.mg X.base CX k f fd ps sp) (hr : Room k X.A) (hb : Binds X.K fd ps ds) (hd : Vals dvs ds) (hx : Passes CX X E)
    (I : Inv X pins σ H s) (r : Vals vs us) (h : sp (vs ++ dvs) H Q E) : wpAny (model X.prog X.w) X.A (call (.ref f) us) (EP X pins σ Q) X.xe s := by
  have r2 : Vals (vs ++ dvs) (us ++ ds) := r.append hd
  have hl : (us ++ ds).length = ps.length := by rw [← r2.length]; exact F.len _ _ _ _ h
  refine wpAny_call (codeAny_mono (F.run X.A X.stack s H ⟨us, []⟩ (us ++ ds) (vs ++ dvs) Q E hr I.env0 (hb s us I.kIn hl) r2 h) fun r s' hq => ?_)
  cases r with
  | error e => exact hx pins σ H s e s' I hq
  | ok fl =>
    cases fl with
    | ret u => exact I.after hq
    | next => exact False.elim hq
    | brk => exact False.elim hq
    | cont => exact False.elim hq

theorem pe_call (F : FnOk X.prog X.w X.K X.mg X.base CX k f fd ps sp) (hr : Room k X.A) (hg : Gl X x) (hm : X.mg x = some (.ref f)) (hk : PySem.W.keepIn X.K (.ref f) = true) (hb : Binds X.K fd ps ds) (hd : Vals dvs ds) (hx : Passes CX X E)
    (ha : PA X (e :: es) t) (hdb : (x == ("__debug__" : Str)) = false := by decide) (he : starEach (e :: es) X.env = (false, eval e X.env) :: starEach es X.env := by rfl) (hpl : (backTo pos (starEach es X.env)).any (·.1) = false := by rfl) :
    PE X (.Call (.Name x p) (e :: es) [] pos) (tCall sp dvs E t) := by
  refine .mk ?_
  intro pins s σ H Q I h
  refine wpAny_Call_Name_kw (ld_glob I hg hm ?_ hdb)
  refine PySem.W.callWith_K (h₀ := X.base) I.ok.mod.kin hk (thn (ha pos pins s σ H _ I h) fun us s1 ⟨vs, H1, I1, r, q⟩ => ⟨I1.kIn, ?_⟩) he hpl
  exact run_fn F hr hb hd hx I1 r q
/-- what a class must have to be made -/
structure Mk (K : PySem.W.Frag) (C f : Addr) : Prop where
  makes : PySem.W.makesIn K C = true
  init : PySem.W.findIn K (.ref C) "__init__" = some (some (.ref f))
  fn : PySem.W.isFn K (.ref f) = true
  kp : PySem.W.keepIn K (.ref C) = true

end

/-! ### keywords -/
section
variable {X : Cx} {CX : CXT} {k : Nat} {f C : Addr} {fd : FuncData} {ps ks : List Str} {sp : Sp} {E : XK} {x m : Str} {p pos apos kpos : Pos} {e o : Expr} {es : List Expr} {kws : List Keyword} {te ta : TE} {t tk : TA} {nm : Option Str}
/-- how a call with keywords binds: g puts the positional values us and the keywords' values ws (names ks) in the parameters' order, defaults among them -/
structure KBinds (K : PySem.W.Frag) (fd : FuncData) (ps ks : List Str) (g : List Value → List Value → List Value) (gV : List V → List V → List V) : Prop where
  to : ∀ (s : Shared) (us ws : List Value), K.In s.heap → (g us ws).length = ps.length → BindsTo s fd ⟨us, ks.zip ws⟩ (ps.zip (g us ws))
  rel : ∀ {vs : List V} {us : List Value} {zs : List V} {ws : List Value}, Vals vs us → Vals zs ws → Vals (gV vs zs) (g us ws)
variable {g : List Value → List Value → List Value} {gV : List V → List V → List V}
end

/-! ### a def's body keeps its promise -/
/-- names: the parameters first -/
structure FnScope (N P : List Str) (sc : Scope) : Prop where
  kind : sc.kind = .function
  co : sc.isCoroutine = false
  gen : sc.isGenerator = false
  nd : N.Nodup
  pre : N.take P.length = P
  par : ∀ x ∈ P, sc.names.lookup x = some .local ∨ sc.names.lookup x = some .cell
  nofree : ∀ y ∈ sc.names, y.2 ≠ .free

theorem bindL_out {kindOf : Str → Option NameKind} {x : Str} : ∀ {binds : List (Str × Value)} {m : Str → Option Value}, (∀ v, (x, v) ∉ binds) → bindL kindOf binds m x = m x
  | [], _, _ => rfl
  | (n, v) :: r, m, h => by
    unfold bindL
    rw [bindL_out fun w hw => h w (List.mem_cons_of_mem _ hw)]
    split
    · have : x ≠ n := by rintro rfl; exact h v List.mem_cons_self
      simp [this]
    · rfl
theorem bindC_out {kindOf : Str → Option NameKind} {x : Str} : ∀ {binds : List (Str × Value)} {m : Str → Option Value}, (∀ v, (x, v) ∉ binds) → bindC kindOf binds m x = m x
  | [], _, _ => rfl
  | (n, v) :: r, m, h => by
    unfold bindC
    rw [bindC_out fun w hw => h w (List.mem_cons_of_mem _ hw)]
    split
    · rfl
    · have : x ≠ n := by rintro rfl; exact h v List.mem_cons_self
      simp [this]
theorem bindL_get {kindOf : Str → Option NameKind} {x : Str} {v : Value} : ∀ {P : List Str} {vs : List Value} {i : Nat} {m : Str → Option Value}, P.Nodup → P[i]? = some x → vs[i]? = some v → kindOf x = some .local →
    bindL kindOf (P.zip vs) m x = some v
  | [], _, _, _, _, h, _, _ => by simp at h
  | _ :: _, [], _, _, _, _, h, _ => by simp at h
  | p :: P, w :: vs, 0, m, nd, h1, h2, hk => by
    simp at h1 h2; subst h1; subst h2
    show bindL kindOf ((p, w) :: P.zip vs) m p = _
    unfold bindL
    rw [bindL_out fun v hv => (List.nodup_cons.mp nd).1 (List.of_mem_zip hv).1, if_pos hk]
    simp
  | p :: P, w :: vs, i + 1, m, nd, h1, h2, hk => by
    show bindL kindOf ((p, w) :: P.zip vs) m x = _
    unfold bindL
    exact bindL_get (i := i) (List.nodup_cons.mp nd).2 (by simpa using h1) (by simpa using h2) hk
theorem bindC_get {kindOf : Str → Option NameKind} {x : Str} {v : Value} : ∀ {P : List Str} {vs : List Value} {i : Nat} {m : Str → Option Value}, P.Nodup → P[i]? = some x → vs[i]? = some v → kindOf x ≠ some .local →
    bindC kindOf (P.zip vs) m x = some v
  | [], _, _, _, _, h, _, _ => by simp at h
  | _ :: _, [], _, _, _, _, h, _ => by simp at h
  | p :: P, w :: vs, 0, m, nd, h1, h2, hk => by
    simp at h1 h2; subst h1; subst h2
    show bindC kindOf ((p, w) :: P.zip vs) m p = _
    unfold bindC
    rw [bindC_out fun v hv => (List.nodup_cons.mp nd).1 (List.of_mem_zip hv).1, if_neg hk]
    simp
  | p :: P, w :: vs, i + 1, m, nd, h1, h2, hk => by
    show bindC kindOf ((p, w) :: P.zip vs) m x = _
    unfold bindC
    exact bindC_get (i := i) (List.nodup_cons.mp nd).2 (by simpa using h1) (by simpa using h2) hk

/-- the names' values at the entry -/
def start (N : List Str) (vs : List V) : St := vs.map some ++ List.replicate (N.length - vs.length) none

/-- the context of a def's body, at its entry; an exception leaves the frame, then lies as CX says -/
def cxOf (CX : CXT) (P : Program) (w : World) (K : PySem.W.Frag) (mg : Str → Option Value) (base : Heap) (N : List Str) (qual : Str) (scope : Scope) (f : Addr) (cd : Value) (A : Around) (outer : List Env) (s : Shared) (H : Hp) (E : XK) : Cx where
  prog := P
  w := w
  K := K
  mg := mg
  base := base
  A := A.deeper (envOfC qual scope s.heap.objs.size f cd)
  N := N
  s₀ := s
  H₀ := H
  env := envOfC qual scope s.heap.objs.size f cd
  outer := outer
  stack := envOfC qual scope s.heap.objs.size f cd :: outer
  ex := []
  calm := true
  fn := fun _ => true
  pn := []
  xe := fun e s' => wpAny (model P w) (A.deeper (envOfC qual scope s.heap.objs.size f cd)) (leaving (envOfC qual scope s.heap.objs.size f cd) e) (fun _ s'' => CX outer H s E e s'') (fun e' s'' => CX outer H s E e' s'') s'

theorem cell_has {sc : Scope} {n : Nat} {x : Str} (h : sc.names.lookup x = some .cell) : ∃ c, (cellsFrom n sc.names []).lookup x = some c := by
  have q := PySem.W.cellsFrom_some sc.names n [] (.inl h)
  exact Option.isSome_iff_exists.mp q

theorem inv_start {CX : CXT} {P : Program} {w : World} {K : PySem.W.Frag} {mg : Str → Option Value} {base : Heap} {N ps : List Str} {qual : Str} {scope : Scope} {f : Addr} {cd : Value} {A : Around} {outer : List Env} {s s1 : Shared} {H : Hp} {E : XK} {us : List Value} {vs : List V}
    (S : FnScope N ps scope) (hd : A.handled = none) (e0 : Env0 P w K mg base A outer s H) (hl : vs.length = ps.length) (r : Vals vs us)
    (x : InCallC s s.heap.objs.size (bindL (envOfC qual scope s.heap.objs.size f cd).kindOf (ps.zip us) fun _ => none) (cellsFrom (s.heap.objs.size + 1) scope.names []) (bindC (envOfC qual scope s.heap.objs.size f cd).kindOf (ps.zip us) fun _ => none) s1) :
    Inv (cxOf CX P w K mg base N qual scope f cd A outer s H E) [] (start N vs) H s1 := by
  have hpl : ps.length ≤ N.length := by have := congrArg List.length S.pre; rw [List.length_take] at this; omega
  obtain ⟨h1, tk, rfl, hk⟩ := x.done
  have noA : ∀ b : Addr, b ∉ (cxOf CX P w K mg base N qual scope f cd A outer s H E).ex := fun b z => absurd (show b ∈ ([] : List Addr) from z) (by simp)
  refine ⟨⟨e0.mod, S.kind, rfl, rfl, Nat.le_refl _, fun y z c h1 h2 => ?_, fun y hy => ?_, fun y c _ h => ?_, fun _ => hd, Around.frames_deeper e0.frames, .inr ⟨rfl, rfl⟩, fun b z => absurd z (noA b), e0.bs, e0.bsz, fun b _ _ => noA b, fun b z => absurd z (noA b), e0.funs, e0.frf⟩,
    rfl, e0.bare, Un.kept hk, ⟨_, x.toInCall.ns, fun i y v h1 h2 h3 => ?_⟩, fun y c h => ⟨_, x.cell y c h⟩, e0.hok.fresh (Nat.le_refl _), fun y c h => ?_, fun p hp => absurd (show p ∈ ([] : List (Addr × Obj)) from hp) (by simp), e0.hok.kept hk, ?_⟩
  · exact name_of_addr x.apart (PySem.mem_of_lookup h1) (PySem.mem_of_lookup h2)
  · have hy : scope.names.lookup y = some .cell ∨ scope.names.lookup y = some .free := hy
    rcases hy with hy | hy
    · exact cell_has hy
    · exact absurd rfl (S.nofree _ (PySem.mem_of_lookup hy))
  · exact Nat.le_of_lt (x.above y c (PySem.mem_of_lookup h))
  · have hi : i < vs.length := by
      unfold start at h2
      by_cases hi : i < vs.length
      · exact hi
      · rw [List.getElem?_append_right (by simpa using hi)] at h2
        rw [List.getElem?_replicate] at h2
        split at h2 <;> cases h2
    have ha : vs[i]? = some v := by
      unfold start at h2
      rw [List.getElem?_append_left (by simpa using hi), List.getElem?_map] at h2
      cases e : vs[i]? with
      | none => rw [e] at h2; cases h2
      | some a => rw [e] at h2; cases h2; rfl
    obtain ⟨u, hu, rv⟩ := r.get ha
    have hp : ps[i]? = some y := by
      rw [← S.pre, List.getElem?_take_of_lt (by omega)]; exact h1
    have ndP : ps.Nodup := by rw [← S.pre]; exact S.nd.sublist (List.take_sublist _ _)
    refine ⟨u, rv, ?_⟩
    rcases S.par y (List.mem_of_getElem? hp) with k | k
    · exact .inl ⟨k, bindL_get ndP hp hu k⟩
    · obtain ⟨c, e⟩ := cell_has (n := s.heap.objs.size + 1) k
      refine .inr ⟨.inl k, c, e, ?_⟩
      have q := x.cell y c e
      rw [bindC_get ndP hp hu (by show scope.names.lookup y ≠ _; rw [k]; decide)] at q
      exact q
  · exact e0.hok.fresh (Nat.le_of_lt (x.above y c (PySem.mem_of_lookup h)))
  · unfold start
    show _ = N.length
    rw [List.length_append, List.length_map, List.length_replicate]
    omega

/-- THE RULE: a def (or a method) of the text, by its body. The body's reading t is chosen for each entry; it is run at the parameters' values -/
theorem fn_of {CX : CXT} {P : Program} {w : World} {K : PySem.W.Frag} {mg : Str → Option Value} {base : Heap} {k : Nat} {f : Addr} {name qual : Str} {params : Arguments} {body : List Stmt} {scope : Scope} {dV kV doc pm cdv ct oc : Value} {an od : Option Addr}
    {osl : Array (Option Value)} {N ps : List Str} {sp : Sp} (lk : K.lookup f = some ⟨oc, od, .func (PySem.W.fnOf name qual params body scope dV kV doc pm an cdv ct), osl⟩) (hcd : PySem.W.codeIn K cdv qual = true) (S : FnScope N ps scope)
    (len : ∀ vs H Q E, sp vs H Q E → vs.length = ps.length)
    (hbody : ∀ (A : Around) (outer : List Env) (s : Shared) (H : Hp) (vs : List V) (Q : VK) (E : XK), Room k (A.deeper (envOfC qual scope s.heap.objs.size f cdv)) → sp vs H Q E →
      ∃ t, PSs (cxOf CX P w K mg base N qual scope f cdv A outer s H E) body t ∧ t { nx := fun _ H' => Q .non H', rt := Q } (start N vs) H) :
    FnOk P w K mg base CX (k + 1) f (PySem.W.fnOf name qual params body scope dV kV doc pm an cdv ct) ps sp := by
  refine ⟨len, fun A outer s H args us vs Q E hr e0 hb r hsp => ?_⟩
  have hl := len _ _ _ _ hsp
  have KX : K.In s.heap := e0.mod.kin.keeps fun b o e => (e0.bs b o e).1
  have lim : s.heap.NoLimit := e0.mod.nolimit.keeps fun b o e => (e0.bs b o e).1
  have hkind : ∀ y ∈ ps.zip us, scope.names.lookup y.1 = some .local ∨ (scope.names.lookup y.1 = some .cell ∧ ((cellsFrom (s.heap.objs.size + 1) scope.names []).lookup y.1).isSome = true) := fun ⟨n, v⟩ hy => by
    rcases S.par n (List.of_mem_zip hy).1 with q | q
    · exact .inl q
    · exact .inr ⟨q, PySem.W.cellsFrom_some _ _ _ (.inl q)⟩
  refine codeAny_call_function hr.depth (KX _ _ lk) rfl S.co S.gen rfl (PySem.W.codeRec_of KX hcd) (hb _ _ _ _ ?_)
  refine wpAny_newFunctionEnv_cells S.kind hkind fun env he s1 x => ?_
  subst he
  refine ⟨lim.keeps x.toInCall.keep, codeAny_func ?_⟩
  obtain ⟨t, ht, hq⟩ := hbody A outer s H vs Q E (hr.deeper _) hsp
  have I : Inv (cxOf CX P w K mg base N qual scope f cdv A outer s H E) [] (start N vs) H s1 := inv_start S hr.hd e0 hl r x
  refine wpAny_mono (ht [] s1 (start N vs) H _ I hq) (fun fl s' hs => ?_) fun e s' hs => hs
  have fin : ∀ {σ' : St} {H' : Hp} {v : V} {u : Value}, Inv (cxOf CX P w K mg base N qual scope f cdv A outer s H E) [] σ' H' s' → RelV v u → Q v H' → CE outer P w H s Q u s' :=
    fun {σ' H' v u} J rv q => ⟨v, H', J.os, J.bare, J.base, J.hok, rv, q⟩
  cases fl with
  | ret u =>
    obtain ⟨v, σ', H', J, rv, q⟩ := hs
    exact fin J rv q
  | next =>
    obtain ⟨σ', H', J, q⟩ := hs
    exact fin (v := V.non) (u := Value.none) J rfl q
  | brk =>
    obtain ⟨_, _, _, q⟩ := hs
    exact False.elim q
  | cont =>
    obtain ⟨_, _, _, q⟩ := hs
    exact False.elim q
end L2

namespace L2
open PySem PySem.Spec PyProof.Rows
section
variable {X : Cx} {x : Str} {p pos : Pos} {e : Expr} {es : List Expr} {t : TA} {id T : String} {r : List V → Hp → VK → Prop}

def tCB (r : List V → Hp → VK → Prop) (t : TA) : TE := fun σ H Q => t σ H fun vs H1 => r vs H1 Q
/-- f(e, ..), f a built-in function -/
theorem pe_callB (hc : CallR X (.builtin id) r) (hg : Gl X x) (hm : X.mg x = none) (hv : bootBuiltins x = some (.builtin id)) (ha : PA X (e :: es) t) (hn : x ≠ "__name__" := by decide) (hdb : (x == ("__debug__" : Str)) = false := by decide)
    (he : starEach (e :: es) X.env = (false, eval e X.env) :: starEach es X.env := by rfl) (hpl : (backTo pos (starEach es X.env)).any (·.1) = false := by rfl) : PE X (.Call (.Name x p) (e :: es) [] pos) (tCB r t) := by
  refine .mk ?_
  intro pins s σ H Q I h
  refine wpAny_Call_Name_kw (ld_blt I hg hm hv ?_ hn hdb)
  exact PyProof.Rows.callWith_builtin1 (thn (ha pos pins s σ H _ I h) fun us s1 ⟨vs, H1, I1, r1, q1⟩ => hc pins s1 σ H1 vs us Q I1 r1 q1) he hpl
/-- T(e, ..), T a built-in type -/
theorem pe_callTy (hc : CallR X (.type T) r) (hg : Gl X x) (hm : X.mg x = none) (hv : bootBuiltins x = some (.type T)) (ha : PA X (e :: es) t) (hn : x ≠ "__name__" := by decide) (hdb : (x == ("__debug__" : Str)) = false := by decide)
    (he : starEach (e :: es) X.env = (false, eval e X.env) :: starEach es X.env := by rfl) (hpl : (backTo pos (starEach es X.env)).any (·.1) = false := by rfl) : PE X (.Call (.Name x p) (e :: es) [] pos) (tCB r t) := by
  refine .mk ?_
  intro pins s σ H Q I h
  refine wpAny_Call_Name_kw (ld_blt I hg hm hv ?_ hn hdb)
  exact PyProof.Rows.callWith_type1 (thn (ha pos pins s σ H _ I h) fun us s1 ⟨vs, H1, I1, r1, q1⟩ => hc pins s1 σ H1 vs us Q I1 r1 q1) he hpl
end
end L2

namespace HT
open PySem PyProof.Rows

section
open PySem.SeqAt
open PySem.AutoSeq1 (wpAny_loadPart')
open PySem.MeetsSeq PySem.MeetsSeq2 PySem.MeetsSeq3

end

section
variable {prog : Program} {w : World} {A : Around} {E : Value → Shared → Prop} {s : Shared}

/-! ### t[a:b], not the whole -/
end
end HT

namespace L2
open PySem PySem.Spec PyProof.Rows

/-! ### the parts of a slice -/
abbrev TO := St → Hp → (Option Int → Hp → Prop) → Prop
/-- a slice's part (left out, or an int) -/
structure PO (X : Cx) (e : Option Expr) (t : TO) : Prop where
  mk ::
  go :
  ∀ (pins : List (Addr × Obj)) (s : Shared) (σ : St) (H : Hp) (Q : Option Int → Hp → Prop), Inv X pins σ H s → t σ H Q →
    wpAny (model X.prog X.w) X.A (evalPart e X.env) (fun u s' => ∃ o H', Inv X pins σ H' s' ∧ IsPart u o ∧ Q o H') X.xe s
instance {X : Cx} {e : Option Expr} {t : TO} : CoeFun (PO X e t) (fun _ =>
  ∀ (pins : List (Addr × Obj)) (s : Shared) (σ : St) (H : Hp) (Q : Option Int → Hp → Prop), Inv X pins σ H s → t σ H Q →
    wpAny (model X.prog X.w) X.A (evalPart e X.env) (fun u s' => ∃ o H', Inv X pins σ H' s' ∧ IsPart u o ∧ Q o H') X.xe s) := ⟨PO.go⟩
def tNoPart : TO := fun _ H Q => Q none H
def tPart (t : TE) : TO := fun σ H Q => t σ H fun x H1 => ∃ i, x = .int i ∧ Q (some i) H1

section
variable {X : Cx} {e : Expr} {te : TE} {lo hi : Option Expr} {tl th : TO} {pos p2 : Pos}

theorem po_some (h : PE X e te) : PO X (some e) (tPart te) := by
  refine .mk ?_
  intro pins s σ H Q I hw
  rw [evalPart_some]
  refine thn (h pins s σ H _ I hw) fun u s1 ⟨x, H1, I1, r1, q1⟩ => ?_
  obtain ⟨i, rfl, q⟩ := q1
  obtain ⟨t, rfl⟩ := r1
  exact ⟨some i, H1, I1, .int i t, q⟩

/-- what a slice of a value is, by values: the slice object stands at sl -/
structure SlR (X : Cx) (r : V → Option Int → Option Int → Hp → VK → Prop) : Prop where
  mk ::
  go :
  ∀ (pins : List (Addr × Obj)) (s : Shared) (σ : St) (H : Hp) (x : V) (v vl vu : Value) (lo hi : Option Int) (sl : Addr) (Q : VK), Inv X pins σ H s → RelV x v → s.heap.IsSliceOf sl vl vu .none → IsPart vl lo → IsPart vu hi → r x lo hi H Q →
    ∃ T id, typeLookup (.type T) "__getitem__" = pure (some (.builtin id)) ∧ s.TypeIs v T ∧ wpAny (model X.prog X.w) X.A (getItem v (.ref sl)) (EP X pins σ Q) X.xe s
instance {X : Cx} {r : V → Option Int → Option Int → Hp → VK → Prop} : CoeFun (SlR X r) (fun _ =>
  ∀ (pins : List (Addr × Obj)) (s : Shared) (σ : St) (H : Hp) (x : V) (v vl vu : Value) (lo hi : Option Int) (sl : Addr) (Q : VK), Inv X pins σ H s → RelV x v → s.heap.IsSliceOf sl vl vu .none → IsPart vl lo → IsPart vu hi → r x lo hi H Q →
    ∃ T id, typeLookup (.type T) "__getitem__" = pure (some (.builtin id)) ∧ s.TypeIs v T ∧ wpAny (model X.prog X.w) X.A (getItem v (.ref sl)) (EP X pins σ Q) X.xe s) := ⟨SlR.go⟩
theorem SlR.or {r r' : V → Option Int → Option Int → Hp → VK → Prop} (h : SlR X r) (h' : SlR X r') : SlR X (fun x lo hi H Q => r x lo hi H Q ∨ r' x lo hi H Q) := by
  refine .mk ?_
  intro pins s σ H x v vl vu lo hi sl Q I rx hs pl pu q
  rcases q with q | q
  · exact h pins s σ H x v vl vu lo hi sl Q I rx hs pl pu q
  · exact h' pins s σ H x v vl vu lo hi sl Q I rx hs pl pu q
def tSl (r : V → Option Int → Option Int → Hp → VK → Prop) (te : TE) (tl th : TO) : TE := fun σ H Q => te σ H fun x H1 => tl σ H1 fun l H2 => th σ H2 fun u H3 => r x l u H3 Q
/-- a[lo:hi], any a -/
theorem pe_slice {r : V → Option Int → Option Int → Hp → VK → Prop} (hr : SlR X r) (he : PE X e te) (hl : PO X lo tl) (hu : PO X hi th) : PE X (.Subscript e (.Slice lo hi none p2) pos) (tSl r te tl th) := by
  refine .mk ?_
  intro pins s σ H Q I h
  refine Subscript_ (thn (he pins s σ H _ I h) fun v s1 ⟨x, H1, I1, r1, q1⟩ => ?_)
  refine wpAny_Slice (thn (hl pins s1 σ H1 _ I1 q1) fun vl s2 ⟨l, H2, I2, pl, q2⟩ => thn (hu pins s2 σ H2 _ I2 q2) fun vu s3 ⟨u, H3, I3, pu, q3⟩ => ?_)
  rw [evalPart_none]
  refine wpAny_pure ?_
  have I4 : Inv X pins σ H3 { s3 with heap := s3.heap.push { cls := .type "slice", data := .fields #[vl, vu, .none] } } := I3.kept (t' := s3.toks) fun b ob q => Heap.get?_push_of_some _ q
  obtain ⟨T, id, hT, ht, hg⟩ := hr pins { s3 with heap := s3.heap.push { cls := .type "slice", data := .fields #[vl, vu, .none] } } σ H3 x v vl vu l u s3.heap.objs.size Q I4 r1 (Heap.IsSliceOf.new ..) pl pu q3
  show wpAny (model X.prog X.w) X.A (subscriptTail e (.Slice lo hi none p2) v (.ref s3.heap.objs.size)) (EP X pins σ Q) X.xe { s3 with heap := s3.heap.push { cls := .type "slice", data := .fields #[vl, vu, .none] } }
  exact tail_any (ops := [.ref s3.heap.objs.size, v]) ht hT hg (by with_unfolding_all rfl)

/-! ### t < u, t + u -/
end
end L2

namespace L2
open PySem PySem.Spec PyProof.Rows

/-! ### places -/
/-- the place that an index of any sign means -/
def ixN (n : Nat) (i : Int) : Option Nat := if 0 ≤ i then (if i < n then some i.toNat else none) else if -(n : Int) ≤ i then some (i + n).toNat else none
def atI {α : Type} (xs : List α) (i : Int) : Option α := (ixN xs.length i).bind fun j => xs[j]?
theorem ixN_seq {n : Nat} {i : Int} {j : Nat} (h : ixN n i = some j) : seqIndex? i n = some j ∧ j < n ∧ -(n : Int) ≤ i ∧ i < n := by
  unfold ixN at h
  by_cases h0 : 0 ≤ i
  · rw [if_pos h0] at h
    by_cases h1 : i < n
    · rw [if_pos h1] at h
      have e : i.toNat = j := Option.some.inj h
      exact ⟨by rw [seqIndex_of h0 h1, e], by omega, by omega, h1⟩
    · rw [if_neg h1] at h; cases h
  · rw [if_neg h0] at h
    by_cases h1 : -(n : Int) ≤ i
    · rw [if_pos h1] at h
      have e : (i + n).toNat = j := Option.some.inj h
      exact ⟨by rw [seqIndex_neg (by omega) h1, e], by omega, h1, by omega⟩
    · rw [if_neg h1] at h; cases h
theorem atI_get {α : Type} {xs : List α} {i : Int} {v : α} (h : atI xs i = some v) : ∃ j, seqIndex? i xs.length = some j ∧ xs[j]? = some v ∧ j < xs.length ∧ -(xs.length : Int) ≤ i ∧ i < xs.length := by
  unfold atI at h
  cases e : ixN xs.length i with
  | none => rw [e] at h; cases h
  | some j =>
    rw [e] at h
    obtain ⟨h1, h2, h3, h4⟩ := ixN_seq e
    exact ⟨j, h1, h, h2, h3, h4⟩
theorem atI_nat {α : Type} {xs : List α} {j : Nat} {v : α} (h : xs[j]? = some v) : atI xs (j : Int) = some v := by
  have hj : j < xs.length := (List.getElem?_eq_some_iff.mp h).1
  have e : ixN xs.length (j : Int) = some j := by
    unfold ixN
    rw [if_pos (by omega), if_pos (by omega)]; simp
  unfold atI; rw [e]; exact h
/-! ### what may be subscripted -/
/-- what stands as an index of a plain subscript -/
def PlainIx (b : Expr) : Prop := ∀ o i, subscripted b false o i = operate [o, i] (getItem o i)
/-- a subscript by values -/
structure IxR (X : Cx) (r : R2) : Prop where
  mk ::
  go :
  ∀ (value slice : Expr) (pins : List (Addr × Obj)) (s : Shared) (σ : St) (H : Hp) (x y : V) (v u : Value) (Q : VK), Inv X pins σ H s → RelV x v → RelV y u → r x y H Q →
    subscripted slice false v u = operate [v, u] (getItem v u) → wpAny (model X.prog X.w) X.A (subscriptTail value slice v u) (EP X pins σ Q) X.xe s
instance {X : Cx} {r : R2} : CoeFun (IxR X r) (fun _ =>
  ∀ (value slice : Expr) (pins : List (Addr × Obj)) (s : Shared) (σ : St) (H : Hp) (x y : V) (v u : Value) (Q : VK), Inv X pins σ H s → RelV x v → RelV y u → r x y H Q →
    subscripted slice false v u = operate [v, u] (getItem v u) → wpAny (model X.prog X.w) X.A (subscriptTail value slice v u) (EP X pins σ Q) X.xe s) := ⟨IxR.go⟩
/-- a call of a builtin's method by values: the receiver, the arguments -/
def MtR (X : Cx) (id : String) (r : V → List V → Hp → VK → Prop) : Prop :=
  ∀ (pins : List (Addr × Obj)) (s : Shared) (σ : St) (H : Hp) (x : V) (xs : List V) (v : Value) (us : List Value) (Q : VK), Inv X pins σ H s → RelV x v → Vals xs us → r x xs H Q →
    wpAny (model X.prog X.w) X.A (call (.builtin id) (v :: us)) (EP X pins σ Q) X.xe s
section
variable {X : Cx} {a b : Expr} {ta tb : TE} {pos : Pos}
theorem IxR.or {r r' : R2} (h : IxR X r) (h' : IxR X r') : IxR X (fun x y H Q => r x y H Q ∨ r' x y H Q) := by
  refine .mk ?_
  intro value slice pins s σ H x y v u Q I rx ry q hs
  rcases q with q | q
  · exact h value slice pins s σ H x y v u Q I rx ry q hs
  · exact h' value slice pins s σ H x y v u Q I rx ry q hs
theorem MtR.or {id : String} {r r' : V → List V → Hp → VK → Prop} (h : MtR X id r) (h' : MtR X id r') : MtR X id (fun x xs H Q => r x xs H Q ∨ r' x xs H Q) := by
  intro pins s σ H x xs v us Q I rx rs q
  rcases q with q | q
  · exact h pins s σ H x xs v us Q I rx rs q
  · exact h' pins s σ H x xs v us Q I rx rs q
/-- a[b] -/
theorem pe_ix {r : R2} (hr : IxR X r) (ha : PE X a ta) (hb : PE X b tb) (hs : PlainIx b) : PE X (.Subscript a b pos) (tOp r ta tb) := by
  refine .mk ?_
  intro pins s σ H Q I h
  exact Subscript_ (binT ha hb I h fun v u s2 x y H2 I2 rx ry q => hr a b pins s2 σ H2 x y v u Q I2 rx ry q (hs _ _))

def rIxL (K : PySem.W.Frag) : R2 := fun x y H Q => ∃ p xs i v, x = .ref p ∧ y = .int i ∧ SqL K H p xs ∧ atI xs i = some v ∧ Q v H
def rIxT (K : PySem.W.Frag) : R2 := fun x y H Q => ∃ p xs i v, x = .ref p ∧ y = .int i ∧ SqT K H p xs ∧ atI xs i = some v ∧ Q v H
def rIxS : R2 := fun x y H Q => ∃ z i c, x = .str z ∧ y = .int i ∧ z.length ≤ sizeLine ∧ atI z.cps.toList i = some c ∧ Q (.str ⟨#[c]⟩) H
theorem ix_list : IxR X (rIxL X.K) := by
  refine .mk ?_
  intro value slice pins s σ H x y v u Q I rx ry h hs
  obtain ⟨p, xs, i, z, rfl, rfl, hq, he, q⟩ := h
  cases rx
  obtain ⟨t, rfl⟩ := ry
  obtain ⟨its, r, pl, hz⟩ := I.list hq
  obtain ⟨j, h1, h2, h3, h4, h5⟩ := atI_get he
  obtain ⟨w, ew, rw'⟩ := r.get h2
  have hl := r.length
  have hn := line63
  have fin : EP X pins σ Q w s := ⟨z, H, I, rw', q⟩
  by_cases h0 : 0 ≤ i
  · have hj : i.toNat = j := by
      rw [seqIndex_of h0 h5] at h1
      exact Option.some.inj h1
    exact item_listR pl.isList h0 (by omega) (by rw [hj]; simpa using ew) fin hs
  · have hj : (i + (its.toArray.size : Int)).toNat = j := by
      rw [seqIndex_neg (by omega) h4] at h1
      rw [List.size_toArray, ← hl]
      exact Option.some.inj h1
    exact subscriptTail_builtinR (x := w) pl.isList.typeIs slot_list_getitem.lookup
      (wpAny_getItem_list_neg (Q := fun r s' => r = w ∧ EP X pins σ Q r s') pl.isList (by omega) (by rw [List.size_toArray] <;> omega) (by omega) (by rw [hj]; simpa using ew) ⟨rfl, fin⟩) hs
theorem ix_tup : IxR X (rIxT X.K) := by
  refine .mk ?_
  intro value slice pins s σ H x y v u Q I rx ry h hs
  obtain ⟨p, xs, i, z, rfl, rfl, hq, he, q⟩ := h
  cases rx
  obtain ⟨t, rfl⟩ := ry
  obtain ⟨its, r, pl, hz⟩ := I.tuple hq
  obtain ⟨j, h1, h2, h3, h4, h5⟩ := atI_get he
  obtain ⟨w, ew, rw'⟩ := r.get h2
  have hl := r.length
  have hn := line63
  have fin : EP X pins σ Q w s := ⟨z, H, I, rw', q⟩
  exact subscriptTail_builtinR (x := w) pl.typeIs slot_tuple_getitem.lookup
    (getItem_tuple (j := j) (Q := fun r s' => r = w ∧ EP X pins σ Q r s') pl (by omega) (by omega) (by rw [List.size_toArray, ← hl]; exact h1) (by simpa using ew) ⟨rfl, fin⟩) hs
theorem ix_str : IxR X rIxS := by
  refine .mk ?_
  intro value slice pins s σ H x y v u Q I rx ry h hs
  obtain ⟨z, i, c, rfl, rfl, hz, he, q⟩ := h
  obtain ⟨t, rfl⟩ := rx
  obtain ⟨t', rfl⟩ := ry
  obtain ⟨j, h1, h2, h3, h4, h5⟩ := atI_get he
  have hl : z.cps.toList.length = z.length := by simp [Str.length]
  rw [hl] at h1 h4 h5
  have hn := line63
  exact tail_any (typeIs_str s z t) slot_str_getitem.lookup (getItem_str (c := c) (by
    have e1 : decide (i < -(2 ^ 63 : Int)) = false := decide_eq_false (by omega)
    have e2 : decide (i ≥ 2 ^ 63) = false := decide_eq_false (by omega)
    rw [e1, e2, Bool.or_false]) (by rw [h1]; simpa using h2) ⟨.str ⟨#[c]⟩, H, I.tok _, ⟨_, rfl⟩, q⟩) hs
/-! ### xs[i] = v, any sign -/
/-- the list's object behind a store -/
theorem mapSeq_set (its : List Value) (n j : Nat) (u : Value) : Obj.mapSeq (·.setIfInBounds j u) { cls := .type "list", data := .seq its.toArray n } = { cls := .type "list", data := .seq (its.set j u).toArray n } := by
  simp [Obj.mapSeq]
theorem Inv.lst {pins : List (Addr × Obj)} {σ : St} {H : Hp} {s : Shared} {p : Addr} {xs : List V} (I : Inv X pins σ H s) (h : H p = some (.lst xs)) :
    ∃ (its : List Value) (n : Nat), Vals xs its ∧ s.heap.get? p = some { cls := .type "list", data := .seq its.toArray n } ∧ xs.length ≤ sizeLine := by
  obtain ⟨z, its, n, r, e⟩ := I.hok p _ h
  exact ⟨its, n, r, e, z⟩
/-- the list at p is written by an update of its object -/
theorem Inv.lstUpd {pins : List (Addr × Obj)} {σ : St} {H : Hp} {s : Shared} {p : Addr} {xs ys : List V} {its its' : List Value} {n n' : Nat} {f : Obj → Obj} (I : Inv X pins σ H s) (h : H p = some (.lst xs))
    (ho : s.heap.get? p = some { cls := .type "list", data := .seq its.toArray n }) (hf : f { cls := .type "list", data := .seq its.toArray n } = { cls := .type "list", data := .seq its'.toArray n' }) (r : Vals ys its') (hz : ys.length ≤ sizeLine) (t : Nat) :
    Inv X pins σ (upd H p (.lst ys)) { s with heap := s.heap.update p f, toks := t } := by
  have e : (s.heap.update p f).get? p = some { cls := .type "list", data := .seq its'.toArray n' } := by
    rw [Heap.get?_update_self f ho (by rw [hf] <;> rfl), hf]
  refine I.write (x := p) (e := p) (by rw [h]; trivial) (.inl rfl) (fun b u hb q => (Heap.get?_update_other _ _ (Ne.symm hb)).trans q) ⟨_, e⟩ ?_
  exact ⟨hz, its', n', r, e⟩
def rSetL : V → V → V → Hp → (Hp → Prop) → Prop := fun o i v H Q => ∃ p xs k j, o = .ref p ∧ i = .int k ∧ H p = some (.lst xs) ∧ ixN xs.length k = some j ∧ Q (upd H p (.lst (xs.set j v)))
theorem set_list : PSet X rSetL := by
  refine .mk ?_
  intro pins s σ H o i v ov iv u Q I ro ri rv h
  obtain ⟨p, xs, k, j, rfl, rfl, hp, hj, q⟩ := h
  cases ro
  obtain ⟨t, rfl⟩ := ri
  obtain ⟨its, n, r, ho, hz⟩ := I.lst hp
  obtain ⟨h1, h2, h3, h4⟩ := ixN_seq hj
  have hl := r.length
  have hn := line63
  have I' : Inv X pins σ (upd H p (.lst (xs.set j v))) { s with heap := s.heap.update p (Obj.mapSeq (·.setIfInBounds j u)) } :=
    I.lstUpd hp ho (mapSeq_set its n j u) (r.set rv j) (by rw [List.length_set]; exact hz) s.toks
  by_cases h0 : 0 ≤ k
  · have hk : k.toNat = j := by
      rw [seqIndex_of h0 h4] at h1
      exact Option.some.inj h1
    exact PySem.W.ki_setAt ho h0 (by omega) (by rw [List.size_toArray, ← hl]; exact h4) (by rw [hk]; exact ⟨_, I', q⟩)
  · have hk : (k + (its.toArray.size : Int)).toNat = j := by
      rw [seqIndex_neg (by omega) h3] at h1
      rw [List.size_toArray, ← hl]
      exact Option.some.inj h1
    exact PySem.W.ki_setBack ho (by omega) (by rw [List.size_toArray, ← hl]; exact h3) (by omega) (by rw [hk]; exact ⟨_, I', q⟩)

/-! ### slices -/
/-! ### in, not in: flat items -/
/-! ### len, list(x), tuple(x) of any list or tuple that is read -/
theorem call_len_seq : CallR X (.builtin "len") (fun xs H Q => ∃ p ys, xs = [.ref p] ∧ (SqL X.K H p ys ∨ SqT X.K H p ys) ∧ Q (.int ys.length) H) := by
  refine .mk ?_
  intro pins s σ H xs us Q I r h
  obtain ⟨p, ys, rfl, hq, q⟩ := h
  obtain ⟨u, rfl, rx⟩ := vals1 r
  cases rx
  have hn := line63
  rcases hq with hq | hq
  · obtain ⟨its, r', pl, hz⟩ := I.list hq
    have hlen := r'.length
    exact Calls.call_len_list pl.isList (by simp only [List.size_toArray] <;> omega) ⟨.int ys.length, H, I.tok _, ⟨s.toks + 1, by rw [List.size_toArray, hlen]⟩, q⟩
  · obtain ⟨its, r', pl, hz⟩ := I.tuple hq
    have hlen := r'.length
    exact len_tuple pl (by simp only [List.size_toArray] <;> omega) ⟨.int ys.length, H, I.tok _, ⟨s.toks + 1, by rw [List.size_toArray, hlen]⟩, q⟩
theorem call_len_str : CallR X (.builtin "len") (fun xs H Q => ∃ z, xs = [.str z] ∧ z.length ≤ sizeLine ∧ Q (.int z.length) H) := by
  refine .mk ?_
  intro pins s σ H xs us Q I r h
  obtain ⟨z, rfl, hz, q⟩ := h
  obtain ⟨u, rfl, t, rfl⟩ := vals1 r
  have hn := line63
  exact len_str (by omega) ⟨.int z.length, H, I.tok _, ⟨_, rfl⟩, q⟩
theorem CallR.or {f : Value} {r r' : List V → Hp → VK → Prop} (h : CallR X f r) (h' : CallR X f r') : CallR X f (fun xs H Q => r xs H Q ∨ r' xs H Q) := by
  refine .mk ?_
  intro pins s σ H xs us Q I rs q
  rcases q with q | q
  · exact h pins s σ H xs us Q I rs q
  · exact h' pins s σ H xs us Q I rs q
/-! ### the call of a builtin's method: o.m(..) -/
/-- the value is of that builtin type -/
def tyV (K : PySem.W.Frag) (T : String) (x : V) (H : Hp) : Prop := match x with
  | .str _ => T = "str"
  | .int _ => T = "int"
  | .ref p => (T = "list" ∧ ∃ xs, SqL K H p xs) ∨ (T = "tuple" ∧ ∃ o, K.lookup p = some o ∧ o.cls = .type "tuple" ∧ o.dict = none) ∨
      (T = "dict" ∧ ((∃ kvs, H p = some (.dK kvs)) ∨ ∃ kvs, H p = some (.dT kvs))) ∨ (T = "set" ∧ ∃ S n, H p = some (.set S n))
  | _ => False
theorem tyV_is {pins : List (Addr × Obj)} {σ : St} {H : Hp} {s : Shared} {T : String} {x : V} {v : Value} (I : Inv X pins σ H s) (r : RelV x v) (ty : tyV X.K T x H) :
    s.TypeIs v T ∧ ∀ a, v = .ref a → ∃ ob, s.heap.get? a = some ob ∧ ob.dict = none := by
  cases x with
  | str z =>
    obtain ⟨t, rfl⟩ := r
    cases (show T = "str" from ty)
    exact ⟨typeIs_str s z t, fun _ e => nomatch e⟩
  | int i =>
    obtain ⟨t, rfl⟩ := r
    cases (show T = "int" from ty)
    exact ⟨typeIs_int s i t, fun _ e => nomatch e⟩
  | ref p =>
    cases r
    rcases ty with ⟨rfl, xs, hq⟩ | ⟨rfl, o, hk, hc, hd⟩ | ⟨rfl, hk⟩ | ⟨rfl, S, n, hk⟩
    · obtain ⟨its, _, pl, _⟩ := I.list hq
      refine ⟨pl.isList.typeIs, fun a e => ?_⟩
      cases e
      obtain ⟨o, n, e, c, hd, _⟩ := pl
      exact ⟨o, e, hd⟩
    · refine ⟨⟨o, I.kIn p o hk, hc⟩, fun a e => ?_⟩
      cases e
      exact ⟨o, I.kIn _ o hk, hd⟩
    · have z : ∃ o, s.heap.get? p = some o ∧ o.ExactDict := by
        rcases hk with ⟨kvs, hk⟩ | ⟨kvs, hk⟩
        · obtain ⟨_, _, _, _, o, _, _, e, ex, _⟩ := I.hok p _ hk
          exact ⟨o, e, ex⟩
        · obtain ⟨_, _, _, _, o, _, _, e, ex, _⟩ := I.hok p _ hk
          exact ⟨o, e, ex⟩
      obtain ⟨o, e, ex⟩ := z
      refine ⟨⟨o, e, ex.1⟩, fun a e2 => ?_⟩
      cases e2
      exact ⟨o, e, ex.2.1⟩
    · obtain ⟨o, _, _, _, e, ex, _⟩ := I.hok p _ hk
      refine ⟨⟨o, e, ex.1⟩, fun a e2 => ?_⟩
      cases e2
      exact ⟨o, e, ex.2.1⟩
  | _ => exact False.elim ty
def tBM0 (K : PySem.W.Frag) (T : String) (r : V → List V → Hp → VK → Prop) (to : TE) : TE := fun σ H Q => to σ H fun x H1 => tyV K T x H1 ∧ r x [] H1 Q
def tBM (K : PySem.W.Frag) (T : String) (r : V → List V → Hp → VK → Prop) (to : TE) (t : TA) : TE := fun σ H Q => to σ H fun x H1 => tyV K T x H1 ∧ t σ H1 fun xs H2 => r x xs H2 Q
variable {o e : Expr} {es : List Expr} {to : TE} {t : TA} {name : Str} {apos cpos : Pos} {T id : String} {r : V → List V → Hp → VK → Prop}
theorem pe_bm0 (pa : PlainAttrs T) (slot : Slot T name id) (hty : typeOf (.builtin id) = pure (.type "method_descriptor")) (hm : MtR X id r) (ho : PE X o to)
    (hbase : attributeBase o name X.env (eval o X.env) = eval o X.env := by rfl) (hline : (apos.endLine == cpos.line) = true := by rfl) : PE X (.Call (.Attribute o name apos) [] [] cpos) (tBM0 X.K T r to) := by
  refine .mk ?_
  intro pins s σ H Q I h
  refine wpAny_Call_method0_late hbase hline (thn (ho pins s σ H _ I h) fun v s1 ⟨x, H1, I1, r1, ty, q1⟩ => ?_)
  obtain ⟨h1, h2⟩ := tyV_is I1 r1 ty
  exact ⟨T, id, pa, slot, hty, h1, h2, Calls.callWith_builtin rfl (PySem.evalArgs_none (hm pins s1 σ H1 x [] v [] Q I1 r1 .nil q1))⟩
theorem pe_bm (pa : PlainAttrs T) (slot : Slot T name id) (hty : typeOf (.builtin id) = pure (.type "method_descriptor")) (hm : MtR X id r) (ho : PE X o to) (ha : PA X (e :: es) t)
    (hbase : attributeBase o name X.env (eval o X.env) = eval o X.env := by rfl)
    (hfew : ((backTo cpos (starEach (e :: es) X.env)).all (fun x => !x.1) && (backToKw cpos (keywordEach [] X.env)).all (fun x => x.1.isSome)
      && decide ((e :: es).length + ([] : List Keyword).length + (if ([] : List Keyword).isEmpty then 0 else 1) < 30)) = true := by rfl)
    (hline : (apos.endLine == cpos.line) = true := by rfl) (hs : starEach (e :: es) X.env = (false, eval e X.env) :: starEach es X.env := by rfl) (hplain : (backTo cpos (starEach es X.env)).any (·.1) = false := by rfl) :
    PE X (.Call (.Attribute o name apos) (e :: es) [] cpos) (tBM X.K T r to t) := by
  refine .mk ?_
  intro pins s σ H Q I h
  refine wpAny_Call_method_late hbase hfew hline rfl (thn (ho pins s σ H _ I h) fun v s1 ⟨x, H1, I1, r1, ty, q1⟩ => ?_)
  obtain ⟨h1, h2⟩ := tyV_is I1 r1 ty
  refine ⟨T, id, pa, slot, hty, h1, h2, ?_⟩
  have hA := ha cpos pins s1 σ H1 _ I1 q1
  rw [hs] at hA ⊢
  refine Calls.callWith_builtin (by show (false || (backTo cpos (starEach es X.env)).any (·.1)) = false; rw [hplain] <;> rfl) (Calls.evalArgs_plain ?_)
  exact thn hA fun us s2 ⟨vs, H2, I2, r2, q2⟩ => hm pins s2 σ H2 x vs v us Q I2 r1 r2 q2
/- xs.append(e), list.index on a module's tuple .. are MtR facts of 06m -/
end
end L2

namespace L2
open PySem PySem.Spec PyProof.Rows

def MtM (X : Cx) (id : String) (r : V → List V → Hp → VK → Prop) : Prop :=
  ∀ (pins : List (Addr × Obj)) (s : Shared) (σ : St) (H : Hp) (x : V) (xs : List V) (v : Value) (us : List Value) (Q : VK), Inv X pins σ H s → RelV x v → Vals xs us → r x xs H Q →
    wpAny (model X.prog X.w) X.A (call (.builtin id) (v :: us)) (EP X pins σ Q) X.xe s

/-! ### lists of values -/
theorem Vals.one : ∀ {x : V} {us : List Value}, Vals [x] us → ∃ u, us = [u] ∧ RelV x u
  | _, _, .cons r .nil => ⟨_, rfl, r⟩
theorem Vals.two : ∀ {x y : V} {us : List Value}, Vals [x, y] us → ∃ u v, us = [u, v] ∧ RelV x u ∧ RelV y v
  | _, _, _, .cons r (.cons q .nil) => ⟨_, _, rfl, r, q⟩
theorem Vals.zero : ∀ {us : List Value}, Vals [] us → us = []
  | _, .nil => rfl
theorem Vals.reverse {xs : List V} {us : List Value} (h : Vals xs us) : Vals xs.reverse us.reverse := by
  induction h with
  | nil => exact .nil
  | cons r t ih => rw [List.reverse_cons, List.reverse_cons]; exact Vals.append ih (.cons r .nil)
theorem Vals.rep {xs : List V} {us : List Value} (h : Vals xs us) : ∀ k : Nat, Vals (List.replicate k xs).flatten (List.replicate k us).flatten
  | 0 => .nil
  | k + 1 => by
    rw [List.replicate_succ, List.replicate_succ, List.flatten_cons, List.flatten_cons]
    exact Vals.append h (Vals.rep h k)
theorem foldl_rep (its : List Value) : ∀ (k : Nat) (acc : List Value),
    List.foldl (fun x1 x2 => x1 ++ x2) acc.toArray (List.replicate k its.toArray) = (acc ++ (List.replicate k its).flatten).toArray
  | 0, acc => by simp
  | k + 1, acc => by
    have e : acc.toArray ++ its.toArray = (acc ++ its).toArray := by simp
    have e2 : (acc ++ its) ++ (List.replicate k its).flatten = acc ++ (List.replicate (k + 1) its).flatten := by
      rw [List.replicate_succ, List.flatten_cons, List.append_assoc]
    rw [← e2, ← foldl_rep its k (acc ++ its), ← e, List.replicate_succ, List.foldl_cons]

section
variable {X : Cx} {pins : List (Addr × Obj)} {σ : St} {H : Hp} {s : Shared} {l b : Addr} {xs ys zs : List V}

/-! ### the two steps: a tracked list is rewritten, a new list is laid -/
theorem Inv.lset {its its' : List Value} {n : Nat} {f : Array Value → Array Value} {t' : Nat} (I : Inv X pins σ H s) (hH : H l = some (.lst xs))
    (e : s.heap.get? l = some { cls := .type "list", data := .seq its.toArray n }) (hf : f its.toArray = its'.toArray) (hv : Vals ys its') (hz : ys.length ≤ sizeLine) :
    Inv X pins σ (upd H l (.lst ys)) { s with heap := s.heap.update l (Obj.mapSeq f), toks := t' } := by
  have q := PySem.IsL.update e f
  rw [hf] at q
  refine I.write (x := l) (e := l) (by rw [hH]; exact trivial) (.inl rfl) (fun b' u hb hu => (Heap.get?_update_other s.heap (Obj.mapSeq f) (Ne.symm hb)).trans hu) ⟨_, q⟩ ?_
  exact ⟨hz, its', _, hv, q⟩
theorem Inv.lnew {its : List Value} {t' : Nat} (I : Inv X pins σ H s) (hv : Vals ys its) (hz : ys.length ≤ sizeLine) :
    Inv X pins σ (upd H s.heap.objs.size (.lst ys)) { s with heap := s.heap.push { cls := .type "list", data := .seq its.toArray }, toks := t' } :=
  I.laid (fun _ _ q => Heap.get?_push_of_some _ q) (Nat.le_refl _) ⟨hz, its, 0, hv, Heap.get?_push_size _ rfl⟩
theorem Inv.fresh (I : Inv X pins σ H s) : H s.heap.objs.size = none := I.hok.fresh (Nat.le_refl _)
theorem Inv.lstM (I : Inv X pins σ H s) (hH : H l = some (.lst xs)) : xs.length ≤ sizeLine ∧ ∃ (its : List Value) (n : Nat), Vals xs its ∧ xs.length = its.length ∧ s.heap.get? l = some { cls := .type "list", data := .seq its.toArray n } := by
  obtain ⟨z, its, n, r, e⟩ := I.hok l _ hH
  exact ⟨z, its, n, r, r.length, e⟩

theorem notLongL {n : Nat} (h : n ≤ sizeLine) : Builtin.List.listTooLong n = false := by
  unfold Builtin.List.listTooLong
  exact decide_eq_false (by omega)
end

section
variable {X : Cx}

/-! ### methods -/
def rAppend : V → List V → Hp → VK → Prop := fun x vs H Q => ∃ l xs y, x = .ref l ∧ vs = [y] ∧ H l = some (.lst xs) ∧ xs.length < sizeLine ∧ Q .non (upd H l (.lst (xs ++ [y])))
theorem mt_append : MtM X "list.append" rAppend := by
  intro pins s σ H x vs v us Q I rx rv h
  obtain ⟨l, xs, y, rfl, rfl, hH, hz, q⟩ := h
  cases rx
  obtain ⟨u, rfl, ru⟩ := rv.one
  obtain ⟨z, its, n, r, hl, e⟩ := I.lstM hH
  refine call_meets F.slot_list_append ⟨_, e, rfl⟩ F.entry_list_append (F.args_list_append_2 _ _) (PySem.list_append l its.toArray n u (by rw [List.size_toArray]; omega)) ⟨e, ?_⟩
  refine ⟨.non, _, I.lset (its' := its ++ [u]) hH e (by simp) (r.append (.cons ru .nil)) ?_, rfl, q⟩
  rw [List.length_append, List.length_singleton]
  omega

def rReverse : V → List V → Hp → VK → Prop := fun x vs H Q => ∃ l xs, x = .ref l ∧ vs = [] ∧ H l = some (.lst xs) ∧ Q .non (upd H l (.lst xs.reverse))
theorem mt_reverse : MtM X "list.reverse" rReverse := by
  intro pins s σ H x vs v us Q I rx rv h
  obtain ⟨l, xs, rfl, rfl, hH, q⟩ := h
  cases rx
  have hus := rv.zero
  subst hus
  obtain ⟨z, its, n, r, hl, e⟩ := I.lstM hH
  refine call_meets F.slot_list_reverse ⟨_, e, rfl⟩ F.entry_list_reverse (F.args_list_reverse_1 _) (AutoSeq1.list_reverse_list_0 l its.toArray n (by rw [List.size_toArray]; omega)) ⟨e, ?_⟩
  refine ⟨.non, _, I.lset (its' := its.reverse) hH e (by simp) r.reverse ?_, rfl, q⟩
  rw [List.length_reverse]
  omega

/-! ### list + list, list += list, list * int -/
def rCat : R2 := fun x y H Q => ∃ l b xs zs, x = .ref l ∧ y = .ref b ∧ H l = some (.lst xs) ∧ H b = some (.lst zs) ∧ xs.length + zs.length ≤ sizeLine ∧ ∀ p, H p = none → Q (.ref p) (upd H p (.lst (xs ++ zs)))
theorem op_cat : OpR X (binaryOp .Add) rCat := by
  refine .mk ?_
  intro pins s σ H x y v u Q I rx ry h
  obtain ⟨l, b, xs, zs, rfl, rfl, hH, hB, hz, q⟩ := h
  cases rx
  cases ry
  obtain ⟨z, its, n, r, hl, e⟩ := I.lstM hH
  obtain ⟨z2, its2, n2, r2, hl2, e2⟩ := I.lstM hB
  refine PySem.P.add_list e e2 ?_ (by rw [List.size_toArray, List.size_toArray]; omega)
  have ea : its.toArray ++ its2.toArray = (its ++ its2).toArray := by simp
  rw [ea]
  exact ⟨.ref _, _, I.lnew (t' := s.toks) (r.append r2) (by rw [List.length_append]; omega), rfl, q _ I.fresh⟩
/-- a list times an int (a negative one is nothing) -/
def rRep : R2 := fun x y H Q => ∃ l k xs, x = .ref l ∧ y = .int k ∧ H l = some (.lst xs) ∧ -(2 ^ 63) ≤ k ∧ k < 2 ^ 63 ∧ xs.length * k.toNat ≤ sizeLine ∧
  ∀ p, H p = none → Q (.ref p) (upd H p (.lst (List.replicate k.toNat xs).flatten))
theorem len_rep {α : Type} (xs : List α) (k : Nat) : (List.replicate k xs).flatten.length = k * xs.length := by
  induction k with
  | zero => simp
  | succ k ih => rw [List.replicate_succ, List.flatten_cons, List.length_append, ih, Nat.succ_mul, Nat.add_comm]
theorem op_rep : OpR X (binaryOp .Mult) rRep := by
  refine .mk ?_
  intro pins s σ H x y v u Q I rx ry h
  obtain ⟨l, k, xs, rfl, rfl, hH, h1, h2, hz, q⟩ := h
  cases rx
  obtain ⟨t, rfl⟩ := ry
  obtain ⟨z, its, n, r, hl, e⟩ := I.lstM hH
  have hlen : its.toArray.size * k.toNat ≤ sizeLine := by rw [List.size_toArray, ← hl]; exact hz
  have hcap : ¬ its.toArray.size * k.toNat > (2 ^ 63 - 1) / 8 := by
    have : (sizeLine : Nat) ≤ (2 ^ 63 - 1) / 8 := by decide
    omega
  have hfit : ¬ (!Builtin.List.listFitsIndex k) = true := by
    rw [fitsIndex_both h1 h2]
    exact Bool.false_ne_true
  have hlong : ¬ Builtin.List.listTooLong (its.toArray.size * k.toNat) = true := by
    rw [notLongL hlen]
    exact Bool.false_ne_true
  have hnew : List.foldl (fun x1 x2 => x1 ++ x2) #[] (List.replicate (if its.toArray.isEmpty = true then 0 else k.toNat) its.toArray) = (List.replicate k.toNat its).flatten.toArray := by
    have f0 : ∀ m : Nat, List.foldl (fun x1 x2 => x1 ++ x2) #[] (List.replicate m its.toArray) = (List.replicate m its).flatten.toArray := fun m => by
      have := foldl_rep its m []
      rw [List.nil_append] at this
      exact this
    rw [f0]
    cases its with
    | nil => simp
    | cons a r' => rw [if_neg (by simp)]
  refine wpAny_binaryOp_repeat_ref (T := "list") (U := "int") (by decide) ⟨_, e, rfl⟩ (fun s' => typeIs_int s' k t) noFill_list_mul F.fills_int_mul F.slot_int_rmul repeat_list F.slot_int_index.lookup
    (call_meets F.slot_int_rmul (typeIs_int s k t) F.entry_int_rmul (F.args_int_rmul_2 _ _) (int___rmul___int_list k t l its.toArray n)
      ⟨e, rfl, ⟨_, e, rfl⟩, call_meets F.slot_list_mul ⟨_, e, rfl⟩ F.entry_list_mul (F.args_list_mul_2 _ _) (AutoListH.list___mul___list_int_3 l its.toArray n k t hfit hcap hlong) ⟨e, ?_⟩⟩)
  rw [hnew]
  exact ⟨.ref _, _, I.lnew (t' := s.toks) (r.rep k.toNat) (by rw [len_rep, Nat.mul_comm]; exact hz), rfl, q _ I.fresh⟩

/-! ### del xs[i] -/
end

/-! ### xs[a:b] = ys -/
section
variable {prog : Program} {w : World} {A : Around} {E : Value → Shared → Prop} {s : Shared}
end

section
variable {X : Cx}
end
end L2

namespace Att
open PySem PySem.W PySem.Calls PyProof.Rows

/-! ### the script -/
theorem ints_of_wellAll {P : Params} {h : Heap} : ∀ (ns : List Int) (vs : List Value), WellAll P h vs (ns.map WData.int) → IntsAre vs ns := by
  intro ns
  induction ns with
  | nil =>
    intro vs w
    rw [List.map_nil] at w
    cases w
    exact .nil
  | cons n ns ih =>
    intro vs w
    rw [List.map_cons] at w
    cases w with
    | cons a b =>
      cases a
      exact .cons _ _ (ih _ b)

theorem script_of {l : OpenLaw} {n : Nat} (hn : l.most = some n) {P : Params} {h : Heap} {args : List WData} {vals : List Value}
    (hpre : l.row.toRowW.claim.pre args = true) (hwl : WellAll P h vals args) :
    ∃ a vs ns, vals = [Value.ref a] ∧ args = [WData.list (ns.map WData.int)] ∧ h.get? a = some { cls := .type "list", data := .seq vs.toArray } ∧ IntsAre vs ns ∧ ns.length ≤ n := by
  have hsh : WShape.hasAll [] args [.list .int] = true := (pre_splitW hpre).1
  have hc : l.pre.holds [] { args := args } = true := (pre_splitW hpre).2
  obtain ⟨d, r, rfl, h1, h2⟩ := hasAllW_cons hsh
  obtain rfl := hasAllW_nil h2
  obtain ⟨xs, rfl, h3⟩ := hasW_list h1
  obtain ⟨ns, rfl⟩ := items_int h3
  have hlen : ns.length ≤ n := by
    unfold OpenLaw.pre at hc
    have h4 : (WTm.not (.lt (.lit (.int (n : Int))) (.len (.arg 0)))).holds [] { args := [.list (ns.map .int)] } = true := by
      have h4 := (holds_andW hc).1
      rw [hn] at h4
      exact h4
    have h5 := condW_of h4 (w_not (w_lt w_lit (w_len_list (w_arg rfl))))
    rw [List.length_map] at h5
    refine Nat.le_of_not_lt fun q => ?_
    have q' : (n : Int) < ((ns.length : Nat) : Int) := by omega
    first
      | (rw [decide_eq_true q'] at h5; exact absurd h5 (by decide))
      | (simp at h5; omega)
  cases hwl with
  | cons w1 w2 =>
    cases w2
    cases w1 with
    | list ho hall => exact ⟨_, _, ns, rfl, rfl, ho, ints_of_wellAll ns _ hall, hlen⟩

theorem post_true (l : OpenLaw) (args : List WData) : l.row.toRowW.claim.post args (.bool true) args = true :=
  postW_of (r := l.row.toRowW) (X := (true == true))
    (show WShape.has [] (.bool true) .bool = true by first | rfl | decide | simp [WShape.has, WShape.arms, WShape.armsAll])
    (show (WTm.eq .res (.lit (.bool true))).value [] { args := args, res := some (.bool true), after := args } = some (.bool (true == true)) from w_eq_bool (w_res rfl) w_lit) rfl

/-! ### the attachment: holds_open's last premise (the goal 'hc' behind k_head) from a wpAny of the law's body -/
/-- the same from a codeAny of the CALL (for a layer whose function contracts speak of calls) -/
theorem attach_call {l : OpenLaw} {n : Nat} {q : Program} {loose : List Str} {XP : (Str → Option Value) → Heap → Prop} {YP : World → Heap → Prop} {d : DefRec}
    (hn : l.most = some n) (hdf : d.params.defaults = [])
    (call : ∀ (w : World) (s₀ s₁ : Shared) (mg mb : Str → Option Value) (fa : Addr) (o : Obj) (pm cd doc : Value) (a : Addr) (vs : List Value) (ns : List Int),
      Ground q loose [] XP w s₀ mg mb s₁.heap → YP w s₁.heap →
      s₁.heap.get? fa = some o → o.data = .func (docDef d.name d.params d.body d.scope pm cd doc) → s₁.heap.CodeRec cd d.name → mg d.name = some (.ref fa) →
      s₁.heap.get? a = some { cls := .type "list", data := .seq vs.toArray } → IntsAre vs ns → ns.length ≤ n → s₁.gens = #[] →
      codeAny (model l.prog w) callerA (.call (.ref fa) ⟨[.ref a], []⟩) (fun r s' => r = .ok (.ret (.bool true)) ∧ OldK s₁.heap s'.heap ∧ s'.os = s₁.os ∧ AllBare s'.gens) s₁) :
    WalkO q loose XP YP l.row.toRowW d [] (fun f vs => PySem.call f vs) := by
  intro w s₀ s₁ mg mb G Y fa o pm cd doc dV kV ho hd hcd hD hmg hg args vals as hpre hlay hrd hwl hlo
  obtain rfl : dV = .none := Dflts.none hD hdf
  obtain rfl : kV = .none := Dflts.noKw hD
  obtain ⟨a, vs, ns, rfl, rfl, hobj, hints, hlen⟩ := script_of hn hpre hwl
  refine enter_call (codeAny_mono (call w s₀ s₁ mg mb fa o pm cd doc a vs ns G Y ho (fd_plain hd) hcd hmg hobj hints hlen hg) fun r s' hq => ?_)
  obtain ⟨rfl, h2, h3, h4⟩ := hq
  exact ⟨.inl ⟨.bool true, .bool true, [], rfl, fun _ => rfl, .bool true, post_true l _, fun _ => ⟨List.Pairwise.nil, fun _ hm => (nomatch hm)⟩⟩, h2, h3, h4⟩

/-! ### rules over ANY heap (no ledger) from facts about the written part K: the library's own take a ledger (News) for what they write -/
section
variable {prog : Program} {w : World} {A : Around} {E : Value → Shared → Prop} {s : Shared} {K : Frag}

/-! the whole heap as the ledger: makes every rule that writes through a ledger a rule over any heap -/
def ledger (h : Heap) (L d : Addr) : List (Addr × Obj) := (List.range h.objs.size).filterMap fun a => if a = L ∨ a = d then none else (h.get? a).map fun o => (a, o)
end
end Att

namespace L2
open PySem PySem.Spec PyProof.Rows

theorem vals_ints : ∀ {vs : List Value} {ns : List Int}, IntsAre vs ns → Vals (ns.map V.int) vs
  | _, _, .nil => .nil
  | _, _, .cons n t h => .cons ⟨t, rfl⟩ (vals_ints h)

/-- nothing is tracked but the script, known to the object (or it is an object of the module) -/
def Only (H : Hp) : Prop := ∀ b, H b = none ∨ ∃ o xs, H b = some (.frz o (.lst xs))

/-- THE HEAD: the law's promise, at the heap behind the top. F, the promise of the law's def, may use that base is part of the heap (so K.In base, base.Ns mainGlobals mg stand in Mod) -/
theorem law_call {P : Program} {w : World} {K : PySem.W.Frag} {mg mb : Str → Option Value} {CX : CXT} {k : Nat} {fa a : Addr} {fd : FuncData} {x : Str} {sp : Sp} {s₁ : Shared} {vs : List Value} {ns : List Int}
    (KX : K.In s₁.heap) (hns : s₁.heap.Ns mainGlobals mg) (hb : s₁.heap.Ns builtinsNs mb) (hbb : ∀ x : Str, x ≠ "__name__" → mb x = bootBuiltins x) (hlim : s₁.heap.NoLimit) (hg : s₁.gens = #[])
    (ha : s₁.heap.get? a = some { cls := .type "list", data := .seq vs.toArray }) (hi : IntsAre vs ns) (hl : ns.length ≤ sizeLine) (hr : Room k callerA)
    (F : ∀ base : Heap, K.In base → base.Ns mainGlobals mg → FnOk P w K mg base CX k fa fd [x] sp) (hbind : ∀ (s : Shared) (u : Value), BindsTo s fd ⟨[u], []⟩ [(x, u)])
    (hsp : ∀ H : Hp, Only H → SqL K H a (ns.map V.int) → sp [.ref a] H (fun v _ => v = .bl true) fun _ _ _ => False)
    (hCX : ∀ H e s', CX [] H s₁ (fun _ _ _ => False) e s' → False) :
    codeAny (model P w) callerA (.call (.ref fa) ⟨[.ref a], []⟩) (fun r s' => r = .ok (.ret (.bool true)) ∧ OldK s₁.heap s'.heap ∧ s'.os = s₁.os ∧ AllBare s'.gens) s₁ := by
  have rv := vals_ints hi
  have lenV := hi.length
  -- from an abstract heap in which nothing but the script may be tracked
  have core : ∀ H : Hp, Only H → SqL K H a (ns.map V.int) → HOk P w H s₁.heap → (∀ b, H b ≠ none → b = a) → (H a ≠ none → K.lookup a = none) →
      codeAny (model P w) callerA (.call (.ref fa) ⟨[.ref a], []⟩) (fun r s' => r = .ok (.ret (.bool true)) ∧ OldK s₁.heap s'.heap ∧ s'.os = s₁.os ∧ AllBare s'.gens) s₁ := by
    intro H hO hS hok hA hK
    have base_of : ∀ {b : Addr} {o : Obj}, s₁.heap.get? b = some o → H b = none → (hidT s₁.heap H).get? b = some o := fun e n => hidT_get e n
    have noA : ∀ {b : Addr} {o : Obj} {es : Array DictEntry} {ep : Nat}, s₁.heap.get? b = some o → o.data = .dict es ep → H b = none := fun {b o es ep} e d => by
      cases q : H b with
      | none => rfl
      | some u =>
        have e' : b = a := hA b (by rw [q]; simp)
        subst e'
        rw [ha] at e; cases e
        have d' : Data.seq vs.toArray _ = Data.dict es ep := d
        cases d'
    have nsK : ∀ {b : Addr} {m : Str → Option Value}, s₁.heap.Ns b m → (hidT s₁.heap H).Ns b m := fun {b m} ⟨o, es, ep, e, d, r⟩ => ⟨o, es, ep, base_of e (noA e d), d, r⟩
    have hKb : K.In (hidT s₁.heap H) := fun b o e => base_of (KX b o e) (by
      cases q : H b with
      | none => rfl
      | some u =>
        have e' : b = a := hA b (by rw [q]; simp)
        subst e'
        rw [hK (by rw [q]; simp)] at e; cases e)
    have hM : Mod K mg (hidT s₁.heap H) := ⟨hKb, nsK hns, ⟨mb, nsK hb, hbb⟩, let ⟨mc, h1, h2⟩ := hlim; ⟨mc, nsK h1, h2⟩⟩
    have e0 : Env0 P w K mg (hidT s₁.heap H) callerA [] s₁ H := ⟨rfl, hM, fun b o e => of_hidT e, Nat.le_of_eq (hidT_size _ _), trivial, fun b hb => absurd (show b ∈ ([] : List Addr) from hb) (by simp), hok, .of_eq hg⟩
    refine codeAny_mono ((F _ hKb (nsK hns)).run callerA [] s₁ H ⟨[.ref a], []⟩ [.ref a] [.ref a] _ _ hr e0 (hbind s₁ (.ref a)) (.cons rfl .nil) (hsp H hO hS)) fun r s' h => ?_
    cases r with
    | error e => exact (hCX H e s' h).elim
    | ok fl =>
      cases fl with
      | next => exact False.elim h
      | brk => exact False.elim h
      | cont => exact False.elim h
      | ret u =>
        obtain ⟨v, H', os, bare, un, hok', r', q⟩ := h
        have q' : v = .bl true := q
        subst q'
        obtain rfl : u = Value.bool true := r'
        refine ⟨rfl, OldK.of_keep fun b o e => ?_, os, bare⟩
        cases q : H b with
        | none => exact un.keep b o e q (by intro z; exact absurd (show b ∈ ([] : List Addr) from z) (by simp)) (by simp)
        | some u =>
          rcases hO b with z | ⟨ob, xs, z⟩
          · rw [q] at z; cases z
          · have z2 := un.frzs b ob _ z
            obtain ⟨e1, _⟩ := hok b _ z
            obtain ⟨e2, _⟩ := hok' b _ z2
            rw [e] at e1; cases e1
            exact e2
  cases hk : K.lookup a with
  | some o =>
    -- the script is one of the module's own objects
    have e := KX a o hk
    rw [ha] at e
    cases e
    refine core (fun _ => none) (fun _ => .inl rfl) (.inr ⟨_, vs.toArray, _, hk, rfl, rfl, rfl, by rw [List.size_toArray, lenV]; exact hl, by simpa using rv⟩) (fun b u z => by have z' : (none : Option HO) = some u := z; cases z') (fun b z => absurd rfl z) fun z => absurd rfl z
  | none =>
    refine core (fun b => if b = a then some (.frz { cls := .type "list", data := .seq vs.toArray } (.lst (ns.map V.int))) else none) (fun b => ?_) (.inl (.inr ⟨{ cls := .type "list", data := .seq vs.toArray }, if_pos rfl⟩)) (fun b u z => ?_) (fun b z => ?_) fun _ => hk
    · by_cases hb : b = a
      · exact .inr ⟨_, _, if_pos hb⟩
      · exact .inl (if_neg hb)
    · by_cases hb : b = a
      · have z' := (if_pos hb).symm.trans z
        cases z'
        subst hb
        exact ⟨ha, by rw [List.length_map]; exact hl, vs, _, rv, ha⟩
      · have z' := (if_neg hb).symm.trans z
        cases z'
    · by_cases hb : b = a
      · exact hb
      · exact absurd (if_neg hb) z
end L2

namespace L2
open PySem PySem.Spec PyProof.Rows

abbrev KOf {K : PySem.W.Frag} {h : Heap} (_ : K.In h) : PySem.W.Frag := K

/-- the goal that k_head leaves (case hc), from the law's promise. F gives the function object fd (K's own) once, then the promise over every base -/
theorem walk_of {l : PySem.W.OpenLaw} {n k : Nat} {q : Program} {loose : List Str} {XP : (Str → Option Value) → Heap → Prop} {YP : World → Heap → Prop} {d : DefRec} {K : Params → PySem.W.Frag} {CX : World → CXT} {sp : World → Sp} {x : Str}
    (hn : l.most = some n) (hn2 : n ≤ sizeLine) (hdf : d.params.defaults = []) (hr : Room k callerA)
    (hY : ∀ (w : World) (h : Heap), YP w h → (K w.params).In h)
    (F : ∀ (w : World) (mg : Str → Option Value) (fa : Addr) (h : Heap), (K w.params).In h → h.Ns mainGlobals mg → mg d.name = some (.ref fa) →
      ∃ fd : FuncData, (∀ (s : Shared) (u : Value), BindsTo s fd ⟨[u], []⟩ [(x, u)]) ∧
        ∀ base : Heap, (K w.params).In base → base.Ns mainGlobals mg → FnOk l.prog w (K w.params) mg base (CX w) k fa fd [x] (sp w))
    (hsp : ∀ (w : World) (H : Hp) (a : Addr) (ns : List Int), ns.length ≤ n → Only H → SqL (K w.params) H a (ns.map V.int) → sp w [.ref a] H (fun v _ => v = .bl true) fun _ _ _ => False)
    (hCX : ∀ (w : World) (H : Hp) (s : Shared) (e : Value) (s' : Shared), CX w [] H s (fun _ _ _ => False) e s' → False) :
    PySem.W.WalkO q loose XP YP l.row.toRowW d [] (fun f vs => PySem.call f vs) := by
  refine Att.attach_call hn hdf fun w s₀ s₁ mg mb fa o pm cd doc a vs ns G Y ho hd hcd hmg hobj hints hlen hg => ?_
  have KX := hY w _ Y
  obtain ⟨fd, hb, hF⟩ := F w mg fa _ KX G.T.g hmg
  exact law_call KX G.T.g G.T.b G.T.builtins G.T.nolimit hg hobj hints (Nat.le_trans hlen hn2) hr hF hb (fun H hO hS => hsp w H a ns hlen hO hS) fun H e s' => hCX w H s₁ e s'
end L2

/- THE LAST THEOREM (shape; LID, My.* are yours):
   My.Adr: a structure of the addresses that your layer names (classes, functions); My.Txt K t: a structure (Prop) of the equations over K;
   My.txt_mk : {K} {implicit addresses ..} (e1 : nsIn K mainGlobals "law" = some (some (.ref f))) (e2 : K.lookup f = some ⟨oc, od, .func (fnOf "law" "law" params body scope dV kV doc pm an cdv ct), sl⟩) (e3 : codeIn K cdv "law" = true) .. : ∃ t, My.Txt K t

set_option maxRecDepth 100000 in
set_option maxHeartbeats 0 in
theorem PySem.Challenge.cw_LID_holds : PySem.Challenge.rw_LID.Holds := by
  w_on; o_law; k_head; (case hw => w_witness2)
  k_fill
  refine L2.walk_of (l := PySem.Challenge.rw_LID) (n := 63) (k := 40) (x := "script") (CX := fun w => ..) (sp := fun _ => My.sp_law) rfl (by decide) rfl ⟨rfl, by decide, by decide⟩ (fun w h Y => PySem.W.kIn_of Y) ?F ?S ?C
  case F =>
    intro w mg fa h KX G hmg
    have T : ∃ t, My.Txt (L2.KOf KX) t := by
      dsimp only [L2.KOf]                          -- K must stand as «<heap const> w.params» for k_is
      refine' My.txt_mk ?e1 ?e2 ?e3 ..
      (case e1 => PySem.W.k_is)                    -- in the order: a name -> its address -> its object -> its parts
      (case e2 => PySem.W.k_is)
      ..
    obtain ⟨t, T⟩ := T
    have e0 := hmg.symm.trans (PySem.W.mg_of KX G T.law)
    cases e0                                       -- fa is the law's own address
    exact ⟨_, fun s u => .of_eq rfl, fun base kb nb => My.law_fn T kb nb⟩     -- if «.of_eq rfl» comes too early: refine' ⟨_, ?b, fun base kb nb => My.law_fn T kb nb⟩; exact fun s u => .of_eq rfl
  case S => exact fun w H a ns hl hO hS => ..
  case C => exact ..
(the tactic k_is has no namespace: write k_is) -/

/-! SHORT WORDS over the layer: a def of the text, its body, what a loop and a test want. -/
namespace L2
open PySem PySem.Spec PyProof.Rows

/-! ### the text by places -/
def defArgs (s : Stmt) : Arguments := match s with
  | .FunctionDef _ a _ _ _ _ _ _ _ _ => a
  | _ => { posonlyargs := [], args := [], vararg := none, kwonlyargs := [], kw_defaults := [], kwarg := none, defaults := [] }
def defBody (s : Stmt) : List Stmt := match s with
  | .FunctionDef _ _ b _ _ _ _ _ _ _ => b
  | _ => []
def defScope (s : Stmt) : Scope := match s with
  | .FunctionDef _ _ _ _ _ _ sc _ _ _ => sc
  | _ => { kind := .function, names := [], isGenerator := false, isCoroutine := false }

/-! ### no exception leaves a def -/
abbrev CX0 : CXT := fun _ _ _ _ _ _ => False
abbrev E0 : XK := fun _ _ _ => False
theorem pass0 {X : Cx} : Passes CX0 X E0 := fun _ _ _ _ _ _ _ h => h.elim

/-! ### a def (or method) of the text as it stands behind the top -/
structure Fun (K : PySem.W.Frag) (x qual : Str) (st : Stmt) (f : Addr) (fd : FuncData) : Prop where
  ex : ∃ (oc : Value) (od : Option Addr) (kV doc pm : Value) (an : Option Addr) (cdv ct : Value) (osl : Array (Option Value)),
    fd = PySem.W.fnOf x qual (defArgs st) (defBody st) (defScope st) .none kV doc pm an cdv ct ∧ K.lookup f = some ⟨oc, od, .func fd, osl⟩ ∧ PySem.W.codeIn K cdv qual = true
  kp : PySem.W.keepIn K (.ref f) = true
section
variable {P : Program} {w : World} {K : PySem.W.Frag} {mg : Str → Option Value} {base : Heap}
/-- THE RULE for a def: its body as a term of rules, and the reading of that term -/
theorem Fun.ok {x qual : Str} {st : Stmt} {f : Addr} {fd : FuncData} {N ps : List Str} {k : Nat} {sp : Sp} (F : Fun K x qual st f fd) (S : FnScope N ps (defScope st)) (len : ∀ vs H Q E, sp vs H Q E → vs.length = ps.length)
    (hbody : ∀ (cdv : Value) (A : Around) (outer : List Env) (s : Shared) (H : Hp) (vs : List V) (Q : VK) (E : XK), Room k (A.deeper (envOfC qual (defScope st) s.heap.objs.size f cdv)) → sp vs H Q E →
      ∃ t, PSs (cxOf CX0 P w K mg base N qual (defScope st) f cdv A outer s H E).nox (defBody st) t ∧ t { nx := fun _ H' => Q .non H', rt := Q } (start N vs) H) : FnOk P w K mg base CX0 (k + 1) f fd ps sp := by
  obtain ⟨oc, od, kV, doc, pm, an, cdv, ct, osl, rfl, lk, hcd⟩ := F.ex
  refine fn_of lk hcd S len fun A outer s H vs Q E hr hsp => ?_
  obtain ⟨t, h, q⟩ := hbody cdv A outer s H vs Q E hr hsp
  exact ⟨t, h.nox, q⟩
/-- how its arguments bind (no defaults): h is «fun _ _ _ _ _ _ us hl => match us, hl with | [_, _], _ => rfl», one _ a parameter -/
theorem Fun.binds {x qual : Str} {st : Stmt} {f : Addr} {fd : FuncData} {ps : List Str} (F : Fun K x qual st f fd)
    (h : ∀ (kV doc pm : Value) (an : Option Addr) (cdv ct : Value) (us : List Value), us.length = ps.length → bindArgs (PySem.W.fnOf x qual (defArgs st) (defBody st) (defScope st) .none kV doc pm an cdv ct) ⟨us, []⟩ = pure (ps.zip us)) : Binds K fd ps [] := by
  obtain ⟨oc, od, kV, doc, pm, an, cdv, ct, osl, rfl, lk, hcd⟩ := F.ex
  exact .all (h kV doc pm an cdv ct)
theorem fun_mk {x qual : Str} {st : Stmt} {f : Addr} {oc : Value} {od an : Option Addr} {osl : Array (Option Value)} {kV doc pm cdv ct : Value} (l : K.lookup f = some ⟨oc, od, .func (PySem.W.fnOf x qual (defArgs st) (defBody st) (defScope st) .none kV doc pm an cdv ct), osl⟩)
    (c : PySem.W.codeIn K cdv qual = true) (k : PySem.W.keepIn K (.ref f) = true) : Fun K x qual st f (PySem.W.fnOf x qual (defArgs st) (defBody st) (defScope st) .none kV doc pm an cdv ct) := ⟨⟨oc, od, kV, doc, pm, an, cdv, ct, osl, rfl, l, c⟩, k⟩
end
theorem small1000 {n : Nat} (h : n ≤ 1000) : n < sizeLine := Nat.lt_of_le_of_lt h (by decide)

/-! ### expressions in short: the name that stands in the i-th slot -/
section
variable {X : Cx}
theorem pv (i : Nat) {x : Str} {pos : Pos} (hN : X.N[i]? = some x := by rfl) (hv : Vis X.env.scope x := by first | exact Or.inl rfl | exact Or.inr (Or.inl rfl) | exact Or.inr (Or.inr rfl)) (hd : (x == ("__debug__" : Str)) = false := by decide)
    (hcd : (x == ("__classdict__" : Str)) = false := by decide) : PE X (.Name x pos) (tVar i) := pe_var hN hv hd hcd
end

/-! ### tests -/
/-! ### heaps -/
/-- all that was tracked is as it was -/
def Same (H H' : Hp) : Prop := ∀ b o, H b = some o → H' b = some o
theorem Same.refl (H : Hp) : Same H H := fun _ _ h => h
theorem Same.trans {H H1 H2 : Hp} (a : Same H H1) (b : Same H1 H2) : Same H H2 := fun c o h => b c o (a c o h)
theorem Same.free {H H' : Hp} (e : Same H H') {l : Addr} (h : H' l = Option.none) : H l = Option.none := by
  cases q : H l with
  | none => rfl
  | some o =>
    rw [e l o q] at h
    cases h
theorem Same.seq {K : PySem.W.Frag} {H H' : Hp} {a : Addr} {xs : List V} (e : Same H H') (h : SqL K H a xs) : SqL K H' a xs := by
  rcases h with (h | ⟨o, h⟩) | h
  · exact .inl (.inl (e _ _ h))
  · exact .inl (.inr ⟨o, e _ _ h⟩)
  · exact .inr h

end L2
namespace L2
open PySem PySem.Spec PyProof.Rows

/-! ### lists of pairs as tables -/
section
variable {κ : Type} [DecidableEq κ]
def valV (kvs : List (κ × V)) (k : κ) : Option V := (kvs.find? fun kv => decide (kv.1 = k)).map (·.2)
/-- in its place, or at the end -/
def putK (kvs : List (κ × V)) (k : κ) (v : V) : List (κ × V) :=
  if (kvs.any fun kv => decide (kv.1 = k)) = true then kvs.map (fun kv => if kv.1 = k then (kv.1, v) else kv) else kvs ++ [(k, v)]
def dropK (kvs : List (κ × V)) (k : κ) : List (κ × V) := kvs.filter fun kv => decide (kv.1 ≠ k)

theorem valV_pos {p : κ × V} {r : List (κ × V)} {k : κ} (e : p.1 = k) : valV (p :: r) k = some p.2 := by simp [valV, List.find?_cons, e]
theorem valV_neg {p : κ × V} {r : List (κ × V)} {k : κ} (e : ¬ p.1 = k) : valV (p :: r) k = valV r k := by simp [valV, List.find?_cons, e]
theorem valV_any (k : κ) : ∀ kvs : List (κ × V), (kvs.any fun kv => decide (kv.1 = k)) = (valV kvs k).isSome
  | [] => rfl
  | p :: r => by
    rw [List.any_cons]
    by_cases e : p.1 = k
    · simp only [valV_pos e, decide_eq_true e, Bool.true_or, Option.isSome_some]
    · rw [valV_neg e, decide_eq_false e, Bool.false_or]; exact valV_any k r
theorem RelO.isSome_eq {o : Option V} {u : Option Value} (r : RelO o u) : o.isSome = u.isSome := by
  cases o with
  | none => cases u with
    | none => rfl
    | some _ => exact (show False from r).elim
  | some _ => cases u with
    | none => exact (show False from r).elim
    | some _ => rfl
theorem RelO.getD {o : Option V} {u : Option Value} {d : V} {d' : Value} (r : RelO o u) (rd : RelV d d') : RelV (o.getD d) (u.getD d') := by
  cases o with
  | none => cases u with
    | none => exact rd
    | some _ => exact (show False from r).elim
  | some _ => cases u with
    | none => exact (show False from r).elim
    | some _ => exact r

/-- raw tables of the same keys -/
theorem KV.val {kvs : List (κ × V)} {vs : List (κ × Value)} (r : KV kvs vs) (k : κ) : RelO (valV kvs k) (valueAt vs k) := by
  unfold KV at r
  induction r with
  | nil => exact True.intro
  | @cons p q ps qs h t ih =>
    obtain ⟨h1, h2⟩ := h
    by_cases e : p.1 = k
    · have e' : q.1 = k := h1.symm.trans e
      have b : valueAt (q :: qs) k = some q.2 := by simp [valueAt, List.find?_cons, e']
      rw [valV_pos e, b]; exact h2
    · have e' : ¬ q.1 = k := fun z => e (h1.trans z)
      have b : valueAt (q :: qs) k = valueAt qs k := by simp [valueAt, List.find?_cons, e']
      rw [valV_neg e, b]; exact ih
theorem KV.any {kvs : List (κ × V)} {vs : List (κ × Value)} (r : KV kvs vs) (k : κ) : (kvs.any fun kv => decide (kv.1 = k)) = vs.any fun kv => decide (kv.1 = k) := by
  unfold KV at r
  induction r with
  | nil => rfl
  | cons h t ih => rw [List.any_cons, List.any_cons, ih, h.1]
theorem KV.repl {kvs : List (κ × V)} {vs : List (κ × Value)} (r : KV kvs vs) (k : κ) {y : V} {u : Value} (ry : RelV y u) :
    KV (kvs.map fun kv => if kv.1 = k then (kv.1, y) else kv) (vs.map fun kv => if kv.1 = k then (kv.1, u) else kv) := by
  unfold KV at r ⊢
  induction r with
  | nil => exact .nil
  | @cons p q ps qs h t ih =>
    rw [List.map_cons, List.map_cons]
    refine .cons ?_ ih
    obtain ⟨h1, h2⟩ := h
    by_cases e : p.1 = k
    · rw [if_pos e, if_pos (h1.symm.trans e)]; exact ⟨h1, ry⟩
    · rw [if_neg e, if_neg (fun z => e (h1.trans z))]; exact ⟨h1, h2⟩
theorem KV.put {kvs : List (κ × V)} {vs : List (κ × Value)} (r : KV kvs vs) (k : κ) {y : V} {u : Value} (ry : RelV y u) : KV (putK kvs k y) (stored vs k u) := by
  unfold putK stored
  rw [r.any k]
  by_cases e : (vs.any fun kv => decide (kv.1 = k)) = true
  · rw [if_pos e, if_pos e]; exact r.repl k ry
  · rw [if_neg e, if_neg e]; exact Paired.snoc r ⟨rfl, ry⟩
theorem KV.drop {kvs : List (κ × V)} {vs : List (κ × Value)} (r : KV kvs vs) (k : κ) : KV (dropK kvs k) (without vs k) := by
  unfold KV at r ⊢
  unfold dropK without
  induction r with
  | nil => exact .nil
  | @cons p q ps qs h t ih =>
    obtain ⟨h1, h2⟩ := h
    rw [List.filter_cons, List.filter_cons]
    by_cases e : p.1 = k
    · have a : ¬ decide (p.1 ≠ k) = true := by simp [e]
      have b : ¬ decide (q.1 ≠ k) = true := by simp [h1.symm.trans e]
      rw [if_neg a, if_neg b]; exact ih
    · have e' : ¬ q.1 = k := fun z => e (h1.trans z)
      have a : decide (p.1 ≠ k) = true := by simp [e]
      have b : decide (q.1 ≠ k) = true := by simp [e']
      rw [if_pos a, if_pos b]; exact .cons ⟨h1, h2⟩ ih
theorem KV.keys {kvs : List (κ × V)} {vs : List (κ × Value)} (r : KV kvs vs) : kvs.map (·.1) = vs.map (·.1) := by
  unfold KV at r
  induction r with
  | nil => rfl
  | cons h t ih => rw [List.map_cons, List.map_cons, ih, h.1]
theorem KV.length {kvs : List (κ × V)} {vs : List (κ × Value)} (r : KV kvs vs) : kvs.length = vs.length := Paired.length r
end


/-! ### a tracked dict, its keys ints and texts or tuples of these -/
/-- raw entries of a dict with tuple keys -/
abbrev KT (H : Hp) : List (List Key × V) → List (List Key × Addr × Value) → Prop := Paired fun p q => p.1 = q.1 ∧ H q.2.1 = some (.tup (p.1.map kV)) ∧ RelV p.2 q.2.2
theorem KT.val {H : Hp} {kvs : List (List Key × V)} {xs : List (List Key × Addr × Value)} (r : KT H kvs xs) (k : List Key) : RelO (valV kvs k) ((atKey xs k).map (·.2)) := by
  induction r with
  | nil => exact True.intro
  | @cons p q ps qs h t ih =>
    obtain ⟨h1, _, h2⟩ := h
    by_cases e : p.1 = k
    · have e' : q.1 = k := h1.symm.trans e
      have b : atKey (q :: qs) k = some q.2 := by simp [atKey, List.find?_cons, e']
      rw [valV_pos e, b]; exact h2
    · have e' : ¬ q.1 = k := fun z => e (h1.trans z)
      have b : atKey (q :: qs) k = atKey qs k := by simp [atKey, List.find?_cons, e']
      rw [valV_neg e, b]; exact ih
theorem KT.repl {H : Hp} {kvs : List (List Key × V)} {xs : List (List Key × Addr × Value)} (r : KT H kvs xs) (k : List Key) {y : V} {u : Value} (ry : RelV y u) :
    KT H (kvs.map fun kv => if kv.1 = k then (kv.1, y) else kv) (xs.map (putAt k u)) := by
  induction r with
  | nil => exact .nil
  | @cons p q ps qs h t ih =>
    rw [List.map_cons, List.map_cons]
    refine .cons ?_ ih
    obtain ⟨h1, h2, h3⟩ := h
    unfold putAt
    by_cases e : p.1 = k
    · rw [if_pos e, if_pos (h1.symm.trans e)]; exact ⟨h1, h2, ry⟩
    · rw [if_neg e, if_neg (fun z => e (h1.trans z))]; exact ⟨h1, h2, h3⟩
theorem KT.put {H : Hp} {kvs : List (List Key × V)} {xs : List (List Key × Addr × Value)} (r : KT H kvs xs) (k : List Key) {b : Addr} {y : V} {u : Value} (hb : H b = some (.tup (k.map kV))) (ry : RelV y u) :
    KT H (putK kvs k y) (storedH xs k b u) := by
  have e : (kvs.any fun kv => decide (kv.1 = k)) = (atKey xs k).isSome := by
    rw [valV_any, (r.val k).isSome_eq, Option.isSome_map]
  unfold putK storedH
  rw [e]
  by_cases q : (atKey xs k).isSome = true
  · rw [if_pos q, if_pos q]; exact r.repl k ry
  · rw [if_neg q, if_neg q]; exact Paired.snoc r ⟨rfl, hb, ry⟩
theorem KT.keeps {H H' : Hp} {kvs : List (List Key × V)} {xs : List (List Key × Addr × Value)} (r : KT H kvs xs) (ht : ∀ b ys, H b = some (.tup ys) → H' b = some (.tup ys)) : KT H' kvs xs :=
  Paired.mapP r fun _ _ z => ⟨z.1, ht _ _ z.2.1, z.2.2⟩

section
variable {P : Program} {w : World} {H : Hp} {h : Heap} {a : Addr}
end

/-- what the dict at a holds at the key y -/
def DGet (H : Hp) (a : Addr) (y : V) (r : Option V) : Prop :=
  (∃ kvs k, Rd H a (.dK kvs) ∧ y = kV k ∧ r = valV kvs k) ∨ ∃ kvs k b, Rd H a (.dT kvs) ∧ y = .ref b ∧ H b = some (.tup (k.map kV)) ∧ r = valV kvs k
/-- the heap behind a[y] = v -/
def DPut (H : Hp) (a : Addr) (y v : V) (H' : Hp) : Prop :=
  (∃ kvs k, H a = some (.dK kvs) ∧ y = kV k ∧ kvs.length < sizeLine ∧ H' = upd H a (.dK (putK kvs k v))) ∨
  ∃ kvs k b, H a = some (.dT kvs) ∧ y = .ref b ∧ H b = some (.tup (k.map kV)) ∧ kvs.length < sizeLine ∧ H' = upd H a (.dT (putK kvs k v))
theorem DGet.k {H : Hp} {a : Addr} {kvs : List (Key × V)} {k : Key} (e : H a = some (.dK kvs)) : DGet H a (kV k) (valV kvs k) := .inl ⟨kvs, k, .inl e, rfl, rfl⟩
theorem DGet.t {H : Hp} {a b : Addr} {kvs : List (List Key × V)} {k : List Key} (e : H a = some (.dT kvs)) (eb : H b = some (.tup (k.map kV))) : DGet H a (.ref b) (valV kvs k) := .inr ⟨kvs, k, b, .inl e, rfl, eb, rfl⟩
theorem DPut.k {H : Hp} {a : Addr} {kvs : List (Key × V)} {k : Key} {v : V} (e : H a = some (.dK kvs)) (hl : kvs.length < sizeLine) : DPut H a (kV k) v (upd H a (.dK (putK kvs k v))) := .inl ⟨kvs, k, e, rfl, hl, rfl⟩
theorem DPut.t {H : Hp} {a b : Addr} {kvs : List (List Key × V)} {k : List Key} {v : V} (e : H a = some (.dT kvs)) (eb : H b = some (.tup (k.map kV))) (hl : kvs.length < sizeLine) :
    DPut H a (.ref b) v (upd H a (.dT (putK kvs k v))) := .inr ⟨kvs, k, b, e, rfl, eb, hl, rfl⟩


section
variable {X : Cx} {pins : List (Addr × Obj)} {σ : St} {H : Hp} {s : Shared} {a : Addr} {y v : V} {u r : Value} {o : Option V} {A : Around} {E : Value → Shared → Prop}

end

section
variable {X : Cx} {pins : List (Addr × Obj)} {σ : St} {H : Hp} {s : Shared} {a : Addr} {kvs : List (Key × V)} {k : Key} {u : Value} {A : Around} {E : Value → Shared → Prop}
end


/-! ### readings and rules -/
section
variable {X : Cx} {o i e value : Expr} {pos pos' tpos : Pos} {td ty tv : TE}
end


/-! ### displays -/
section
variable {X : Cx} {pos : Pos}
end

/-! ### methods -/
/-- a method call o.m(e) of a built-in, with one argument: what must be seen of the text -/
structure M1 (X : Cx) (o : Expr) (m : Str) (apos : Pos) (e : Expr) (cpos : Pos) : Prop where
  base : attributeBase o m X.env (eval o X.env) = eval o X.env
  few : ((backTo cpos (starEach [e] X.env)).all (fun x => !x.1) && (backToKw cpos (keywordEach [] X.env)).all (fun x => x.1.isSome)
    && decide (([e] : List Expr).length + ([] : List Keyword).length + (if ([] : List Keyword).isEmpty then 0 else 1) < 30)) = true
  line : (apos.endLine == cpos.line) = true
  trees : backTo cpos (starEach [e] X.env) = [(false, eval e X.env)]
structure M2 (X : Cx) (o : Expr) (m : Str) (apos : Pos) (e f : Expr) (cpos : Pos) : Prop where
  base : attributeBase o m X.env (eval o X.env) = eval o X.env
  few : ((backTo cpos (starEach [e, f] X.env)).all (fun x => !x.1) && (backToKw cpos (keywordEach [] X.env)).all (fun x => x.1.isSome)
    && decide (([e, f] : List Expr).length + ([] : List Keyword).length + (if ([] : List Keyword).isEmpty then 0 else 1) < 30)) = true
  line : (apos.endLine == cpos.line) = true
  trees : backTo cpos (starEach [e, f] X.env) = [(false, eval e X.env), (false, eval f X.env)]

section
variable {X : Cx} {pins : List (Addr × Obj)} {σ : St} {H : Hp} {s : Shared} {a : Addr} {y d : V} {u r : Value} {o : Option V} {A : Around} {E : Value → Shared → Prop}
end

section
variable {X : Cx} {o e f : Expr} {apos cpos : Pos} {td ty tx : TE}
end

/-! ### dict(d): a copy -/
section
variable {X : Cx} {pins : List (Addr × Obj)} {σ : St} {H : Hp} {s : Shared} {a : Addr} {kvs : List (Key × V)} {A : Around} {E : Value → Shared → Prop}
end


section
variable {X : Cx} {pins : List (Addr × Obj)} {σ : St} {H : Hp} {s : Shared} {a : Addr} {y : V} {u : Value} {A : Around} {E : Value → Shared → Prop}
end
end L2
set_option maxHeartbeats 4000000
namespace L2
open PySem PySem.Spec PyProof.Rows
/-! a list comprehension of one clause, whose target is a name: its block is a context of its own -/
/-- the cells that the block takes along -/
def clStep (env : Env) (cs : List (Str × Addr)) (y : Str × NameKind) : List (Str × Addr) :=
  if y.2 == .free then (match env.cells.lookup y.1 with | some c => (y.1, c) :: cs | none => cs) else cs
def clOf (sc : Scope) (env : Env) : List (Str × Addr) := sc.names.foldl (clStep env) []
theorem cl_sound {env : Env} : ∀ (ns : List (Str × NameKind)) (acc : List (Str × Addr)), (∀ y c, acc.lookup y = some c → env.cells.lookup y = some c) → ∀ y c, (ns.foldl (clStep env) acc).lookup y = some c → env.cells.lookup y = some c
  | [], acc, h, y, c, e => h y c e
  | n :: ns, acc, h, y, c, e => by
    refine cl_sound ns (clStep env acc n) (fun z d q => ?_) y c e
    unfold clStep at q
    split at q
    · split at q
      · rename_i c' hc'
        rw [List.lookup_cons] at q
        split at q
        · rename_i hz
          have hz' : z = n.1 := by simpa using hz
          cases q
          rw [hz']; exact hc'
        · exact h z d q
      · exact h z d q
    · exact h z d q
theorem clOf_sound {sc : Scope} {env : Env} {y : Str} {c : Addr} (e : (clOf sc env).lookup y = some c) : env.cells.lookup y = some c :=
  cl_sound sc.names [] (fun _ _ q => by simp at q) y c e
theorem cl_keep {env : Env} {y : Str} {c : Addr} (hc : env.cells.lookup y = some c) : ∀ (ns : List (Str × NameKind)) (acc : List (Str × Addr)), acc.lookup y = some c → (ns.foldl (clStep env) acc).lookup y = some c
  | [], acc, h => h
  | n :: ns, acc, h => by
    refine cl_keep hc ns (clStep env acc n) ?_
    unfold clStep
    split
    · split
      · rename_i c' hc'
        rw [List.lookup_cons]
        split
        · rename_i hz
          have hz' : y = n.1 := by simpa using hz
          rw [← hz', hc] at hc'
          exact hc'.symm
        · exact h
      · exact h
    · exact h
theorem cl_has {env : Env} {y : Str} {c : Addr} (hc : env.cells.lookup y = some c) : ∀ (ns : List (Str × NameKind)) (acc : List (Str × Addr)), (y, NameKind.free) ∈ ns → (ns.foldl (clStep env) acc).lookup y = some c
  | [], _, h => by simp at h
  | n :: ns, acc, h => by
    rcases List.mem_cons.mp h with e | h
    · subst e
      refine cl_keep hc ns _ ?_
      unfold clStep
      simp [hc]
    · exact cl_has hc ns _ h
theorem relabel_mem {sc : Scope} {env : Env} {x : Str} {k' : NameKind} (h : (relabel sc env).names.lookup x = some k') : ∃ k, (x, k) ∈ sc.names ∧ (k' = k ∨ (k = .free ∧ k' = .cell)) := by
  have m := PySem.mem_of_lookup h
  unfold relabel at m
  obtain ⟨⟨n, k⟩, hm, e⟩ := List.mem_map.mp m
  dsimp only at e
  split at e
  · rename_i hc
    injection e with e1 e2
    subst e1
    refine ⟨k, hm, .inr ⟨?_, e2.symm⟩⟩
    have : (k == NameKind.free) = true := by
      cases hk : (k == NameKind.free) with
      | true => rfl
      | false => rw [hk] at hc; simp at hc
    exact beq_iff_eq.mp this
  · injection e with e1 e2
    subst e1 e2
    exact ⟨k, hm, .inl rfl⟩
theorem relabel_free {env : Env} {x : Str} (hf : env.scope.kind = .function) (hk : env.kindOf x = some .cell) : ∀ (ns : List (Str × NameKind)), ns.lookup x = some .free →
    (ns.map fun (y : Str × NameKind) => if (y.2 == .free && env.scope.kind == .function && env.kindOf y.1 == some .cell) then (y.1, NameKind.cell) else (y.1, y.2)).lookup x = some .cell
  | [], h => by simp at h
  | (n, k) :: r, h => by
    have ih := relabel_free hf hk r
    rw [List.map_cons]
    cases hx : x == n with
    | true =>
      have e : x = n := by simpa using hx
      subst e
      simp only [List.lookup_cons, beq_self_eq_true] at h
      cases h
      dsimp only
      rw [if_pos (by simp [hf, hk])]
      simp [List.lookup_cons]
    | false =>
      simp only [List.lookup_cons, hx] at h
      dsimp only
      split
      · simp only [List.lookup_cons, hx]; exact ih h
      · simp only [List.lookup_cons, hx]; exact ih h

/-- the block's context: fp the iterator's objects, s and H as they stand where its frame is made -/
def cxC (X : Cx) (N' : List Str) (sc : Scope) (fp : List Addr) (s : Shared) (H : Hp) : Cx where
  prog := X.prog
  w := X.w
  K := X.K
  mg := X.mg
  base := X.base
  A := X.A
  N := N'
  s₀ := s
  H₀ := H
  env := compEnvC sc (clOf sc X.env) s.heap.objs.size X.env
  outer := X.stack
  stack := X.stack
  ex := fp
  fn := fun _ => false
  calm := X.calm
  pn := []
  xe := fun _ _ => False

/-- what is asked of the block's scope: N' = the target, then what it captures, which stands at the places js of the def's names -/
structure CSc (X : Cx) (N' : List Str) (js : List Nat) (sc : Scope) : Prop where
  kind : sc.kind = .function
  nocell : ∀ y ∈ sc.names, y.2 ≠ .cell
  names : ∀ y ∈ sc.names, y.2 = .local → sc.names.lookup y.1 = some .local
  clos : closureFor sc X.env = pure (clOf sc X.env)
  all : (sc.names.all fun y => y.2 != .free || (X.env.cells.lookup y.1).isSome) = true
  len : N'.length = js.length + 1
  cap : ∀ (i j : Nat), js[i]? = some j → N'[i + 1]? = X.N[j]?
  capk : ∀ y ∈ N'.tail, X.env.kindOf y = some .cell ∧ sc.names.lookup y = some .free
/-- the block's names at the start of a turn -/
def capS (js : List Nat) (σ : St) : St := js.map fun j => (σ[j]?).join

theorem inv_comp {X : Cx} {pins : List (Addr × Obj)} {σ : St} {H : Hp} {s : Shared} {fp : List Addr} {N' : List Str} {js : List Nat} {sc : Scope} {h1 : Heap} {tk : Nat} (I : Inv X pins σ H s) (hf : ∀ b ∈ fp, FpOk X pins H b) (hlt : ∀ b ∈ fp, b < s.heap.objs.size)
    (S : CSc X N' js sc) (hn : h1.Ns s.heap.objs.size fun _ => none) (hk : ∀ b o, s.heap.get? b = some o → h1.get? b = some o) : Inv (cxC X N' sc fp s H) [] (none :: capS js σ) H { s with heap := h1, toks := tk } := by
  refine ⟨⟨I.ok.mod, S.kind, I.ok.glob, I.ok.blt, Nat.le_refl _, fun x y c e1 e2 => I.ok.inj x y c (clOf_sound e1) (clOf_sound e2), fun x hx => ?_, fun x c e => absurd e (by show ¬ (false = true); simp), I.ok.hd, I.ok.frames, .inl rfl, fun b hb => ⟨Nat.ne_of_lt (hlt b hb), fun x c e => (hf b hb).2.2.2.2.1 x c (clOf_sound e)⟩, I.bs,
    Nat.le_trans I.ok.bsz I.sz, fun b o e hb => ?_, fun b hb z => ?_, I.stack, I.stkFree⟩, rfl, I.bare, Un.kept hk, ⟨fun _ => none, hn, fun i x v e1 e2 e3 => ?_⟩, fun x c e => ?_, I.hok.fresh (Nat.le_refl _), fun x c e => I.freeC x c (clOf_sound e), fun p hp => absurd (show p ∈ ([] : List (Addr × Obj)) from hp) (by simp), I.hok.kept hk, ?_⟩
  · have hx' : (relabel sc X.env).names.lookup x = some .cell ∨ (relabel sc X.env).names.lookup x = some .free := hx
    have key : (x, NameKind.free) ∈ sc.names := by
      rcases hx' with q | q
      · obtain ⟨k, hm, e | ⟨e, _⟩⟩ := relabel_mem q
        · exact absurd e.symm (S.nocell _ hm)
        · rw [← e]; exact hm
      · obtain ⟨k, hm, e | ⟨e, _⟩⟩ := relabel_mem q
        · rw [e]; exact hm
        · rw [← e]; exact hm
    have a := List.all_eq_true.mp S.all _ key
    have a' : (X.env.cells.lookup x).isSome = true := by simpa using a
    obtain ⟨c, hc⟩ := Option.isSome_iff_exists.mp a'
    exact ⟨c, cl_has hc sc.names [] key⟩
  · rcases (hf b hb).2.2.2.1 with z | z
    · exact I.ok.noex b o e z
    · exact absurd (Nat.lt_of_lt_of_le (Heap.lt_size e) (Nat.le_trans I.ok.bsz z)) (Nat.lt_irrefl _)
  · rcases List.mem_cons.mp (I.stkSub b z) with q | q
    · exact (hf b hb).2.1 q
    · exact (hf b hb).2.2.1 q
  · cases i with
    | zero => simp at e2
    | succ i =>
      have e2' : (capS js σ)[i]? = some (some v) := by simpa using e2
      unfold capS at e2'
      rw [List.getElem?_map] at e2'
      cases hj : js[i]? with
      | none => rw [hj] at e2'; simp at e2'
      | some j =>
        rw [hj] at e2'
        have e4 : (σ[j]?).join = some v := by simpa using e2'
        have e5 : σ[j]? = some (some v) := by
          cases q : σ[j]? with
          | none => rw [q] at e4; simp at e4
          | some z => rw [q] at e4; simp at e4; rw [e4]
        have e6 : X.N[j]? = some x := by rw [← S.cap i j hj]; exact e1
        have mem : x ∈ N'.tail := by
          have e1' : N'[i + 1]? = some x := e1
          cases hN : N' with
          | nil => rw [hN] at e1'; simp at e1'
          | cons a r => rw [hN] at e1'; exact List.mem_of_getElem? (by simpa using e1')
        obtain ⟨k1, k2⟩ := S.capk x mem
        obtain ⟨m, _, hl⟩ := I.loc
        obtain ⟨u, r, l⟩ := hl j x v e6 e5 (.inr (.inl k1))
        refine ⟨u, r, .inr ⟨.inl (relabel_free I.ok.kind k1 sc.names k2), ?_⟩⟩
        rcases l with ⟨z, _⟩ | ⟨_, c, hc, hcell⟩
        · rw [k1] at z; cases z
        · obtain ⟨o, ho, hd⟩ := hcell
          exact ⟨c, cl_has hc sc.names [] (PySem.mem_of_lookup k2), o, hk c o ho, hd⟩
  · obtain ⟨v, o, ho, hd⟩ := I.cell x c (clOf_sound e)
    exact ⟨v, o, hk c o ho, hd⟩
  · show (none :: capS js σ).length = N'.length
    rw [S.len]; simp [capS]

/-- the reading: W the invariant, by the turn, a measure, what is made so far -/
def tComp (js : List Nat) (wi : TI) (te : TE) : TE := fun σ H Q => wi σ H fun J H1 => ∀ acc, H1 acc = none → ∃ W : Nat → Nat → List V → Hp → Prop, (∃ m, W 0 m [] (upd H1 acc (.lst []))) ∧ ∀ i m ys H2, W i m ys H2 →
  (J.stop i H2 ∧ Q (.ref acc) H2) ∨ (J.go i H2 ∧ ∀ x H3, J.yld i H2 x H3 → te (some x :: capS js σ) H3 fun y H4 => H4 acc = some (.lst ys) ∧ ys.length < sizeLine ∧ ∃ m', m' < m ∧ W (i + 1) m' (ys ++ [y]) (upd H4 acc (.lst (ys ++ [y]))))

theorem compLoop_go {prog : Program} {w : World} {A : Around} {R : Result → Shared → Prop} {s : Shared} {elt target iter : Expr} {sc : Scope} {pos : Pos} {it acc : Value} {env : Env} (Iv : Nat → Shared → Prop)
    (turn : ∀ n s, Iv n s → wpAny (model prog w) A (pyNext it) (fun r s1 => match r with
      | none => R (.ok .next) s1
      | some v => wpAny (model prog w) A (letOwnedTupleGo target it v) (fun _ s2 => wpAny (model prog w) A (assign target env v) (fun _ s3 => wpAny (model prog w) A (eval elt env) (fun x s4 =>
          wpAny (model prog w) A (call (.builtin "list.append") [acc, x]) (fun _ s5 => ∃ m, m < n ∧ Iv m s5) (fun _ _ => False) s4) (fun _ _ => False) s3) (fun _ _ => False) s2) (fun _ _ => False) s1) (fun _ _ => False) s)
    (n : Nat) (h : Iv n s) : codeAny (model prog w) A (.compLoop (.ListComp elt [⟨target, iter, [], 0⟩] sc pos) 0 it acc env) R s := by
  refine codeAny_loop rfl Iv (fun n s hI => ?_) n h
  show wpAny _ _ ((compTurn (.ListComp elt [⟨target, iter, [], 0⟩] sc pos) 0 it acc env).onRaise (fun x => do noteFrame x env; theTreesLotGoes x)) _ _ s
  refine wpAny_noted ?_
  rw [compTurn_list1]
  refine wpAny_bind (wpAny_standAt (wpAny_bind (wpAny_mono (turn n s hI) (fun r s1 q1 => ?_) fun _ _ f => f.elim)))
  cases r with
  | none => exact wpAny_pure q1
  | some v =>
    refine wpAny_bind (wpAny_mono q1 (fun _ s2 q2 => ?_) fun _ _ f => f.elim)
    refine wpAny_bind (wpAny_mono q2 (fun _ s3 q3 => wpAny_bind (wpAny_bind (wpAny_mono q3 (fun x s4 q4 => wpAny_bind (wpAny_mono q4 (fun _ s5 q5 => wpAny_pure (wpAny_pure ⟨rfl, q5⟩)) fun _ _ f => f.elim)) fun _ _ f => f.elim))) fun _ _ f => f.elim)

theorem pe_comp {X : Cx} {elt iter : Expr} {x : Str} {px pos : Pos} {sc : Scope} {wi : TI} {te : TE} {N' : List Str} {js : List Nat} (hc : X.calm = true) (hi : PI X (.Name x px) iter wi) (S : CSc X N' js sc) (h0 : N'[0]? = some x) (nd : N'.Nodup)
    (hx : sc.names.lookup x = some .local) (he : ∀ fp s H, PE (cxC X N' sc fp s H) elt te) (hs : ∀ x, foldedSetIterable iter X.env x = pure x := by intro _; rfl) : PE X (.ListComp elt [⟨.Name x px, iter, [], 0⟩] sc pos) (tComp js wi te) := by
  refine .mk ?_
  intro pins s σ H Q I h
  rw [eval_ListComp]
  refine wpAny_comprehension_free (use := none) rfl hs S.clos S.kind S.names ?_
  refine thn (hi pins s σ H _ I h) fun v s1 q1 => thn q1 fun itv s2 q2 => ?_
  obtain ⟨it, fp, tn, J, H2, e, I2, T, st2, f2, q3⟩ := q2
  subst e
  refine wpAny_newObj_type ?_
  obtain ⟨W, ⟨m0, w0⟩, turn⟩ := q3 s2.heap.objs.size I2.fresh
  have I3 := I2.lnew (ys := []) (its := []) (t' := s2.toks) .nil (Nat.zero_le _)
  have lt2 : ∀ b ∈ fp, b < s2.heap.objs.size := fun b hb => by
    obtain ⟨o, ho, _⟩ := T.obj 0 _ st2 b hb
    exact Heap.lt_size ho
  generalize e3 : ({ s2 with heap := s2.heap.push { cls := .type "list", data := .seq ([] : List Value).toArray }, toks := s2.toks } : Shared) = s3 at I3
  have e3' : ({ s2 with heap := s2.heap.push { cls := .type "list", dict := none, data := .seq ([] : List Value).toArray } } : Shared) = s3 := e3
  have sz3 : s3.heap.objs.size = s2.heap.objs.size + 1 := by rw [← e3]; exact Heap.size_push ..
  have st3 : tn 0 s3.heap := T.keep 0 _ _ st2 fun b hb o ho => by rw [← e3]; exact Heap.get?_push_of_some _ ho
  have lt3 : ∀ b ∈ fp, b < s3.heap.objs.size := fun b hb => by rw [sz3]; exact Nat.lt_succ_of_lt (lt2 b hb)
  have f3 : ∀ b ∈ fp, FpOk X pins (upd H2 s2.heap.objs.size (.lst [])) b := fun b hb => ⟨by rw [upd_ne (Nat.ne_of_lt (lt2 b hb))]; exact (f2 b hb).1, (f2 b hb).2⟩
  generalize hH3 : upd H2 s2.heap.objs.size (.lst []) = H3 at I3 f3 w0
  refine wpAny_newFunctionEnv S.nocell (by intro y hy; simp at hy) (fun h1 hns hsb => ?_) S.kind
  have hk : ∀ b o, s3.heap.get? b = some o → h1.get? b = some o := fun b o q => hsb.extBut b o (Nat.ne_of_lt (Heap.lt_size q)) (Heap.get?_push_of_some _ q)
  have hns' : h1.Ns s3.heap.objs.size fun _ => none := hns
  have I4 : Inv (cxC X N' sc fp s3 H3) [] (none :: capS js σ) H3 { s3 with heap := h1, toks := s3.toks + ([] : List (Str × Value)).length } := inv_comp I3 f3 lt3 S hns' hk
  have st4 : tn 0 h1 := T.keep 0 _ _ st3 fun b hb o ho => hk b o ho
  have stat : ∀ {H' : Hp}, (∀ b ∈ fp, H' b = none) → ∀ b ∈ fp, FpOk (cxC X N' sc fp s3 H3) [] H' b := fun hn b hb => ⟨hn b hb, Nat.ne_of_lt (lt3 b hb), I4.ok.exfs b hb, .inl hb, (I4.ok.exf b hb).2, fun p hp => absurd (show p ∈ ([] : List (Addr × Obj)) from hp) (by simp)⟩
  have lx : Loc (cxC X N' sc fp s3 H3).env.scope x := .inl (lookup_relabel_local hx)
  -- the way out
  have out : ∀ {σ' : St} {H' : Hp} {s' : Shared}, Inv (cxC X N' sc fp s3 H3) [] σ' H' s' → Q (.ref s2.heap.objs.size) H' → compPost (model X.prog X.w) X.A X.xe none (EP X pins σ Q) (.ref s2.heap.objs.size) s3.heap.objs.size (.ok .next) s' := by
    intro σ' H' s' I' q'
    obtain ⟨m, hn, _⟩ := id I'.loc
    refine ⟨m, hn, fun h' sb => ?_⟩
    have I5 : Inv X pins σ H' s' := I3.call' I'.os I'.base I'.hok I'.bare fun b hb => ⟨(f3 b hb).2.2.2.1, (f3 b hb).2.1, (f3 b hb).2.2.2.2.1, (f3 b hb).2.2.2.2.2⟩
    refine ⟨.ref s2.heap.objs.size, H', I5.turned (it := s3.heap.objs.size) (t' := s'.toks) (fun b o hb q => sb.extBut b o hb q) I'.free (Nat.ne_of_gt I3.lt) (.inr I3.sz) (fun y c ec z => ?_) (fun p hp z => ?_), rfl, q'⟩
    · obtain ⟨v, hv⟩ := I3.cell y c ec
      have := hv.lt
      rw [z] at this
      exact Nat.lt_irrefl _ this
    · have := Heap.lt_size (I3.pin p hp).1
      rw [z] at this
      exact Nat.lt_irrefl _ this
  have loop : ∀ s4 : Shared, s4 = { s3 with heap := h1, toks := s3.toks + ([] : List (Str × Value)).length } → codeAny (model X.prog X.w) X.A (.compLoop (.ListComp elt [⟨.Name x px, iter, [], 0⟩] sc pos) 0 (.ref it) (.ref s2.heap.objs.size) (compEnvC sc (clOf sc X.env) s3.heap.objs.size X.env))
      (compPost (model X.prog X.w) X.A X.xe none (EP X pins σ Q) (.ref s2.heap.objs.size) s3.heap.objs.size) s4 := by
    rintro s4 rfl
    refine compLoop_go (fun n s' => ∃ i ys H', Inv (cxC X N' sc fp s3 H3) [] (none :: capS js σ) H' s' ∧ tn i s'.heap ∧ (∀ b ∈ fp, H' b = none) ∧ W i n ys H') ?_ m0 ⟨0, [], H3, I4, st4, fun b hb => (f3 b hb).1, w0⟩
    rintro n s5 ⟨i, ys, H5, I5, st5, fr5, w5⟩
    rcases turn i n ys H5 w5 with ⟨stop, qn⟩ | ⟨go, step⟩
    · refine thn (T.done (cxC X N' sc fp s3 H3) rfl rfl rfl hc i [] s5 _ H5 (fun _ _ => False) I5 (stat fr5) st5 stop) fun r s6 ⟨hr, I6⟩ => ?_
      subst hr
      exact out I6 qn
    · refine thn (T.item (cxC X N' sc fp s3 H3) rfl rfl rfl hc i [] s5 _ H5 (fun _ _ => False) I5 (stat fr5) st5 go) fun r s6 ⟨u, hr, q6⟩ => ?_
      subst hr
      refine thn q6 fun _ s7 ⟨y, H7, I7, r7, y7, st7, fr7⟩ => ?_
      have I7' := I7.pinned (stat fr7) (T.obj _ _ st7)
      have hg : PG (cxC X N' sc fp s3 H3) (.Name x px) (gName 0) := pg_name nd h0 lx (.inr (lookup_relabel_local hx))
      refine thn (hg _ s7 _ H7 y u (fun σ' H' => σ' = some y :: capS js σ ∧ H' = H7) I7' r7 ⟨rfl, rfl⟩) fun _ s8 ⟨σ8, H8, I8, e8, e8'⟩ => ?_
      subst e8 e8'
      refine thn (he fp s3 H3 _ s8 _ _ _ I8 (step y _ y7)) fun z s9 ⟨vz, H9, I9, r9, ha, hz, m', hm, w9⟩ => ?_
      refine thn (mt_append (X := cxC X N' sc fp s3 H3) _ s9 _ H9 (.ref s2.heap.objs.size) [vz] (.ref s2.heap.objs.size) [z] (fun _ H' => H' = upd H9 s2.heap.objs.size (.lst (ys ++ [vz]))) I9 rfl (.cons r9 .nil) ⟨_, ys, vz, rfl, rfl, ha, hz, rfl⟩) fun _ s10 ⟨_, H10, I10, _, e10⟩ => ?_
      subst e10
      refine ⟨m', hm, i + 1, ys ++ [vz], _, (I10.unpinned).weak rfl fun k v e => ?_, T.keep _ _ _ st7 fun b hb o e => (I10.pin (b, o) (List.mem_append_right _ (List.mem_append_right _ (mem_pinsAt hb e)))).1, fun b hb => ?_, w9⟩
      · cases k with
        | zero => simp at e
        | succ k => simpa using e
      · obtain ⟨o, e, d⟩ := T.obj _ _ st7 b hb
        exact (I10.pin (b, o) (List.mem_append_right _ (List.mem_append_right _ (mem_pinsAt hb e)))).2.1
  exact codeAny_compStart_list (loop _ rfl) (T.self X.A 0 _ _ _ st4 (loop _ rfl))
end L2
namespace L2
open PySem PySem.Spec PyProof.Rows
/-! ### data: what a value stands for in the tracked heap -/
def keyD : Key → PyData
  | .inl i => .int i
  | .inr x => .str x
mutual
def At (H : Hp) : PyData → V → Prop
  | .none, v => v = .non
  | .bool b, v => v = .bl b
  | .int i, v => v = .int i
  | .str x, v => v = .str x
  | .tuple ds, v => ∃ a xs, v = .ref a ∧ H a = some (.tup xs) ∧ AtAll H ds xs
  | .list ds, v => ∃ a xs, v = .ref a ∧ H a = some (.lst xs) ∧ AtAll H ds xs
  | .dict kvs, v => ∃ a es, v = .ref a ∧ H a = some (.dK es) ∧ AtKv H kvs es
def AtAll (H : Hp) : List PyData → List V → Prop
  | [], xs => xs = []
  | d :: ds, xs => ∃ x r, xs = x :: r ∧ At H d x ∧ AtAll H ds r
def AtKv (H : Hp) : List (PyData × PyData) → List (Key × V) → Prop
  | [], es => es = []
  | (k, d) :: r, es => ∃ q v t, es = (q, v) :: t ∧ k = keyD q ∧ At H d v ∧ AtKv H r t
end
mutual
theorem At.mono {H H' : Hp} (m : Same H H') : ∀ (d : PyData) (v : V), At H d v → At H' d v
  | .none, _, h => by unfold At at h ⊢; exact h
  | .bool _, _, h => by unfold At at h ⊢; exact h
  | .int _, _, h => by unfold At at h ⊢; exact h
  | .str _, _, h => by unfold At at h ⊢; exact h
  | .tuple ds, v, h => by
    unfold At at h ⊢
    obtain ⟨a, xs, e, h1, h2⟩ := h
    exact ⟨a, xs, e, m _ _ h1, AtAll.mono m ds xs h2⟩
  | .list ds, v, h => by
    unfold At at h ⊢
    obtain ⟨a, xs, e, h1, h2⟩ := h
    exact ⟨a, xs, e, m _ _ h1, AtAll.mono m ds xs h2⟩
  | .dict kvs, v, h => by
    unfold At at h ⊢
    obtain ⟨a, es, e, h1, h2⟩ := h
    exact ⟨a, es, e, m _ _ h1, AtKv.mono m kvs es h2⟩
theorem AtAll.mono {H H' : Hp} (m : Same H H') : ∀ (ds : List PyData) (xs : List V), AtAll H ds xs → AtAll H' ds xs
  | [], _, h => by unfold AtAll at h ⊢; exact h
  | d :: ds, xs, h => by
    unfold AtAll at h ⊢
    obtain ⟨x, r, e, h1, h2⟩ := h
    exact ⟨x, r, e, At.mono m d x h1, AtAll.mono m ds r h2⟩
theorem AtKv.mono {H H' : Hp} (m : Same H H') : ∀ (kvs : List (PyData × PyData)) (es : List (Key × V)), AtKv H kvs es → AtKv H' kvs es
  | [], _, h => by unfold AtKv at h ⊢; exact h
  | (k, d) :: r, es, h => by
    unfold AtKv at h ⊢
    obtain ⟨q, v, t, e, e', h1, h2⟩ := h
    exact ⟨q, v, t, e, e', At.mono m d v h1, AtKv.mono m r t h2⟩
end
theorem AtAll.length {H : Hp} : ∀ {ds : List PyData} {xs : List V}, AtAll H ds xs → xs.length = ds.length
  | [], xs, h => by unfold AtAll at h; rw [h]; rfl
  | d :: ds, xs, h => by
    unfold AtAll at h
    obtain ⟨x, r, e, _, h2⟩ := h
    rw [e, List.length_cons, List.length_cons, AtAll.length h2]
theorem AtAll.get {H : Hp} : ∀ {ds : List PyData} {xs : List V} {i : Nat} {x : V}, AtAll H ds xs → xs[i]? = some x → ∃ d, ds[i]? = some d ∧ At H d x
  | [], xs, i, x, h, e => by unfold AtAll at h; rw [h] at e; simp at e
  | d :: ds, xs, i, x, h, e => by
    unfold AtAll at h
    obtain ⟨y, r, e1, h1, h2⟩ := h
    subst e1
    cases i with
    | zero => simp at e; subst e; exact ⟨d, rfl, h1⟩
    | succ i =>
      obtain ⟨d', q1, q2⟩ := AtAll.get (i := i) (x := x) h2 (by simpa using e)
      exact ⟨d', by simpa using q1, q2⟩
theorem AtAll.getD {H : Hp} : ∀ {ds : List PyData} {xs : List V} {i : Nat} {d : PyData}, AtAll H ds xs → ds[i]? = some d → ∃ x, xs[i]? = some x ∧ At H d x
  | [], xs, i, d, h, e => by simp at e
  | d' :: ds, xs, i, d, h, e => by
    unfold AtAll at h
    obtain ⟨y, r, e1, h1, h2⟩ := h
    subst e1
    cases i with
    | zero => simp at e; subst e; exact ⟨y, rfl, h1⟩
    | succ i =>
      obtain ⟨x, q1, q2⟩ := AtAll.getD (i := i) (d := d) h2 (by simpa using e)
      exact ⟨x, by simpa using q1, q2⟩
theorem AtAll.append {H : Hp} : ∀ {ds es : List PyData} {xs ys : List V}, AtAll H ds xs → AtAll H es ys → AtAll H (ds ++ es) (xs ++ ys)
  | [], es, xs, ys, h, q => by unfold AtAll at h; subst h; exact q
  | d :: ds, es, xs, ys, h, q => by
    unfold AtAll at h
    obtain ⟨x, r, e, h1, h2⟩ := h
    subst e
    show AtAll H (d :: (ds ++ es)) (x :: (r ++ ys))
    unfold AtAll
    exact ⟨x, r ++ ys, rfl, h1, AtAll.append h2 q⟩
theorem AtAll.take {H : Hp} : ∀ {ds : List PyData} {xs : List V} (n : Nat), AtAll H ds xs → AtAll H (ds.take n) (xs.take n)
  | ds, xs, 0, h => by simp [AtAll]
  | [], xs, n + 1, h => by unfold AtAll at h; subst h; simp [AtAll]
  | d :: ds, xs, n + 1, h => by
    unfold AtAll at h
    obtain ⟨x, r, e, h1, h2⟩ := h
    subst e
    show AtAll H (d :: ds.take n) (x :: r.take n)
    unfold AtAll
    exact ⟨x, _, rfl, h1, AtAll.take n h2⟩
theorem AtAll.drop {H : Hp} : ∀ {ds : List PyData} {xs : List V} (n : Nat), AtAll H ds xs → AtAll H (ds.drop n) (xs.drop n)
  | ds, xs, 0, h => h
  | [], xs, n + 1, h => by unfold AtAll at h; subst h; simp [AtAll]
  | d :: ds, xs, n + 1, h => by
    unfold AtAll at h
    obtain ⟨x, r, e, h1, h2⟩ := h
    subst e
    exact AtAll.drop n h2
theorem AtAll.nil {H : Hp} : AtAll H [] [] := by unfold AtAll; rfl
theorem AtAll.cons {H : Hp} {d : PyData} {ds : List PyData} {x : V} {xs : List V} (h1 : At H d x) (h2 : AtAll H ds xs) : AtAll H (d :: ds) (x :: xs) := by
  unfold AtAll; exact ⟨x, xs, rfl, h1, h2⟩
theorem At.tup {H : Hp} {a : Addr} {xs : List V} {ds : List PyData} (h : H a = some (.tup xs)) (q : AtAll H ds xs) : At H (.tuple ds) (.ref a) := by
  unfold At; exact ⟨a, xs, rfl, h, q⟩
theorem At.lst {H : Hp} {a : Addr} {xs : List V} {ds : List PyData} (h : H a = some (.lst xs)) (q : AtAll H ds xs) : At H (.list ds) (.ref a) := by
  unfold At; exact ⟨a, xs, rfl, h, q⟩
theorem At.int {H : Hp} (i : Int) : At H (.int i) (.int i) := by unfold At; rfl
theorem At.str {H : Hp} (x : Str) : At H (.str x) (.str x) := by unfold At; rfl
theorem At.bool {H : Hp} (b : Bool) : At H (.bool b) (.bl b) := by unfold At; rfl
theorem At.non {H : Hp} : At H .none .non := by unfold At; rfl
theorem same_new {H : Hp} {p : Addr} (h : H p = none) (o : HO) : Same H (upd H p o) := fun b u q => by rw [upd_ne (ne_of_none q h)]; exact q
/-- the kind of a thing, by its name -/
def tyD : PyData → String
  | .none => "NoneType"
  | .bool _ => "bool"
  | .int _ => "int"
  | .str _ => "str"
  | .tuple _ => "tuple"
  | .list _ => "list"
  | .dict _ => "dict"
theorem At.ty {K : PySem.W.Frag} {H : Hp} {d : PyData} {v : V} (h : At H d v) : TyOf K H v (.type (tyD d)) := by
  cases d with
  | none => unfold At at h; subst h; exact .non
  | bool b => unfold At at h; subst h; exact .bl b
  | int i => unfold At at h; subst h; exact .int i
  | str x => unfold At at h; subst h; exact .str x
  | tuple ds => unfold At at h; obtain ⟨a, xs, e, h1, _⟩ := h; subst e; exact .tup h1
  | list ds => unfold At at h; obtain ⟨a, xs, e, h1, _⟩ := h; subst e; exact .lst h1
  | dict ds => unfold At at h; obtain ⟨a, xs, e, h1, _⟩ := h; subst e; exact .dK h1
def isInt : PyData → Bool
  | .int _ => true
  | .bool _ => true
  | _ => false
def isTup : PyData → Bool
  | .tuple _ => true
  | _ => false
def isBool : PyData → Bool
  | .bool _ => true
  | _ => false
def isStr : PyData → Bool
  | .str _ => true
  | _ => false
theorem kit_int (K : PySem.W.Frag) (d : PyData) : PySem.W.kitOne K (.type (tyD d)) (.type "int") = some (isInt d) := by cases d <;> kernel_rfl
theorem kit_tup (K : PySem.W.Frag) (d : PyData) : PySem.W.kitOne K (.type (tyD d)) (.type "tuple") = some (isTup d) := by cases d <;> kernel_rfl
theorem kit_bool (K : PySem.W.Frag) (d : PyData) : PySem.W.kitOne K (.type (tyD d)) (.type "bool") = some (isBool d) := by cases d <;> kernel_rfl
theorem kit_str (K : PySem.W.Frag) (d : PyData) : PySem.W.kitOne K (.type (tyD d)) (.type "str") = some (isStr d) := by cases d <;> kernel_rfl
section
variable {X : Cx}
def rIsi (T : String) (f : PyData → Bool) : List V → Hp → VK → Prop := fun vs H Q => ∃ v d, vs = [v, .ty T] ∧ At H d v ∧ Q (.bl (f d)) H
theorem isi_of {T : String} {f : PyData → Bool} (hf : ∀ K d, PySem.W.kitOne K (.type (tyD d)) (.type T) = some (f d)) : CallR X (.builtin "isinstance") (rIsi T f) := by
  refine .mk ?_
  intro pins s σ H vs us Q I r h
  obtain ⟨v, d, rfl, hv, q⟩ := h
  obtain ⟨u, t, rfl, ru, rt⟩ := r.two
  cases (show t = Value.type T from rt)
  exact isinst_ok I ru (hv.ty (K := X.K)) (hf X.K d) fun tk => ⟨.bl (f d), H, I.tok tk, rfl, q⟩
theorem isi_int : CallR X (.builtin "isinstance") (rIsi "int" isInt) := isi_of kit_int
theorem isi_tup : CallR X (.builtin "isinstance") (rIsi "tuple" isTup) := isi_of kit_tup
theorem isi_bool : CallR X (.builtin "isinstance") (rIsi "bool" isBool) := isi_of kit_bool
theorem isi_str : CallR X (.builtin "isinstance") (rIsi "str" isStr) := isi_of kit_str

/-! ### is True, is False -/
/-! ### all, any of a made list of truths -/
theorem vals_bl : ∀ {bs : List Bool} {us : List Value}, Vals (bs.map V.bl) us → us = bs.map Value.bool
  | [], _, .nil => rfl
  | b :: bs, _, .cons r t => by
    cases (show _ = Value.bool b from r)
    rw [vals_bl t]; rfl
theorem range_all (bs : List Bool) : (List.range bs.length).all (fun i => bs.getD i false) = bs.all id := by
  rw [Bool.eq_iff_iff, List.all_eq_true, List.all_eq_true]
  constructor
  · intro h b hb
    obtain ⟨i, hi, rfl⟩ := List.mem_iff_getElem.mp hb
    have := h i (List.mem_range.mpr hi)
    simpa [List.getD_eq_getElem?_getD, hi] using this
  · intro h i hi
    have hi' := List.mem_range.mp hi
    have := h bs[i] (List.getElem_mem hi')
    simpa [List.getD_eq_getElem?_getD, hi'] using this
theorem call_allB (hc : X.calm = true) : CallR X (.builtin "all") (fun vs H Q => ∃ (p : Addr) (bs : List Bool), vs = [.ref p] ∧ H p = some (.lst (bs.map V.bl)) ∧ Q (.bl (bs.all id)) H) := by
  refine .mk ?_
  intro pins s σ H vs us Q I r h
  obtain ⟨p, bs, rfl, hp, q⟩ := h
  obtain ⟨u, rfl, ru⟩ := r.one
  cases ru
  obtain ⟨z, its, n, rv, e⟩ := I.hok p _ hp
  have e2 := vals_bl rv
  subst e2
  have hl : s.heap.IsList p (bs.map Value.bool).toArray := ⟨_, e, rfl, n, rfl⟩
  have lt : p < s.heap.objs.size := Heap.lt_size e
  refine call_all_walk (wpAny_pyIter_list hl ?_)
  refine ⟨_, _, _, _, _, _, fun i => bs.getD i false, rfl, Walks.list (A := X.A.in1) (I.ok.hd hc) _ p (Nat.ne_of_lt lt) _, ⟨⟨_, Heap.get?_push_size _ rfl, rfl, rfl⟩, hl.push _⟩, fun i v s' Q' E' hv hq => ?_, fun h' tk hk => ?_⟩
  · have hv' : (bs.map Value.bool).toArray[i]? = some v := hv
    have : v = .bool (bs.getD i false) := by
      simp only [List.getElem?_toArray, List.getElem?_map] at hv'
      cases q : bs[i]? with
      | none => rw [q] at hv'; simp at hv'
      | some b => rw [q] at hv'; simp at hv'; simp [List.getD_eq_getElem?_getD, q, ← hv']
    rw [this]
    exact wpAny_truthy_bool hq
  · have e3 : (List.range (bs.map Value.bool).toArray.size).all (fun i => bs.getD i false) = bs.all id := by
      rw [List.size_toArray, List.length_map]; exact range_all bs
    refine ⟨.bl (bs.all id), H, I.kept (t' := tk) (fun b o eb => ?_), by rw [← e3]; rfl, q⟩
    exact hk b o (by simpa using Nat.ne_of_lt (Heap.lt_size eb)) (Heap.get?_push_of_some _ eb)
/-! ### sum of ints -/
/-! ### abs, int of a truth, str of an int, the greater and the lesser of two -/
theorem call_intB : CallR X (.type "int") (fun vs H Q => ∃ (b : Bool), vs = [.bl b] ∧ Q (.int (if b then 1 else 0)) H) := by
  refine .mk ?_
  intro pins s σ H vs us Q I r h
  obtain ⟨b, rfl, q⟩ := h
  obtain ⟨u, rfl, ru⟩ := r.one
  cases (show u = Value.bool b from ru)
  exact call_int_bool ⟨.int (if b then 1 else 0), H, I.tok _, ⟨_, rfl⟩, q⟩
/-! ### a tuple beside the empty one -/
end
end L2
namespace L2
open PySem PySem.Spec PyProof.Rows
/-! ### repr of data without dicts -/
mutual
theorem reads_of {P : Program} {w : World} {H : Hp} {h : Heap} (ok : HOk P w H h) : ∀ (d : PyData) (v : V) (u : Value), At H d v → RelV v u → d.hasDict = false → ∃ as, Reads h u d as
  | .none, v, u, a, r, _ => by unfold At at a; subst a; cases r; exact ⟨_, .none⟩
  | .bool b, v, u, a, r, _ => by unfold At at a; subst a; cases r; exact ⟨_, .bool b⟩
  | .int i, v, u, a, r, _ => by unfold At at a; subst a; obtain ⟨t, rfl⟩ := r; exact ⟨_, .int i t⟩
  | .str x, v, u, a, r, _ => by unfold At at a; subst a; obtain ⟨t, rfl⟩ := r; exact ⟨_, .str x t⟩
  | .tuple ds, v, u, a, r, nd => by
    unfold At at a
    obtain ⟨p, xs, e, hp, ha⟩ := a
    subst e
    cases r
    obtain ⟨_, its, rv, o, e1, e2, n, e3⟩ := ok p _ hp
    obtain ⟨as, ra⟩ := reads_all ok ds xs its ha rv (by simpa [PyData.hasDict] using nd)
    exact ⟨_, .tuple e1 e2 e3 (by simpa using ra)⟩
  | .list ds, v, u, a, r, nd => by
    unfold At at a
    obtain ⟨p, xs, e, hp, ha⟩ := a
    subst e
    cases r
    obtain ⟨_, its, n, rv, e1⟩ := ok p _ hp
    obtain ⟨as, ra⟩ := reads_all ok ds xs its ha rv (by simpa [PyData.hasDict] using nd)
    exact ⟨_, .list e1 rfl rfl (by simpa using ra)⟩
  | .dict kvs, v, u, a, r, nd => by simp [PyData.hasDict] at nd
theorem reads_all {P : Program} {w : World} {H : Hp} {h : Heap} (ok : HOk P w H h) : ∀ (ds : List PyData) (xs : List V) (us : List Value), AtAll H ds xs → Vals xs us → PyData.hasDictAll ds = false → ∃ as, ReadsAll h us ds as
  | [], xs, us, a, r, _ => by unfold AtAll at a; subst a; cases r; exact ⟨_, .nil⟩
  | d :: ds, xs, us, a, r, nd => by
    unfold AtAll at a
    obtain ⟨x, t, e, h1, h2⟩ := a
    subst e
    have nd' : d.hasDict = false ∧ PyData.hasDictAll ds = false := by simpa [PyData.hasDictAll] using nd
    cases r with
    | cons r1 r2 =>
      obtain ⟨as, q1⟩ := reads_of ok d x _ h1 r1 nd'.1
      obtain ⟨bs, q2⟩ := reads_all ok ds t _ h2 r2 nd'.2
      exact ⟨_, .cons q1 q2⟩
end
/-- what repr asks of a thing -/
structure Shows (d : PyData) : Prop where
  can : d.showable = true
  nod : d.hasDict = false
  len : d.shown.length ≤ sizeLine
  dep : d.depth ≤ 60
section
variable {X : Cx}
/-! ### a name that is bound at the top to an int; the defs' promises in one parcel -/
def Gi (mg : Str → Option Value) (x : Str) (i : Int) : Prop := ∃ t, mg x = some (.int i t)
theorem pglobI {x : Str} {i : Int} {pos : Pos} (h : Gi X.mg x i) (hg : Gl X x := by rfl) (hd : (x == ("__debug__" : Str)) = false := by decide) : PE X (.Name x pos) (tC (.int i)) := by
  obtain ⟨t, ht⟩ := h
  exact pe_glob hg ht ⟨t, rfl⟩ hd
/-- a callee: what it promises, how it is found -/
structure Ct (P : Program) (w : World) (K : PySem.W.Frag) (mg : Str → Option Value) (base : Heap) (k : Nat) (x : Str) (ps : List Str) (sp : Sp) where
  f : Addr
  fd : FuncData
  G : FnOk P w K mg base CX0 k f fd ps sp
  kp : PySem.W.keepIn K (.ref f) = true
  b : Binds K fd ps []
  m : mg x = some (.ref f)
def Ct.mono {P : Program} {w : World} {K : PySem.W.Frag} {mg : Str → Option Value} {base : Heap} {j k : Nat} {x : Str} {ps : List Str} {sp : Sp} (c : Ct P w K mg base j x ps sp) (h : j ≤ k) : Ct P w K mg base k x ps sp := { c with G := c.G.mono h }
theorem pcall {k : Nat} {x : Str} {ps : List Str} {sp : Sp} {e : Expr} {es : List Expr} {t : TA} {p pos : Pos} (c : Ct X.prog X.w X.K X.mg X.base k x ps sp) (hr : Room k X.A) (ha : PA X (e :: es) t) (hg : Gl X x := by rfl)
    (hdb : (x == ("__debug__" : Str)) = false := by decide) (he : starEach (e :: es) X.env = (false, eval e X.env) :: starEach es X.env := by rfl) (hpl : (backTo pos (starEach es X.env)).any (·.1) = false := by rfl) :
    PE X (.Call (.Name x p) (e :: es) [] pos) (tCall sp [] E0 t) := pe_call c.G hr hg c.m c.kp c.b .nil pass0 ha hdb he hpl
/-- a callee that tells a truth of things and changes nothing -/
def spB1 (f : PyData → Bool) : Sp := fun vs H Q _ => ∃ v d, vs = [v] ∧ At H d v ∧ ∀ H', Same H H' → Q (.bl (f d)) H'
def spB2 (f : PyData → PyData → Bool) : Sp := fun vs H Q _ => ∃ v d v' d', vs = [v, v'] ∧ At H d v ∧ At H d' v' ∧ ∀ H', Same H H' → Q (.bl (f d d')) H'
/-- .. beside a thing ints -/
def spBI1 (f : PyData → Int → Bool) : Sp := fun vs H Q _ => ∃ v d i, vs = [v, .int i] ∧ At H d v ∧ ∀ H', Same H H' → Q (.bl (f d i)) H'
def spBI2 (f : PyData → Int → Int → Bool) : Sp := fun vs H Q _ => ∃ v d i j, vs = [v, .int i, .int j] ∧ At H d v ∧ ∀ H', Same H H' → Q (.bl (f d i j)) H'
theorem spB1.len {f : PyData → Bool} {ps : List Str} (h : ps.length = 1) : ∀ vs H Q E, spB1 f vs H Q E → vs.length = ps.length := by rintro vs H Q E ⟨v, d, rfl, _⟩; exact h.symm
theorem spB2.len {f : PyData → PyData → Bool} {ps : List Str} (h : ps.length = 2) : ∀ vs H Q E, spB2 f vs H Q E → vs.length = ps.length := by rintro vs H Q E ⟨v, d, v', d', rfl, _⟩; exact h.symm
theorem spBI1.len {f : PyData → Int → Bool} {ps : List Str} (h : ps.length = 2) : ∀ vs H Q E, spBI1 f vs H Q E → vs.length = ps.length := by rintro vs H Q E ⟨v, d, i, rfl, _⟩; exact h.symm
theorem spBI2.len {f : PyData → Int → Int → Bool} {ps : List Str} (h : ps.length = 3) : ∀ vs H Q E, spBI2 f vs H Q E → vs.length = ps.length := by rintro vs H Q E ⟨v, d, i, j, rfl, _⟩; exact h.symm
theorem B1.of {f : PyData → Bool} {v : V} {d : PyData} {H : Hp} {Q : VK} {E : XK} (h : At H d v) (q : ∀ H', Same H H' → Q (.bl (f d)) H') : spB1 f ([v] ++ []) H Q E := ⟨v, d, rfl, h, q⟩
theorem BI1.of {f : PyData → Int → Bool} {v : V} {d : PyData} {i : Int} {H : Hp} {Q : VK} {E : XK} (h : At H d v) (q : ∀ H', Same H H' → Q (.bl (f d i)) H') : spBI1 f ([v, .int i] ++ []) H Q E := ⟨v, d, i, rfl, h, q⟩
theorem BI2.of {f : PyData → Int → Int → Bool} {v : V} {d : PyData} {i j : Int} {H : Hp} {Q : VK} {E : XK} (h : At H d v) (q : ∀ H', Same H H' → Q (.bl (f d i j)) H') : spBI2 f ([v, .int i, .int j] ++ []) H Q E := ⟨v, d, i, j, rfl, h, q⟩
theorem B2.of {f : PyData → PyData → Bool} {v v' : V} {d d' : PyData} {H : Hp} {Q : VK} {E : XK} (h : At H d v) (h' : At H d' v') (q : ∀ H', Same H H' → Q (.bl (f d d')) H') : spB2 f ([v, v'] ++ []) H Q E := ⟨v, d, v', d', rfl, h, h', q⟩

/-! ### a comprehension over a tuple of things, each told a truth -/
end
/-! ### the words by which a reading is opened -/
theorem rd_var0 {v : V} {σ : St} {H : Hp} {Q : VK} : tVar 0 (some v :: σ) H Q = Q v H := by
  unfold tVar; simp
theorem rd_varS {i : Nat} {o : Option V} {σ : St} {H : Hp} {Q : VK} : tVar (i + 1) (o :: σ) H Q = tVar i σ H Q := by
  unfold tVar; simp
theorem rd_set0 {v : V} {o : Option V} {σ : St} : (o :: σ).set 0 (some v) = some v :: σ := rfl
theorem rd_setS {i : Nat} {v : V} {o : Option V} {σ : St} : (o :: σ).set (i + 1) (some v) = o :: σ.set i (some v) := rfl
theorem rd_gcons {t : TG} {u : TGs} {v : V} {r : List V} {σ : St} {H : Hp} {Q : St → Hp → Prop} : gCons t u (v :: r) σ H Q = t v σ H fun σ' H' => u r σ' H' Q := by
  unfold gCons
  refine propext ⟨?_, fun h => ⟨v, r, rfl, h⟩⟩
  rintro ⟨v', r', e, h⟩
  cases e
  exact h
theorem rd_gnil {σ : St} {H : Hp} {Q : St → Hp → Prop} : gNil [] σ H Q = Q σ H := by
  unfold gNil; simp
theorem and_if {b : Bool} {A B : Prop} (h1 : b = true → A) (h2 : b = false → B) : if b = true then A else B := by
  cases b
  · rw [if_neg (by decide)]; exact h2 rfl
  · rw [if_pos rfl]; exact h1 rfl
theorem rd_eqI {i j : Int} {H : Hp} {Q : VK} : rEq (.int i) (.int j) H Q = Q (.bl (decide (i = j))) H := by
  unfold rEq scal; simp
theorem rd_neI {i j : Int} {H : Hp} {Q : VK} : rNe (.int i) (.int j) H Q = Q (.bl (!decide (i = j))) H := by
  unfold rNe scal; simp
theorem rd_eqS {i j : Str} {H : Hp} {Q : VK} : rEq (.str i) (.str j) H Q = Q (.bl (decide (i = j))) H := by
  unfold rEq scal; simp
theorem rd_neS {i j : Str} {H : Hp} {Q : VK} : rNe (.str i) (.str j) H Q = Q (.bl (!decide (i = j))) H := by
  unfold rNe scal; simp
theorem rd_argI {i : Int} {P : Int → Prop} : (∃ k, [V.int i] = [V.int k] ∧ P k) = P i := by
  simp
theorem rd_argB {i : Bool} {P : Bool → Prop} : (∃ k, [V.bl i] = [V.bl k] ∧ P k) = P i := by
  simp
theorem rd_argII {i j : Int} {P : Int → Int → Prop} : (∃ a b, [V.int i, V.int j] = [V.int a, V.int b] ∧ P a b) = P i j := by
  refine propext ⟨?_, fun h => ⟨i, j, rfl, h⟩⟩
  rintro ⟨a, b, e, h⟩
  cases e
  exact h
theorem rd_test {b : Bool} {P : Bool → Prop} : (∃ k, V.bl b = V.bl k ∧ P k) = P b := by
  simp
theorem rd_int {i : Int} {P : Int → Prop} : (∃ k, V.int i = V.int k ∧ P k) = P i := by
  simp
theorem rd_ii {i j : Int} {P : Int → Int → Prop} : (∃ a b, V.int i = V.int a ∧ V.int j = V.int b ∧ P a b) = P i j := by
  simp
end L2
namespace L2
open PySem PySem.Spec PyProof.Rows
theorem forIn_steps {α β : Type} {g : β → α → β} {f : α → β → Sem (ForInStep β)} : ∀ (l : List α) (c : β), (∀ x ∈ l, ∀ c, f x c = pure (.yield (g c x))) → forIn l c f = (pure (l.foldl g c) : Sem β)
  | [], c, _ => rfl
  | x :: l, c, h => by
    rw [List.forIn_cons, h x List.mem_cons_self c, pure_bind]
    exact forIn_steps l (g c x) fun y hy => h y (List.mem_cons_of_mem _ hy)
theorem closure_is {sc : Scope} {env : Env} (h : (sc.names.all fun y => y.2 != .free || (env.cells.lookup y.1).isSome) = true) : closureFor sc env = pure (clOf sc env) := by
  unfold closureFor clOf
  dsimp only
  rw [forIn_steps (g := clStep env) sc.names [] (fun y hy c => ?_)]
  · rfl
  obtain ⟨n, k⟩ := y
  have a := List.all_eq_true.mp h _ hy
  dsimp only
  unfold clStep
  dsimp only
  cases hk : (k == NameKind.free) with
  | false => simp
  | true =>
    have hk' : k = .free := beq_iff_eq.mp hk
    subst hk'
    have a' : (env.cells.lookup n).isSome = true := by simpa using a
    obtain ⟨c', hc'⟩ := Option.isSome_iff_exists.mp a'
    simp [cellOf, hc']
theorem names_ok {sc : Scope} (h : (sc.names.all fun y => y.2 != .local || sc.names.lookup y.1 == some .local) = true) : ∀ y ∈ sc.names, y.2 = .local → sc.names.lookup y.1 = some .local := fun y hy e => by
  have a := List.all_eq_true.mp h y hy
  rw [e] at a
  simpa using a
theorem CSc.mk0 {X : Cx} {x : Str} {sc : Scope} (k : sc.kind = .function := by rfl) (n : (sc.names.all fun y => y.2 != .cell && y.2 != .free) = true := by decide +kernel) (l : (sc.names.all fun y => y.2 != .local || sc.names.lookup y.1 == some .local) = true := by decide +kernel) : CSc X [x] [] sc := by
  have n' : ∀ y ∈ sc.names, y.2 ≠ .cell ∧ y.2 ≠ .free := fun y hy => by have := List.all_eq_true.mp n y hy; simpa using this
  have al : (sc.names.all fun y => y.2 != .free || (X.env.cells.lookup y.1).isSome) = true := List.all_eq_true.mpr fun y hy => by simp [(n' y hy).2]
  exact ⟨k, fun y hy => (n' y hy).1, names_ok l, closure_is al, al, rfl, fun i j h => by simp at h, fun y h => by simp at h⟩
/-! ### arguments without a star -/
def plainE : Expr → Bool
  | .Starred _ _ => false
  | _ => true
theorem star_one {env : Env} {e : Expr} {es : List Expr} (h : plainE e = true) : starEach (e :: es) env = (false, eval e env) :: starEach es env := by
  cases e <;> first | rfl | exact absurd h (by simp [plainE])
theorem star_none {env : Env} {pos : Pos} : ∀ {es : List Expr}, es.all plainE = true → (backTo pos (starEach es env)).any (·.1) = false
  | [], _ => rfl
  | e :: es, h => by
    have h' : plainE e = true ∧ es.all plainE = true := by simpa using h
    rw [star_one h'.1]
    show (false || (backTo pos (starEach es env)).any (·.1)) = false
    rw [star_none h'.2]; rfl
section
variable {X : Cx} {x : Str} {p pos : Pos} {e : Expr} {es : List Expr} {te : TE} {t : TA} {id T : String} {r : List V → Hp → VK → Prop}
theorem pa_c (ha : PE X e te) (hr : PA X es t) (h : plainE e = true := by rfl) : PA X (e :: es) (tCons te t) := pa_cons ha hr (star_one h)
theorem pf {k : Nat} {ps : List Str} {sp : Sp} (c : Ct X.prog X.w X.K X.mg X.base k x ps sp) (hr : Room k X.A) (ha : PA X (e :: es) t) (hg : Gl X x := by rfl) (hdb : (x == ("__debug__" : Str)) = false := by decide) (h1 : plainE e = true := by rfl) (h2 : es.all plainE = true := by rfl) :
    PE X (.Call (.Name x p) (e :: es) [] pos) (tCall sp [] E0 t) := pcall c hr ha hg hdb (star_one h1) (star_none h2)
theorem pb (hc : CallR X (.builtin id) r) (hm : X.mg x = none) (hv : bootBuiltins x = some (.builtin id)) (ha : PA X (e :: es) t) (hg : Gl X x := by rfl) (hn : x ≠ "__name__" := by decide) (hdb : (x == ("__debug__" : Str)) = false := by decide)
    (h1 : plainE e = true := by rfl) (h2 : es.all plainE = true := by rfl) : PE X (.Call (.Name x p) (e :: es) [] pos) (tCB r t) := pe_callB hc hg hm hv ha hn hdb (star_one h1) (star_none h2)
theorem pt (hc : CallR X (.type T) r) (hm : X.mg x = none) (hv : bootBuiltins x = some (.type T)) (ha : PA X (e :: es) t) (hg : Gl X x := by rfl) (hn : x ≠ "__name__" := by decide) (hdb : (x == ("__debug__" : Str)) = false := by decide)
    (h1 : plainE e = true := by rfl) (h2 : es.all plainE = true := by rfl) : PE X (.Call (.Name x p) (e :: es) [] pos) (tCB r t) := pe_callTy hc hg hm hv ha hn hdb (star_one h1) (star_none h2)
end
end L2
namespace HT
open PySem PyProof.Rows
section
variable {prog : Program} {w : World} {A : Around} {E : Value → Shared → Prop} {s : Shared}
end
end HT
namespace L2
open PySem PySem.Spec PyProof.Rows
/-! ### Python's own names -/
theorem bt_isinstance : bootBuiltins "isinstance" = some (.builtin "isinstance") := by decide +kernel
theorem bt_len : bootBuiltins "len" = some (.builtin "len") := by decide +kernel
theorem bt_all : bootBuiltins "all" = some (.builtin "all") := by decide +kernel
theorem bt_abs : bootBuiltins "abs" = some (.builtin "abs") := by decide +kernel
theorem bt_min : bootBuiltins "min" = some (.builtin "min") := by decide +kernel
theorem bt_max : bootBuiltins "max" = some (.builtin "max") := by decide +kernel
theorem bt_int : bootBuiltins "int" = some (.type "int") := by decide +kernel
theorem bt_str : bootBuiltins "str" = some (.type "str") := by decide +kernel
theorem bt_bool : bootBuiltins "bool" = some (.type "bool") := by decide +kernel
theorem bt_list : bootBuiltins "list" = some (.type "list") := by decide +kernel
theorem bt_tuple : bootBuiltins "tuple" = some (.type "tuple") := by decide +kernel
theorem bt_zip : bootBuiltins "zip" = some (.type "zip") := by decide +kernel
section
variable {X : Cx}
theorem pty {x : Str} {T : String} {pos : Pos} (hg : Gl X x) (hm : X.mg x = none) (hv : bootBuiltins x = some (.type T)) (hn : x ≠ "__name__" := by decide) (hd : (x == ("__debug__" : Str)) = false := by decide) : PE X (.Name x pos) (tC (.ty T)) :=
  pe_bltn (v := .ty T) hg hm hv rfl hn hd
theorem Isi.of {T : String} {g : PyData → Bool} {v : V} {d : PyData} {H : Hp} {Q : VK} (h : At H d v) (q : Q (.bl (g d)) H) : rIsi T g [v, .ty T] H Q := ⟨v, d, rfl, h, q⟩
/-- len of a list or a tuple, tracked or of the top -/
def rLen (K : PySem.W.Frag) : List V → Hp → VK → Prop := fun vs H Q => ∃ (p : Addr) (ys : List V), vs = [.ref p] ∧ (SqL K H p ys ∨ SqT K H p ys) ∧ Q (.int ys.length) H
theorem call_lenK {K : PySem.W.Frag} (hK : X.K = K) : CallR X (.builtin "len") (rLen K) := by
  subst hK
  exact call_len_seq
def rIxO : R2 := fun x y H Q => ∃ (p : Addr) (xs : List V) (i : Int) (v : V), x = .ref p ∧ y = .int i ∧ (H p = some (.lst xs) ∨ H p = some (.tup xs)) ∧ atI xs i = some v ∧ Q v H
theorem ix_obj : IxR X rIxO := by
  have h := (ix_list (X := X)).or ix_tup
  refine .mk ?_
  intro a b pins s σ H x y v u Q I rx ry q
  obtain ⟨p, xs, i, z, e1, e2, hp, ha, q⟩ := q
  intro hs
  refine h a b pins s σ H x y v u Q I rx ry ?_ hs
  rcases hp with hp | hp
  · exact .inl ⟨p, xs, i, z, e1, e2, SqL.of hp, ha, q⟩
  · exact .inr ⟨p, xs, i, z, e1, e2, SqT.of hp, ha, q⟩
theorem Ix.tup {a : Addr} {xs : List V} {i : Int} {v : V} {H : Hp} {Q : VK} (h : H a = some (.tup xs)) (e : atI xs i = some v) (q : Q v H) : rIxO (.ref a) (.int i) H Q := ⟨a, xs, i, v, rfl, rfl, .inr h, e, q⟩
theorem Ix.lst {a : Addr} {xs : List V} {i : Int} {v : V} {H : Hp} {Q : VK} (h : H a = some (.lst xs)) (e : atI xs i = some v) (q : Q v H) : rIxO (.ref a) (.int i) H Q := ⟨a, xs, i, v, rfl, rfl, .inl h, e, q⟩
/-- a comprehension over range(n), by an invariant -/
theorem comp_R {js : List Nat} {ta : TA} {te : TE} {σ : St} {H : Hp} {Q : VK} {n : Nat} (hl : ∀ R : List V → Hp → Prop, R [.int n] H → ta σ H R) (hn : n ≤ 1000000)
    (h : ∀ acc, H acc = none → ∃ Pv : Nat → List V → Hp → Prop, Pv 0 [] (upd H acc (.lst [])) ∧
      (∀ i ys H', i < n → Pv i ys H' → te (some (.int (0 + (i : Nat))) :: capS js σ) H' fun y H'' => H'' acc = some (.lst ys) ∧ ys.length < sizeLine ∧ Pv (i + 1) (ys ++ [y]) (upd H'' acc (.lst (ys ++ [y])))) ∧
      ∀ ys H', Pv n ys H' → Q (.ref acc) H') : tComp js (iRng1 ta) te σ H Q := by
  refine hl _ ⟨n, rfl, by omega, by omega, fun acc hacc => ?_⟩
  obtain ⟨Pv, h0, hs, hd⟩ := h acc hacc
  have en : ((n : Int)).toNat = n := Int.toNat_natCast n
  rw [en]
  refine ⟨fun i m ys H' => m = n - i ∧ i ≤ n ∧ Pv i ys H', ⟨n, rfl, Nat.zero_le _, h0⟩, ?_⟩
  rintro i m ys H2 ⟨rfl, hi, p⟩
  by_cases hlt : i < n
  · refine .inr ⟨hlt, fun x H3 y => ?_⟩
    obtain ⟨e, y⟩ := y
    subst e y
    have tmono := hs i ys _ hlt p
    have fe : (fun (y : V) (H'' : Hp) => H'' acc = some (.lst ys) ∧ ys.length < sizeLine ∧ Pv (i + 1) (ys ++ [y]) (upd H'' acc (.lst (ys ++ [y])))) = fun y H4 => H4 acc = some (.lst ys) ∧ ys.length < sizeLine ∧ ∃ m', m' < n - i ∧ (m' = n - (i + 1) ∧ i + 1 ≤ n ∧ Pv (i + 1) (ys ++ [y]) (upd H4 acc (.lst (ys ++ [y])))) := by
      funext y H''
      refine propext ⟨fun ⟨a, b, c⟩ => ⟨a, b, _, by omega, rfl, hlt, c⟩, fun ⟨a, b, m', _, _, _, c⟩ => ⟨a, b, c⟩⟩
    rw [fe] at tmono
    exact tmono
  · have e : i = n := by omega
    subst e
    exact .inl ⟨Nat.le_refl _, hd ys _ p⟩
/-- for k in range(n), by an invariant -/
theorem for_R {ta : TA} {g : TG} {tb : TS} {D : Ends} {σ : St} {H : Hp} {n : Nat} (hl : ∀ R : List V → Hp → Prop, R [.int n] H → ta σ H R) (hn : n ≤ 1000000) (Pv : Nat → St → Hp → Prop) (h0 : Pv 0 σ H)
    (hs : ∀ i σ H, i < n → Pv i σ H → g (.int (0 + (i : Nat))) σ H fun σ2 H2 => tb { D with nx := Pv (i + 1), ct := Pv (i + 1), bk := D.nx } σ2 H2) (hd : ∀ σ H, Pv n σ H → D.nx σ H) : tFor (iRng1 ta) g tb D σ H := by
  refine hl _ ⟨n, rfl, by omega, by omega, ?_⟩
  rw [Int.toNat_natCast]
  exact for_range Pv h0 hs hd
/-- displays, the new heap a letter -/
def tLstW (t : TA) : TE := fun σ H Q => t σ H fun xs H1 => xs.length ≤ sizeLine ∧ ∀ p H', H1 p = none → Same H1 H' → H' p = some (.lst xs) → Q (.ref p) H'
def tTupW (t : TA) : TE := fun σ H Q => t σ H fun xs H1 => xs.length ≤ sizeLine ∧ ∀ p H', H1 p = none → Same H1 H' → H' p = some (.tup xs) → Q (.ref p) H'
theorem pe_lstW {es : List Expr} {t : TA} {pos : Pos} (h : PA X es t) : PE X (.List es pos) (tLstW t) := by
  refine .mk ?_
  intro pins s σ H Q I hq
  refine wpAny_List_spliced (thn (h pos pins s σ H _ I hq) fun us s1 ⟨xs, H1, I1, r, z, q⟩ => ⟨by rw [← r.length]; exact z, ?_⟩)
  have fr : H1 s1.heap.objs.size = none := I1.hok.fresh (Nat.le_refl _)
  exact ⟨.ref s1.heap.objs.size, upd H1 s1.heap.objs.size (.lst xs), I1.laid (t' := s1.toks) (fun b u e => Heap.get?_push_of_some _ e) (Nat.le_refl _) ⟨z, us, 0, r, Heap.get?_push_size _ rfl⟩, rfl, q _ _ fr (same_new fr _) upd_same⟩
theorem pe_tupW {es : List Expr} {t : TA} {x1} {pos : Pos} (h : PA X es t) : PE X (.Tuple es x1 pos) (tTupW t) := by
  refine .mk ?_
  intro pins s σ H Q I hq
  refine wpAny_Tuple_spliced (thn (h pos pins s σ H _ I hq) fun us s1 ⟨xs, H1, I1, r, z, q⟩ => ⟨by rw [← r.length]; exact z, ?_⟩)
  have fr : H1 s1.heap.objs.size = none := I1.hok.fresh (Nat.le_refl _)
  exact ⟨.ref s1.heap.objs.size, upd H1 s1.heap.objs.size (.tup xs), I1.laid (t' := s1.toks) (fun b u e => Heap.get?_push_of_some _ e) (Nat.le_refl _) ⟨z, us, r, ⟨_, Heap.get?_push_size _ rfl, rfl, _, rfl⟩⟩, rfl, q _ _ fr (same_new fr _) upd_same⟩
/-! ### all but one object -/
def hid (a : Addr) (H : Hp) : Hp := fun b => if b = a then none else H b
theorem hid_ne {a b : Addr} {H : Hp} (h : b ≠ a) : hid a H b = H b := if_neg h
theorem hid_self {a : Addr} {H : Hp} : hid a H a = none := if_pos rfl
theorem hid_some {a b : Addr} {H : Hp} {o : HO} (h : hid a H b = some o) : b ≠ a ∧ H b = some o := by
  by_cases e : b = a
  · subst e; rw [hid_self] at h; cases h
  · exact ⟨e, by rw [hid_ne e] at h; exact h⟩
theorem hid_upd {a : Addr} {H : Hp} {o : HO} : hid a (upd H a o) = hid a H := by
  funext b
  by_cases e : b = a
  · subst e; rw [hid_self, hid_self]
  · rw [hid_ne e, hid_ne e, upd_ne e]
theorem hid_upd_ne {a p : Addr} {H : Hp} {o : HO} (h : p ≠ a) : hid a (upd H p o) = upd (hid a H) p o := by
  funext b
  by_cases e : b = a
  · subst e; rw [hid_self, upd_ne (Ne.symm h), hid_self]
  · rw [hid_ne e]
    by_cases e' : b = p
    · subst e'; rw [upd_same, upd_same]
    · rw [upd_ne e', upd_ne e', hid_ne e]
/-- what is tracked stays, but for the object at a -/
def SX (a : Addr) (H H' : Hp) : Prop := Same (hid a H) (hid a H')
theorem SX.refl (a : Addr) (H : Hp) : SX a H H := Same.refl _
theorem SX.trans {a : Addr} {H H1 H2 : Hp} (x : SX a H H1) (y : SX a H1 H2) : SX a H H2 := Same.trans x y
theorem SX.of {a : Addr} {H H' : Hp} (s : Same H H') : SX a H H' := fun b o h => by
  obtain ⟨n, e⟩ := hid_some h
  rw [hid_ne n]; exact s _ _ e
theorem SX.upd {a : Addr} {H : Hp} {o : HO} : SX a H (upd H a o) := by unfold SX; rw [hid_upd]; exact Same.refl _
theorem SX.get {a b : Addr} {H H' : Hp} {o : HO} (s : SX a H H') (n : b ≠ a) (h : H b = some o) : H' b = some o := by
  have := s b o (by rw [hid_ne n]; exact h)
  exact (hid_some this).2
/-- the law's tape: three ints, how many draws there were at most -/
def Tp (H : Hp) (a : Addr) (n : Nat) : Prop := ∃ x y z : Int, H a = some (.lst [.int x, .int y, .int z]) ∧ 0 ≤ x ∧ 0 ≤ y ∧ y < 4611686018427387904 ∧ 0 ≤ z ∧ z ≤ n
theorem Tp.mono {H : Hp} {a : Addr} {n m : Nat} (h : Tp H a n) (l : n ≤ m) : Tp H a m := by
  obtain ⟨x, y, z, e, h1, h2, h3, h4, h5⟩ := h
  exact ⟨x, y, z, e, h1, h2, h3, h4, by omega⟩
theorem Tp.same {H H' : Hp} {a : Addr} {n : Nat} (h : Tp H a n) (s : Same H H') : Tp H' a n := by
  obtain ⟨x, y, z, e, r⟩ := h
  exact ⟨x, y, z, s _ _ e, r⟩
theorem Tp.ne {H : Hp} {a b : Addr} {n : Nat} (h : Tp H a n) (e : H b = none) : b ≠ a := by
  obtain ⟨x, y, z, q, _⟩ := h
  intro z; subst z; rw [e] at q; cases q
theorem Same.hid {a : Addr} {H H' : Hp} (s : Same H H') : Same (L2.hid a H) (L2.hid a H') := fun b o h => by
  obtain ⟨n, e⟩ := hid_some h
  rw [hid_ne n]; exact s _ _ e
theorem Ap.of {K : PySem.W.Frag} {p : Addr} {xs : List V} {v : V} {H : Hp} {Q : VK} (h : H p = some (.lst xs)) (z : xs.length < sizeLine) (q : Q .non (upd H p (.lst (xs ++ [v])))) : rAppend (.ref p) [v] H Q := ⟨p, xs, v, rfl, rfl, h, z, q⟩
theorem SX.updN {a p : Addr} {H H' : Hp} {o : HO} (s : SX a H H') (hp : H p = none) (pa : p ≠ a) : SX a H (L2.upd H' p o) := fun b u h => by
  obtain ⟨n, e⟩ := hid_some h
  rw [hid_upd_ne pa, upd_ne (ne_of_none e hp)]
  exact s b u h
theorem Tp.updN {H : Hp} {a p : Addr} {n : Nat} {o : HO} (t : Tp H a n) (pa : p ≠ a) : Tp (L2.upd H p o) a n := by
  obtain ⟨x, y, z, e, r⟩ := t
  exact ⟨x, y, z, by rw [upd_ne (Ne.symm pa)]; exact e, r⟩
/-- the script: the caller's own list, which nothing here may change -/
def Scr (K : PySem.W.Frag) (H : Hp) (p : Addr) (xs : List V) : Prop := (∃ o, H p = some (.frz o (.lst xs))) ∨
  ∃ (o : Obj) (its : Array Value) (n : Nat), K.lookup p = some o ∧ o.cls = .type "list" ∧ o.dict = none ∧ o.data = .seq its n ∧ its.size ≤ sizeLine ∧ Vals xs its.toList
theorem Scr.sq {K : PySem.W.Frag} {H : Hp} {p : Addr} {xs : List V} (h : Scr K H p xs) : SqL K H p xs := by
  rcases h with ⟨o, h⟩ | h
  · exact .inl (.inr ⟨o, h⟩)
  · exact .inr h
theorem Scr.of {K : PySem.W.Frag} {H : Hp} {p : Addr} {xs : List V} (h : SqL K H p xs) (o : Only H) : Scr K H p xs := by
  rcases h with (h | h) | h
  · rcases o p with e | ⟨ob, ys, e⟩
    · rw [e] at h; cases h
    · rw [e] at h; cases h
  · exact .inl h
  · exact .inr h
theorem Scr.same {K : PySem.W.Frag} {H H' : Hp} {p : Addr} {xs : List V} (h : Scr K H p xs) (s : Same H H') : Scr K H' p xs := by
  rcases h with ⟨o, h⟩ | h
  · exact .inl ⟨o, s _ _ h⟩
  · exact .inr h
theorem Scr.sx {K : PySem.W.Frag} {H H' : Hp} {p a : Addr} {n : Nat} {xs : List V} (h : Scr K H p xs) (t : Tp H a n) (s : SX a H H') : Scr K H' p xs := by
  rcases h with ⟨o, h⟩ | h
  · refine .inl ⟨o, s.get (fun z => ?_) h⟩
    obtain ⟨x, y, w, e, _⟩ := t
    subst z; rw [e] at h; cases h
  · exact .inr h
end
end L2
namespace L2
open PySem PySem.Spec PyProof.Rows
/-! ### things of a known make: their numbers, their texts, how much they weigh when they are shown -/
mutual
def fine (b : Nat) : PyData → Bool
  | .none => true
  | .bool _ => true
  | .int i => decide (i.natAbs ≤ b)
  | .str x => decide (x.length ≤ 40) && x.cps.toList.all fun c => decide (c < 4294967296)
  | .tuple ds => fineAll b ds
  | .list ds => fineAll b ds
  | .dict _ => false
def fineAll (b : Nat) : List PyData → Bool
  | [] => true
  | d :: ds => fine b d && fineAll b ds
end
mutual
def mass : PyData → Nat
  | .tuple ds => massAll ds + 3
  | .list ds => massAll ds + 3
  | .dict _ => 500
  | .none => 500
  | .bool _ => 500
  | .int _ => 500
  | .str _ => 500
def massAll : List PyData → Nat
  | [] => 0
  | d :: ds => mass d + 2 + massAll ds
end
theorem fineAll_iff {b : Nat} : ∀ {ds : List PyData}, fineAll b ds = true ↔ ∀ d ∈ ds, fine b d = true
  | [] => by simp [fineAll]
  | d :: ds => by
    have ih := fineAll_iff (b := b) (ds := ds)
    simp only [fineAll, Bool.and_eq_true, ih, List.mem_cons, forall_eq_or_imp]
theorem depthAll_iff {k : Nat} : ∀ {ds : List PyData}, PyData.depthAll ds ≤ k ↔ ∀ d ∈ ds, d.depth ≤ k
  | [] => by simp [PyData.depthAll]
  | d :: ds => by
    have ih := depthAll_iff (k := k) (ds := ds)
    simp only [PyData.depthAll, List.mem_cons, forall_eq_or_imp, ← ih]
    omega
theorem massAll_append : ∀ (ds es : List PyData), massAll (ds ++ es) = massAll ds + massAll es
  | [], es => by simp [massAll]
  | d :: ds, es => by simp only [List.cons_append, massAll, massAll_append ds es]; omega
mutual
theorem fine_mono {b b' : Nat} (h : b ≤ b') : ∀ d : PyData, fine b d = true → fine b' d = true
  | .none, _ => by simp [fine]
  | .bool _, _ => by simp [fine]
  | .int i, e => by
    have := of_decide_eq_true (show decide (i.natAbs ≤ b) = true from by simpa [fine] using e)
    simp only [fine]; exact decide_eq_true (by omega)
  | .str x, e => by simpa [fine] using e
  | .tuple ds, e => by simp only [fine] at e ⊢; exact fineAll_mono h ds e
  | .list ds, e => by simp only [fine] at e ⊢; exact fineAll_mono h ds e
  | .dict _, e => by simp [fine] at e
theorem fineAll_mono {b b' : Nat} (h : b ≤ b') : ∀ ds : List PyData, fineAll b ds = true → fineAll b' ds = true
  | [], _ => rfl
  | d :: ds, e => by
    simp only [fineAll, Bool.and_eq_true] at e ⊢
    exact ⟨fine_mono h d e.1, fineAll_mono h ds e.2⟩
end
mutual
theorem fine_shows {b : Nat} (hb : b < 10 ^ 60) : ∀ d : PyData, fine b d = true → d.showable = true ∧ d.hasDict = false ∧ d.shown.length ≤ mass d
  | .none, _ => ⟨rfl, rfl, by decide +kernel⟩
  | .bool c, _ => ⟨rfl, rfl, by cases c <;> decide +kernel⟩
  | .int i, e => by
    have h1 := of_decide_eq_true (show decide (i.natAbs ≤ b) = true from by simpa [fine] using e)
    have h2 : i.natAbs < 10 ^ 60 := Nat.lt_of_le_of_lt h1 hb
    refine ⟨?_, rfl, ?_⟩
    · show decide (i.natAbs.log2 < 1920) = true
      refine decide_eq_true (log2_small (Nat.lt_trans h2 ?_))
      decide +kernel
    · have := int_text_length_le10 (k := 60) (by decide) h2
      show (Str.ofString (toString i)).length ≤ 500
      rw [PySem.ofString_length]; omega
  | .str x, e => by
    have e' : (decide (x.length ≤ 40) && x.cps.toList.all fun c => decide (c < 4294967296)) = true := by simpa [fine] using e
    rw [Bool.and_eq_true] at e'
    have h1 := of_decide_eq_true e'.1
    have h2 := StrLaws.reprText_len x (fun c hc => by have := List.all_eq_true.mp e'.2 c hc; have := of_decide_eq_true this; omega)
    refine ⟨rfl, rfl, ?_⟩
    show (reprText x).length ≤ 500
    omega
  | .tuple ds, e => by
    have e' : fineAll b ds = true := by simpa [fine] using e
    obtain ⟨h1, h2, h3⟩ := fineAll_shows hb ds e'
    refine ⟨by simpa [PyData.showable] using h1, by simpa [PyData.hasDict] using h2, ?_⟩
    have q := tupleText_len_le (PyData.shownAll ds)
    show (tupleText (PyData.shownAll ds)).length ≤ massAll ds + 3
    omega
  | .list ds, e => by
    have e' : fineAll b ds = true := by simpa [fine] using e
    obtain ⟨h1, h2, h3⟩ := fineAll_shows hb ds e'
    refine ⟨by simpa [PyData.showable] using h1, by simpa [PyData.hasDict] using h2, ?_⟩
    have q := listText_len_le (PyData.shownAll ds)
    show (listText (PyData.shownAll ds)).length ≤ massAll ds + 3
    omega
  | .dict _, e => by simp [fine] at e
theorem fineAll_shows {b : Nat} (hb : b < 10 ^ 60) : ∀ ds : List PyData, fineAll b ds = true → PyData.showableAll ds = true ∧ PyData.hasDictAll ds = false ∧ ((PyData.shownAll ds).map (·.length)).sum + 2 * (PyData.shownAll ds).length ≤ massAll ds
  | [], _ => ⟨rfl, rfl, by decide⟩
  | d :: ds, e => by
    have e' : fine b d = true ∧ fineAll b ds = true := by simpa [fineAll] using e
    obtain ⟨h1, h2, h3⟩ := fine_shows hb d e'.1
    obtain ⟨g1, g2, g3⟩ := fineAll_shows hb ds e'.2
    refine ⟨by simp [PyData.showableAll, h1, g1], by simp [PyData.hasDictAll, h2, g2], ?_⟩
    simp only [PyData.shownAll, List.map_cons, List.sum_cons, List.length_cons, massAll]
    omega
end
/-- numbers to b, at most D deep, at most so heavy -/
structure Nice (b D M : Nat) (d : PyData) : Prop where
  f : fine b d = true
  dp : d.depth ≤ D
  m : mass d ≤ M
theorem Nice.mono {b b' D D' M M' : Nat} {d : PyData} (h : Nice b D M d) (h1 : b ≤ b') (h2 : D ≤ D') (h3 : M ≤ M') : Nice b' D' M' d := ⟨fine_mono h1 d h.f, Nat.le_trans h.dp h2, Nat.le_trans h.m h3⟩
/-- lists of things, all at once -/
structure NiceAll (b D M : Nat) (ds : List PyData) : Prop where
  f : ∀ d ∈ ds, fine b d = true
  dp : ∀ d ∈ ds, d.depth ≤ D
  m : massAll ds ≤ M
theorem NiceAll.tup {b D M : Nat} {ds : List PyData} (h : NiceAll b D M ds) : Nice b (D + 1) (M + 3) (.tuple ds) :=
  ⟨by simp only [fine]; exact fineAll_iff.mpr h.f, by simp only [PyData.depth]; have := depthAll_iff.mpr h.dp; omega, by simp only [mass]; have := h.m; omega⟩
theorem NiceAll.lst {b D M : Nat} {ds : List PyData} (h : NiceAll b D M ds) : Nice b (D + 1) (M + 3) (.list ds) :=
  ⟨by simp only [fine]; exact fineAll_iff.mpr h.f, by simp only [PyData.depth]; have := depthAll_iff.mpr h.dp; omega, by simp only [mass]; have := h.m; omega⟩
theorem Nice.parts {b D M : Nat} {ds : List PyData} (h : Nice b D M (.tuple ds)) : NiceAll b (D - 1) (M - 3) ds ∧ 1 ≤ D ∧ 3 ≤ M := by
  have h1 := h.f; have h2 := h.dp; have h3 := h.m
  simp only [fine] at h1
  simp only [PyData.depth] at h2
  simp only [mass] at h3
  exact ⟨⟨fineAll_iff.mp h1, depthAll_iff.mp (by omega), by omega⟩, by omega, by omega⟩
theorem NiceAll.mono {b b' D D' M M' : Nat} {ds : List PyData} (h : NiceAll b D M ds) (h1 : b ≤ b') (h2 : D ≤ D') (h3 : M ≤ M') : NiceAll b' D' M' ds :=
  ⟨fun d hd => fine_mono h1 d (h.f d hd), fun d hd => Nat.le_trans (h.dp d hd) h2, Nat.le_trans h.m h3⟩
theorem NiceAll.append {b D M M' : Nat} {ds es : List PyData} (h : NiceAll b D M ds) (h' : NiceAll b D M' es) : NiceAll b D (M + M') (ds ++ es) := by
  refine ⟨fun d hd => ?_, fun d hd => ?_, by rw [massAll_append]; have := h.m; have := h'.m; omega⟩
  · rcases List.mem_append.mp hd with z | z
    · exact h.f d z
    · exact h'.f d z
  · rcases List.mem_append.mp hd with z | z
    · exact h.dp d z
    · exact h'.dp d z
theorem NiceAll.one {b D M : Nat} {d : PyData} (h : Nice b D M d) : NiceAll b D (M + 2) [d] :=
  ⟨fun x hx => by rw [List.mem_singleton.mp hx]; exact h.f, fun x hx => by rw [List.mem_singleton.mp hx]; exact h.dp, by simp only [massAll]; have := h.m; omega⟩
/-- ds = its part ahead of i, the one at i, its part behind -/
theorem split_at {ds : List PyData} {i : Nat} {d : PyData} (h : ds[i]? = some d) : ds = ds.take i ++ d :: ds.drop (i + 1) := by
  obtain ⟨hi, e⟩ := List.getElem?_eq_some_iff.mp h
  rw [← e]; simp
theorem NiceAll.at {b D M : Nat} {ds : List PyData} {i : Nat} {d : PyData} (h : NiceAll b D M ds) (e : ds[i]? = some d) : ∃ M1 M2 M3, NiceAll b D M1 (ds.take i) ∧ Nice b D M2 d ∧ NiceAll b D M3 (ds.drop (i + 1)) ∧ M1 + (M2 + 2) + M3 ≤ M := by
  have m := h.m
  rw [split_at e, massAll_append] at m
  simp only [massAll] at m
  have hm : d ∈ ds := List.mem_of_getElem? e
  exact ⟨_, _, _, ⟨fun x hx => h.f x (List.mem_of_mem_take hx), fun x hx => h.dp x (List.mem_of_mem_take hx), Nat.le_refl _⟩, ⟨h.f d hm, h.dp d hm, Nat.le_refl _⟩, ⟨fun x hx => h.f x (List.mem_of_mem_drop hx), fun x hx => h.dp x (List.mem_of_mem_drop hx), Nat.le_refl _⟩, by omega⟩
/-! ### a number or a truth, reckoned with -/
section
variable {X : Cx}
end
end L2
namespace L2
open PySem PySem.Spec PyProof.Rows
/-- without dicts, or no tuple at all -/
def NoDT (d : PyData) : Prop := d.hasDict = false ∨ isTup d = false
section
variable {X : Cx}
theorem op_eqD (hu : X.A.units + 64 < cLine) : OpR X (compareOp .Eq) (fun x y H Q => ∃ d e, At H d x ∧ At H e y ∧ d.hasDict = false ∧ e.hasDict = false ∧ d.canLay0 = true ∧ e.canLay0 = true ∧ d.depth ≤ 60 ∧ Q (.bl (PyData.eqv d e)) H) := by
  refine .mk ?_
  intro pins s σ H x y v u Q I rx ry h
  obtain ⟨d, e, hd, he, n1, n2, c1, c2, dp, q⟩ := h
  obtain ⟨as, r1⟩ := reads_of I.hok _ _ _ hd rx n1
  obtain ⟨bs, r2⟩ := reads_of I.hok _ _ _ he ry n2
  exact SeqAt.compareEq_reads r1 r2 c1 c2 (by have := Nat.min_le_left d.depth e.depth; omega) (fin_bl I q rfl)
end
/-! ### for and comprehensions whose range or tuple is reckoned with a change of the heap -/
def FK (g : TG) (tb : TS) (D : Ends) (σ : St) (vs : List V) (H1 : Hp) : Prop := ∃ j : Int, vs = [.int j] ∧ -(2 ^ 62) ≤ j ∧ j < 2 ^ 62 ∧ ∃ W : Nat → Nat → St → Hp → Prop, (∃ m, W 0 m σ H1) ∧ ∀ i m σ H, W i m σ H →
  ((Itr 0 j.toNat).stop i H ∧ D.nx σ H) ∨ ((Itr 0 j.toNat).go i H ∧ ∃ N : St → Hp → Prop, (∀ σ' H', N σ' H' → ∃ m', m' < m ∧ W (i + 1) m' σ' H') ∧ ∀ x H', (Itr 0 j.toNat).yld i H x H' → g x σ H' fun σ2 H2 => tb { D with nx := N, ct := N, bk := D.nx } σ2 H2)
theorem tFor_rng {ta : TA} {g : TG} {tb : TS} {D : Ends} {σ : St} {H : Hp} : tFor (iRng1 ta) g tb D σ H = ta σ H (FK g tb D σ) := rfl
theorem FK.of {g : TG} {tb : TS} {D : Ends} {σ : St} {H : Hp} {n : Nat} {i : Int} (ei : i = n) (hn : n ≤ 1000000) (Pv : Nat → St → Hp → Prop) (h0 : Pv 0 σ H)
    (hs : ∀ i σ H, i < n → Pv i σ H → g (.int (0 + (i : Nat))) σ H fun σ2 H2 => tb { D with nx := Pv (i + 1), ct := Pv (i + 1), bk := D.nx } σ2 H2) (hd : ∀ σ H, Pv n σ H → D.nx σ H) : FK g tb D σ [.int i] H := by
  subst ei
  refine ⟨n, rfl, by omega, by omega, ?_⟩
  rw [Int.toNat_natCast]
  exact for_range Pv h0 hs hd
def TK (K : PySem.W.Frag) (g : TG) (tb : TS) (D : Ends) (σ : St) (x : V) (H1 : Hp) : Prop := ∃ a, x = .ref a ∧ (∃ xs, SqT K H1 a xs) ∧ ∃ W : Nat → Nat → St → Hp → Prop, (∃ m, W 0 m σ H1) ∧ ∀ i m σ H, W i m σ H →
  ((Itt K a).stop i H ∧ D.nx σ H) ∨ ((Itt K a).go i H ∧ ∃ N : St → Hp → Prop, (∀ σ' H', N σ' H' → ∃ m', m' < m ∧ W (i + 1) m' σ' H') ∧ ∀ x H', (Itt K a).yld i H x H' → g x σ H' fun σ2 H2 => tb { D with nx := N, ct := N, bk := D.nx } σ2 H2)
theorem TK.of {K : PySem.W.Frag} {g : TG} {tb : TS} {D : Ends} {σ : St} {H : Hp} {a : Addr} {xs : List V} (ha : H a = some (.tup xs)) (Pv : Nat → St → Hp → Prop) (h0 : Pv 0 σ H) (hl : ∀ i σ H', i ≤ xs.length → Pv i σ H' → H' a = some (.tup xs))
    (hs : ∀ i x σ H, xs[i]? = some x → Pv i σ H → g x σ H fun σ2 H2 => tb { D with nx := Pv (i + 1), ct := Pv (i + 1), bk := D.nx } σ2 H2) (hd : ∀ σ H, Pv xs.length σ H → D.nx σ H) : TK K g tb D σ (.ref a) H :=
  ⟨a, rfl, ⟨xs, SqT.of ha⟩, for_tup (xs := xs) Pv h0 (fun i σ H' hi p => SqT.of (hl i σ H' hi p)) hs hd⟩
def CK (js : List Nat) (te : TE) (σ : St) (Q : VK) (vs : List V) (H1 : Hp) : Prop := ∃ j : Int, vs = [.int j] ∧ -(2 ^ 62) ≤ j ∧ j < 2 ^ 62 ∧ ∀ acc, H1 acc = none → ∃ W : Nat → Nat → List V → Hp → Prop, (∃ m, W 0 m [] (upd H1 acc (.lst []))) ∧ ∀ i m ys H2, W i m ys H2 →
  ((Itr 0 j.toNat).stop i H2 ∧ Q (.ref acc) H2) ∨ ((Itr 0 j.toNat).go i H2 ∧ ∀ x H3, (Itr 0 j.toNat).yld i H2 x H3 → te (some x :: capS js σ) H3 fun y H4 => H4 acc = some (.lst ys) ∧ ys.length < sizeLine ∧ ∃ m', m' < m ∧ W (i + 1) m' (ys ++ [y]) (upd H4 acc (.lst (ys ++ [y]))))
theorem CK.of {js : List Nat} {te : TE} {σ : St} {H : Hp} {Q : VK} {n : Nat} {i : Int} (ei : i = n) (hn : n ≤ 1000000)
    (h : ∀ acc, H acc = none → ∃ Pv : Nat → List V → Hp → Prop, Pv 0 [] (upd H acc (.lst [])) ∧
      (∀ i ys H', i < n → Pv i ys H' → te (some (.int (0 + (i : Nat))) :: capS js σ) H' fun y H'' => H'' acc = some (.lst ys) ∧ ys.length < sizeLine ∧ Pv (i + 1) (ys ++ [y]) (upd H'' acc (.lst (ys ++ [y])))) ∧
      ∀ ys H', Pv n ys H' → Q (.ref acc) H') : CK js te σ Q [.int i] H := by
  subst ei
  have := comp_R (ta := fun _ H R => R [.int n] H) (σ := σ) (H := H) (Q := Q) (js := js) (te := te) (n := n) (fun R hR => hR) hn h
  exact this
end L2
namespace L2
open PySem PySem.Spec PyProof.Rows
def Gs (mg : Str → Option Value) (x : Str) (i : Str) : Prop := ∃ t, mg x = some (.str i t)
theorem pglobS {X : Cx} {x : Str} {i : Str} {pos : Pos} (h : Gs X.mg x i) (hg : Gl X x := by rfl) (hd : (x == ("__debug__" : Str)) = false := by decide) : PE X (.Name x pos) (tC (.str i)) := by
  obtain ⟨t, ht⟩ := h
  exact pe_glob hg ht ⟨t, rfl⟩ hd
/-- a callee that tells a truth of things without dicts, or of no tuples -/
def spN (f : PyData → Bool) : Sp := fun vs H Q _ => ∃ v d, vs = [v] ∧ At H d v ∧ NoDT d ∧ ∀ H', Same H H' → Q (.bl (f d)) H'
theorem spN.len {f : PyData → Bool} {ps : List Str} (h : ps.length = 1) : ∀ vs H Q E, spN f vs H Q E → vs.length = ps.length := by rintro vs H Q E ⟨v, d, rfl, _⟩; exact h.symm
theorem N1.of {f : PyData → Bool} {v : V} {d : PyData} {H : Hp} {Q : VK} {E : XK} (h : At H d v) (n : NoDT d) (q : ∀ H', Same H H' → Q (.bl (f d)) H') : spN f ([v] ++ []) H Q E := ⟨v, d, rfl, h, n, q⟩
theorem hasDict_parts : ∀ {ds : List PyData}, PyData.hasDictAll ds = false → ∀ d ∈ ds, d.hasDict = false
  | d :: ds, h, x, hx => by
    have h' : d.hasDict = false ∧ PyData.hasDictAll ds = false := by simpa [PyData.hasDictAll] using h
    rcases List.mem_cons.mp hx with e | e
    · subst e; exact h'.1
    · exact hasDict_parts h'.2 x e
theorem NoDT.parts {ds : List PyData} (h : NoDT (.tuple ds)) : ∀ d ∈ ds, d.hasDict = false := by
  rcases h with h | h
  · exact hasDict_parts (by simpa [PyData.hasDict] using h)
  · cases h
end L2
namespace L2
open PySem PySem.Spec PyProof.Rows
/-! ### max(numbers, default=d) -/
def maxI (b : Int) : List Int → Int
  | [] => b
  | x :: r => maxI (if x > b then x else b) r
section
variable {prog : Program} {w : World} {A : Around} {R : Result → Shared → Prop} {It : Addr} {fp wr : List Addr} {n : Nat} {Pv : Nat → Value → Prop} {St : Nat → Heap → Prop}
end
section
variable {prog : Program} {w : World} {A : Around} {E : Value → Shared → Prop} {s : Shared}
end
end L2
namespace L2
open PySem PySem.Spec PyProof.Rows
section
variable {X : Cx}
def tMaxD (t : TA) (te : TE) : TE := fun σ H Q => t σ H fun vs H1 => te σ H1 fun y H2 => ∃ (p : Addr) (ns : List Int), vs = [.ref p] ∧ H2 p = some (.lst (ns.map V.int)) ∧ (ns = [] → Q y H2) ∧ ∀ b r, ns = b :: r → Q (.int (maxI b r)) H2
end
end L2
namespace L2
open PySem PySem.Spec PyProof.Rows
def whatIx (t : Str) : Nat := if (("come" : Str) == t) = true then 0 else if (("done" : Str) == t) = true then 1 else 2
section
variable {X : Cx}
def tGT2 (K : PySem.W.Frag) (W : List V) : TE := fun _ H Q => ∀ a, (∃ o, K.lookup a = some o ∧ o.cls = .type "tuple" ∧ o.dict = none) → (∀ H', SqT K H' a W) → Q (.ref a) H
end
end L2
namespace L2
open PySem PySem.Spec PyProof.Rows
end L2
namespace L2
open PySem PySem.Spec PyProof.Rows
section
variable {X : Cx} {pos : Pos}
/-- a, b, c = x, y, z with plain local names -/
def tPar3 (i j l : Nat) (ta : TA) : TS := fun D σ H => ta σ H fun vs H1 => ∃ v w z, vs = [v, w, z] ∧ D.nx (((σ.set l (some z)).set j (some w)).set i (some v)) H1
end
end L2
namespace L2
open PySem PySem.Spec PyProof.Rows
/-! ### enumerate over a list -/
def Ite (K : PySem.W.Frag) (a : Addr) : It :=
  ⟨fun i H => ∃ xs x, SqL K H a xs ∧ xs[i]? = some x, fun i H x H' => ∃ p y, H p = none ∧ x = .ref p ∧ H' = upd H p (.tup [.int i, y]) ∧ ∀ xs, SqL K H a xs → xs[i]? = some y, fun i H => ∃ xs, SqL K H a xs ∧ xs.length ≤ i⟩
section
variable {X : Cx}
/-- for k, x in enumerate(list), the list as it stands -/
def EK (K : PySem.W.Frag) (g : TG) (tb : TS) (D : Ends) (σ : St) (vs : List V) (H1 : Hp) : Prop := ∃ a, vs = [.ref a] ∧ (∃ xs, SqL K H1 a xs) ∧ ∃ W : Nat → Nat → St → Hp → Prop, (∃ m, W 0 m σ H1) ∧ ∀ i m σ H, W i m σ H →
  ((Ite K a).stop i H ∧ D.nx σ H) ∨ ((Ite K a).go i H ∧ ∃ N : St → Hp → Prop, (∀ σ' H', N σ' H' → ∃ m', m' < m ∧ W (i + 1) m' σ' H') ∧ ∀ x H', (Ite K a).yld i H x H' → g x σ H' fun σ2 H2 => tb { D with nx := N, ct := N, bk := D.nx } σ2 H2)
theorem EK.of {K : PySem.W.Frag} {g : TG} {tb : TS} {D : Ends} {σ : St} {H : Hp} {a : Addr} {xs : List V} (ha : H a = some (.lst xs)) (Pv : Nat → St → Hp → Prop) (h0 : Pv 0 σ H) (hl : ∀ i σ H', i ≤ xs.length → Pv i σ H' → H' a = some (.lst xs))
    (hs : ∀ i x σ H p, xs[i]? = some x → Pv i σ H → H p = none → g (.ref p) σ (upd H p (.tup [.int (i : Nat), x])) fun σ2 H2 => tb { D with nx := Pv (i + 1), ct := Pv (i + 1), bk := D.nx } σ2 H2) (hd : ∀ σ H, Pv xs.length σ H → D.nx σ H) : EK K g tb D σ [.ref a] H := by
  refine ⟨a, rfl, ⟨xs, SqL.of ha⟩, fun i m σ H => m = xs.length - i ∧ i ≤ xs.length ∧ Pv i σ H, ⟨_, rfl, Nat.zero_le _, h0⟩, ?_⟩
  rintro i m σ H ⟨rfl, hi, p⟩
  have q : SqL K H a xs := SqL.of (hl i σ H hi p)
  by_cases hlt : i < xs.length
  · refine .inr ⟨⟨xs, xs[i], q, List.getElem?_eq_getElem hlt⟩, Pv (i + 1), fun σ' H' p' => ⟨xs.length - (i + 1), by omega, rfl, hlt, p'⟩, fun x H' y => ?_⟩
    obtain ⟨t, z, ht, rfl, rfl, hz⟩ := y
    exact hs i z σ H t (hz xs q) p ht
  · have e : i = xs.length := by omega
    subst e
    exact .inl ⟨⟨xs, q, Nat.le_refl _⟩, hd σ H p⟩
end
end L2
namespace L2
open PySem PySem.Spec PyProof.Rows
/-! ### max of a list of numbers, at least one; a list of a list -/
section
variable {X : Cx}
end
end L2
namespace L2
open PySem PySem.Spec PyProof.Rows
/-! ### for k in reversed(range(n)) -/
section
variable {prog : Program} {w : World} {A : Around} {E : Value → Shared → Prop} {s : Shared}
end
/-- n - 1, n - 2, .., 0 -/
def Itv (n : Nat) : It := ⟨fun i _ => i < n, fun i H x H' => H' = H ∧ x = .int ((n : Int) - 1 - i), fun i _ => n ≤ i⟩
section
variable {X : Cx}
/-- for k in reversed(range(n)), by an invariant -/
def VK' (g : TG) (tb : TS) (D : Ends) (σ : St) (vs : List V) (H1 : Hp) : Prop := ∃ n : Nat, vs = [.int n] ∧ n ≤ 1000000 ∧ ∃ W : Nat → Nat → St → Hp → Prop, (∃ m, W 0 m σ H1) ∧ ∀ i m σ H, W i m σ H →
  ((Itv n).stop i H ∧ D.nx σ H) ∨ ((Itv n).go i H ∧ ∃ N : St → Hp → Prop, (∀ σ' H', N σ' H' → ∃ m', m' < m ∧ W (i + 1) m' σ' H') ∧ ∀ x H', (Itv n).yld i H x H' → g x σ H' fun σ2 H2 => tb { D with nx := N, ct := N, bk := D.nx } σ2 H2)
theorem VK'.of {g : TG} {tb : TS} {D : Ends} {σ : St} {H : Hp} {n : Nat} {i : Int} (ei : i = n) (hn : n ≤ 1000000) (Pv : Nat → St → Hp → Prop) (h0 : Pv 0 σ H)
    (hs : ∀ i σ H, i < n → Pv i σ H → g (.int ((n : Int) - 1 - (i : Nat))) σ H fun σ2 H2 => tb { D with nx := Pv (i + 1), ct := Pv (i + 1), bk := D.nx } σ2 H2) (hd : ∀ σ H, Pv n σ H → D.nx σ H) : VK' g tb D σ [.int i] H := by
  subst ei
  refine ⟨n, rfl, hn, fun i m σ H => m = n - i ∧ i ≤ n ∧ Pv i σ H, ⟨n, rfl, Nat.zero_le _, h0⟩, ?_⟩
  rintro i m σ H ⟨rfl, hi, p⟩
  by_cases hlt : i < n
  · refine .inr ⟨hlt, Pv (i + 1), fun σ' H' p' => ⟨n - (i + 1), by omega, rfl, hlt, p'⟩, fun x H' y => ?_⟩
    obtain ⟨e1, e2⟩ := y
    subst e1 e2
    exact hs i σ _ hlt p
  · have e : i = n := by omega
    subst e
    exact .inl ⟨Nat.le_refl _, hd σ H p⟩
end
end L2
namespace L2
open PySem PySem.Spec PyProof.Rows
/-! ### a def whose last parameter has a number as its default -/
structure FunD (K : PySem.W.Frag) (x qual : Str) (st : Stmt) (f : Addr) (fd : FuncData) (T : Addr) (i : Int) (t : Tok) : Prop where
  ex : ∃ (oc : Value) (od : Option Addr) (kV doc pm : Value) (an : Option Addr) (cdv ct : Value) (osl : Array (Option Value)),
    fd = PySem.W.fnOf x qual (defArgs st) (defBody st) (defScope st) (.ref T) kV doc pm an cdv ct ∧ K.lookup f = some ⟨oc, od, .func fd, osl⟩ ∧ PySem.W.codeIn K cdv qual = true
  kp : PySem.W.keepIn K (.ref f) = true
  df : ∃ o n, K.lookup T = some o ∧ o.data = .seq #[.int i t] n
section
variable {P : Program} {w : World} {K : PySem.W.Frag} {mg : Str → Option Value} {base : Heap}
theorem FunD.ok {x qual : Str} {st : Stmt} {f T : Addr} {i : Int} {t : Tok} {fd : FuncData} {N ps : List Str} {k : Nat} {sp : Sp} (F : FunD K x qual st f fd T i t) (S : FnScope N ps (defScope st)) (len : ∀ vs H Q E, sp vs H Q E → vs.length = ps.length)
    (hb : ∀ (cdv : Value) (A : Around) (outer : List Env) (s : Shared) (H : Hp) (vs : List V) (Q : VK) (E : XK), Room k (A.deeper (envOfC qual (defScope st) s.heap.objs.size f cdv)) → sp vs H Q E →
      ∃ t, PSs (cxOf CX0 P w K mg base N qual (defScope st) f cdv A outer s H E).nox (defBody st) t ∧ t { nx := fun _ H' => Q .non H', rt := Q } (start N vs) H) : FnOk P w K mg base CX0 (k + 1) f fd ps sp := by
  obtain ⟨oc, od, kV, doc, pm, an, cdv, ct, osl, rfl, lk, hcd⟩ := F.ex
  exact fn_of lk hcd S len fun A outer s H vs Q E hr hsp => let ⟨t, h, q⟩ := hb cdv A outer s H vs Q E hr hsp; ⟨t, h.nox, q⟩
theorem FunD.binds {x qual : Str} {st : Stmt} {f T : Addr} {i : Int} {t : Tok} {fd : FuncData} {ps : List Str} {ds : List Value} (F : FunD K x qual st f fd T i t)
    (h : ∀ (kV doc pm : Value) (an : Option Addr) (cdv ct : Value) (us : List Value), (us ++ ds).length = ps.length → ∃ k, bindArgs (PySem.W.fnOf x qual (defArgs st) (defBody st) (defScope st) (.ref T) kV doc pm an cdv ct) ⟨us, []⟩ = seqItems? (.ref T) >>= k ∧ k (some #[.int i t]) = pure (ps.zip (us ++ ds))) : Binds K fd ps ds := by
  obtain ⟨oc, od, kV, doc, pm, an, cdv, ct, osl, rfl, lk, hcd⟩ := F.ex
  obtain ⟨o, n, ho, hd⟩ := F.df
  intro s us KX hl
  obtain ⟨k, h1, h2⟩ := h kV doc pm an cdv ct us hl
  exact BindsTo.of_defaults rfl (KX _ _ ho) hd h1 h2
end
/-- a callee with a default -/
structure CtD (P : Program) (w : World) (K : PySem.W.Frag) (mg : Str → Option Value) (base : Heap) (k : Nat) (x : Str) (ps : List Str) (i : Int) (sp : Sp) where
  f : Addr
  fd : FuncData
  t : Tok
  G : FnOk P w K mg base CX0 k f fd ps sp
  kp : PySem.W.keepIn K (.ref f) = true
  b : Binds K fd ps []
  bd : Binds K fd ps [.int i t]
  m : mg x = some (.ref f)
def CtD.mono {P : Program} {w : World} {K : PySem.W.Frag} {mg : Str → Option Value} {base : Heap} {j k : Nat} {x : Str} {ps : List Str} {i : Int} {sp : Sp} (c : CtD P w K mg base j x ps i sp) (h : j ≤ k) : CtD P w K mg base k x ps i sp := { c with G := c.G.mono h }
section
variable {X : Cx} {x : Str} {p pos : Pos} {e : Expr} {es : List Expr} {t : TA}
end
end L2
namespace L2
open PySem PySem.Spec PyProof.Rows
section
variable {X : Cx}
end
/-- for x in a list, reckoned with a change of the heap -/
def LK (K : PySem.W.Frag) (g : TG) (tb : TS) (D : Ends) (σ : St) (x : V) (H1 : Hp) : Prop := ∃ a, x = .ref a ∧ (∃ xs, SqL K H1 a xs) ∧ ∃ W : Nat → Nat → St → Hp → Prop, (∃ m, W 0 m σ H1) ∧ ∀ i m σ H, W i m σ H →
  ((Itl K a).stop i H ∧ D.nx σ H) ∨ ((Itl K a).go i H ∧ ∃ N : St → Hp → Prop, (∀ σ' H', N σ' H' → ∃ m', m' < m ∧ W (i + 1) m' σ' H') ∧ ∀ x H', (Itl K a).yld i H x H' → g x σ H' fun σ2 H2 => tb { D with nx := N, ct := N, bk := D.nx } σ2 H2)
theorem LK.of {K : PySem.W.Frag} {g : TG} {tb : TS} {D : Ends} {σ : St} {H : Hp} {a : Addr} {xs : List V} (ha : H a = some (.lst xs)) (Pv : Nat → St → Hp → Prop) (h0 : Pv 0 σ H) (hl : ∀ i σ H', i ≤ xs.length → Pv i σ H' → H' a = some (.lst xs))
    (hs : ∀ i x σ H, xs[i]? = some x → Pv i σ H → g x σ H fun σ2 H2 => tb { D with nx := Pv (i + 1), ct := Pv (i + 1), bk := D.nx } σ2 H2) (hd : ∀ σ H, Pv xs.length σ H → D.nx σ H) : LK K g tb D σ (.ref a) H :=
  ⟨a, rfl, ⟨xs, SqL.of ha⟩, for_list (xs := xs) Pv h0 (fun i σ H' hi p => SqL.of (hl i σ H' hi p)) hs hd⟩
end L2
namespace L2
open PySem
mutual
def noL : PyData → Bool
  | .tuple ds => noLAll ds
  | .list _ => false
  | .dict _ => false
  | .none => true
  | .bool _ => true
  | .int _ => true
  | .str _ => true
def noLAll : List PyData → Bool
  | [] => true
  | d :: ds => noL d && noLAll ds
end
theorem noLAll_iff : ∀ {ds : List PyData}, noLAll ds = true ↔ ∀ d ∈ ds, noL d = true
  | [] => by simp [noLAll]
  | d :: ds => by
    have ih := noLAll_iff (ds := ds)
    simp only [noLAll, Bool.and_eq_true, ih, List.mem_cons, forall_eq_or_imp]
mutual
theorem At.hidL {G : Hp} {p : Addr} {xs : List V} (hp : G p = some (.lst xs)) : ∀ (d : PyData) (v : V), noL d = true → At G d v → At (hid p G) d v
  | .none, _, _, h => by unfold At at h ⊢; exact h
  | .bool _, _, _, h => by unfold At at h ⊢; exact h
  | .int _, _, _, h => by unfold At at h ⊢; exact h
  | .str _, _, _, h => by unfold At at h ⊢; exact h
  | .tuple ds, v, n, h => by
    unfold At at h ⊢
    obtain ⟨a, ys, e, h1, h2⟩ := h
    refine ⟨a, ys, e, ?_, AtAll.hidL hp ds ys (by simpa [noL] using n) h2⟩
    rw [hid_ne (fun z => by subst z; rw [hp] at h1; cases h1)]; exact h1
  | .list _, _, n, _ => by simp [noL] at n
  | .dict _, _, n, _ => by simp [noL] at n
theorem AtAll.hidL {G : Hp} {p : Addr} {xs : List V} (hp : G p = some (.lst xs)) : ∀ (ds : List PyData) (ys : List V), noLAll ds = true → AtAll G ds ys → AtAll (hid p G) ds ys
  | [], _, _, h => by unfold AtAll at h ⊢; exact h
  | d :: ds, ys, n, h => by
    unfold AtAll at h ⊢
    obtain ⟨x, r, e, h1, h2⟩ := h
    have n' : noL d = true ∧ noLAll ds = true := by simpa [noLAll] using n
    exact ⟨x, r, e, At.hidL hp d x n'.1 h1, AtAll.hidL hp ds r n'.2 h2⟩
end
theorem SX.same {p : Addr} {H H' : Hp} (hp : H p = none) (s : SX p H H') : Same H H' := fun b o h => by
  have hb : b ≠ p := fun z => by rw [z, hp] at h; cases h
  exact s.get hb h
theorem pick_ints {ts : List Int} {i : Int} (h0 : 0 ≤ i) (h1 : i < ts.length) : ∃ t, t ∈ ts ∧ atI (ts.map V.int) i = some (.int t) := by
  have hi : i.toNat < ts.length := by omega
  refine ⟨ts[i.toNat], List.getElem_mem hi, ?_⟩
  have := atI_nat (xs := ts.map V.int) (j := i.toNat) (v := .int ts[i.toNat]) (by rw [List.getElem?_map, List.getElem?_eq_getElem hi]; rfl)
  rwa [show ((i.toNat : Nat) : Int) = i by omega] at this

def tSeqO (a b : TS) : TS := tSeq a b
theorem seqOr {c : TT} {b : TS} : tSeq (tIfS c (tRet (tC (V.bl false))) tNext) b = tSeqO (tIfS c (tRet (tC (V.bl false))) tNext) b := rfl
theorem seqOi {c : TT} {x y b : TS} : tSeq (tIfS c x y) b = tSeqO (tIfS c x y) b := rfl
theorem tSeqO.of {a b : TS} {D : Ends} {σ : St} {H : Hp} (R : St → Hp → Prop) (hR : ∀ σ' H', R σ' H' → b D σ' H') (h : ∀ N : St → Hp → Prop, (∀ σ' H', R σ' H' → N σ' H') → a { D with nx := N } σ H) : tSeqO a b D σ H := h _ hR
theorem tSeqO.on {a b : TS} {D : Ends} {σ : St} {H : Hp} (hR : ∀ H', Same H H' → b D σ H') (h : ∀ N : St → Hp → Prop, (∀ H', Same H H' → N σ H') → a { D with nx := N } σ H) : tSeqO a b D σ H :=
  tSeqO.of (fun σ' H' => σ' = σ ∧ Same H H') (fun σ' H' z => by rw [z.1]; exact hR H' z.2) fun N hN => h N fun H' s => hN _ _ ⟨rfl, s⟩
theorem Same.updN {H H' : Hp} {p : Addr} {o : HO} (s : Same H H') (hp : H p = none) : Same H (upd H' p o) := fun b u h => by rw [upd_ne (ne_of_none h hp)]; exact s _ _ h
def isLst : PyData → Bool
  | .list _ => true
  | _ => false
theorem kit_lst (K : PySem.W.Frag) (d : PyData) : PySem.W.kitOne K (.type (tyD d)) (.type "list") = some (isLst d) := by cases d <;> kernel_rfl
theorem isi_lst {X : Cx} : CallR X (.builtin "isinstance") (rIsi "list" isLst) := isi_of kit_lst
theorem noLAll_get {ds : List PyData} (h : noLAll ds = true) {i : Nat} {d : PyData} (e : ds[i]? = some d) : noL d = true := noLAll_iff.mp h d (List.mem_of_getElem? e)
/-- a comprehension over a list, each of its things told a thing without lists -/
theorem comp_LV {K : PySem.W.Frag} {js : List Nat} {a : Addr} {xs : List V} {es : List PyData} {tl te : TE} {σ : St} {H : Hp} {Q : VK} (hl : ∀ R : VK, R (.ref a) H → tl σ H R) (ha : H a = some (.lst xs)) (hn : es.length = xs.length) (hz : es.length ≤ sizeLine) (hL : noLAll es = true)
    (step : ∀ (i : Nat) x e H', xs[i]? = some x → es[i]? = some e → Same H H' → ∀ R : VK, (∀ v H'', Same H' H'' → At H'' e v → R v H'') → te (some x :: capS js σ) H' R)
    (fin : ∀ acc ys H', Same H H' → H acc = none → H' acc = some (.lst ys) → AtAll (hid acc H') es ys → Q (.ref acc) H') : tComp js (iList K tl) te σ H Q := by
  refine hl _ ⟨a, rfl, ⟨xs, SqL.of ha⟩, fun acc hacc => ?_⟩
  refine ⟨fun i m ys H2 => m = es.length - i ∧ i ≤ es.length ∧ AtAll (hid acc H2) (es.take i) ys ∧ Same H H2 ∧ H2 acc = some (.lst ys), ⟨_, rfl, Nat.zero_le _, AtAll.nil, same_new hacc _, upd_same⟩, ?_⟩
  rintro i m ys H2 ⟨rfl, hi, hA, sm, hy⟩
  have ht : SqL K H2 a xs := SqL.of (sm _ _ ha)
  by_cases hlt : i < es.length
  · refine .inr ⟨⟨xs, xs[i]'(by omega), ht, List.getElem?_eq_getElem (by omega)⟩, fun x H3 y => ?_⟩
    obtain ⟨e, y⟩ := y
    subst e
    have e1 : es[i]? = some es[i] := List.getElem?_eq_getElem hlt
    refine step i x _ _ (y xs ht) e1 sm _ fun v H4 s4 a4 => ⟨s4 _ _ hy, ?_, es.length - (i + 1), by omega, rfl, hlt, ?_, ?_, upd_same⟩
    · rw [hA.length, List.length_take]; omega
    · rw [hid_upd, List.take_succ, e1]
      exact AtAll.append (hA.mono (Same.hid s4)) (AtAll.cons (At.hidL (s4 _ _ hy) _ _ (noLAll_get hL e1) a4) AtAll.nil)
    · refine fun b o q => ?_
      have nb : b ≠ acc := ne_of_none q hacc
      rw [upd_ne nb]
      exact s4 _ _ (sm _ _ q)
  · have e : i = es.length := by omega
    subst e
    rw [List.take_length] at hA
    exact .inl ⟨⟨xs, ht, by omega⟩, fin _ _ _ sm hacc hy hA⟩
end L2
namespace L2
open PySem PySem.Spec PyProof.Rows
/-! ### min of a list of numbers, at least one -/
section
variable {X : Cx}
end
end L2
namespace L2
open PySem PySem.Spec PyProof.Rows
/-! ### a comprehension of one clause: any target, at most one test -/
structure CScG (X : Cx) (nt : Nat) (N' : List Str) (js : List Nat) (sc : Scope) : Prop where
  kind : sc.kind = .function
  nocell : ∀ y ∈ sc.names, y.2 ≠ .cell
  names : ∀ y ∈ sc.names, y.2 = .local → sc.names.lookup y.1 = some .local
  clos : closureFor sc X.env = pure (clOf sc X.env)
  all : (sc.names.all fun y => y.2 != .free || (X.env.cells.lookup y.1).isSome) = true
  len : N'.length = nt + js.length
  cap : ∀ (i j : Nat), js[i]? = some j → N'[nt + i]? = X.N[j]?
  capk : ∀ y ∈ N'.drop nt, X.env.kindOf y = some .cell ∧ sc.names.lookup y = some .free
theorem inv_compG {X : Cx} {pins : List (Addr × Obj)} {σ : St} {H : Hp} {s : Shared} {fp : List Addr} {N' : List Str} {js : List Nat} {sc : Scope} {nt : Nat} {h1 : Heap} {tk : Nat} (I : Inv X pins σ H s) (hf : ∀ b ∈ fp, FpOk X pins H b) (hlt : ∀ b ∈ fp, b < s.heap.objs.size)
    (S : CScG X nt N' js sc) (hn : h1.Ns s.heap.objs.size fun _ => none) (hk : ∀ b o, s.heap.get? b = some o → h1.get? b = some o) : Inv (cxC X N' sc fp s H) [] (List.replicate nt none ++ capS js σ) H { s with heap := h1, toks := tk } := by
  refine ⟨⟨I.ok.mod, S.kind, I.ok.glob, I.ok.blt, Nat.le_refl _, fun x y c e1 e2 => I.ok.inj x y c (clOf_sound e1) (clOf_sound e2), fun x hx => ?_, fun x c e => absurd e (by show ¬ (false = true); simp), I.ok.hd, I.ok.frames, .inl rfl, fun b hb => ⟨Nat.ne_of_lt (hlt b hb), fun x c e => (hf b hb).2.2.2.2.1 x c (clOf_sound e)⟩, I.bs,
    Nat.le_trans I.ok.bsz I.sz, fun b o e hb => ?_, fun b hb z => ?_, I.stack, I.stkFree⟩, rfl, I.bare, Un.kept hk, ⟨fun _ => none, hn, fun i x v e1 e2 e3 => ?_⟩, fun x c e => ?_, I.hok.fresh (Nat.le_refl _), fun x c e => I.freeC x c (clOf_sound e), fun p hp => absurd (show p ∈ ([] : List (Addr × Obj)) from hp) (by simp), I.hok.kept hk, ?_⟩
  · have hx' : (relabel sc X.env).names.lookup x = some .cell ∨ (relabel sc X.env).names.lookup x = some .free := hx
    have key : (x, NameKind.free) ∈ sc.names := by
      rcases hx' with q | q
      · obtain ⟨k, hm, e | ⟨e, _⟩⟩ := relabel_mem q
        · exact absurd e.symm (S.nocell _ hm)
        · rw [← e]; exact hm
      · obtain ⟨k, hm, e | ⟨e, _⟩⟩ := relabel_mem q
        · rw [e]; exact hm
        · rw [← e]; exact hm
    have a := List.all_eq_true.mp S.all _ key
    have a' : (X.env.cells.lookup x).isSome = true := by simpa using a
    obtain ⟨c, hc⟩ := Option.isSome_iff_exists.mp a'
    exact ⟨c, cl_has hc sc.names [] key⟩
  · rcases (hf b hb).2.2.2.1 with z | z
    · exact I.ok.noex b o e z
    · exact absurd (Nat.lt_of_lt_of_le (Heap.lt_size e) (Nat.le_trans I.ok.bsz z)) (Nat.lt_irrefl _)
  · rcases List.mem_cons.mp (I.stkSub b z) with q | q
    · exact (hf b hb).2.1 q
    · exact (hf b hb).2.2.1 q
  · by_cases hlt : i < nt
    · rw [List.getElem?_append_left (by rw [List.length_replicate]; exact hlt), List.getElem?_replicate, if_pos hlt] at e2
      cases e2
    · obtain ⟨i', rfl⟩ : ∃ i', i = nt + i' := ⟨i - nt, by omega⟩
      rw [List.getElem?_append_right (by rw [List.length_replicate]; omega), List.length_replicate, Nat.add_sub_cancel_left] at e2
      have e2' : (capS js σ)[i']? = some (some v) := e2
      unfold capS at e2'
      rw [List.getElem?_map] at e2'
      cases hj : js[i']? with
      | none => rw [hj] at e2'; simp at e2'
      | some j =>
        rw [hj] at e2'
        have e4 : (σ[j]?).join = some v := by simpa using e2'
        have e5 : σ[j]? = some (some v) := by
          cases q : σ[j]? with
          | none => rw [q] at e4; simp at e4
          | some z => rw [q] at e4; simp at e4; rw [e4]
        have e6 : X.N[j]? = some x := by rw [← S.cap i' j hj]; exact e1
        have mem : x ∈ N'.drop nt := by
          have e1' : N'[nt + i']? = some x := e1
          exact List.mem_of_getElem? (i := i') (by rw [List.getElem?_drop]; exact e1')
        obtain ⟨k1, k2⟩ := S.capk x mem
        obtain ⟨m, _, hl⟩ := I.loc
        obtain ⟨u, r, l⟩ := hl j x v e6 e5 (.inr (.inl k1))
        refine ⟨u, r, .inr ⟨.inl (relabel_free I.ok.kind k1 sc.names k2), ?_⟩⟩
        rcases l with ⟨z, _⟩ | ⟨_, c, hc, hcell⟩
        · rw [k1] at z; cases z
        · obtain ⟨o, ho, hd⟩ := hcell
          exact ⟨c, cl_has hc sc.names [] (PySem.mem_of_lookup k2), o, hk c o ho, hd⟩
  · obtain ⟨v, o, ho, hd⟩ := I.cell x c (clOf_sound e)
    exact ⟨v, o, hk c o ho, hd⟩
  · show (List.replicate nt none ++ capS js σ).length = N'.length
    rw [S.len]; simp [capS]


/-- the tests of a clause -/
structure IfsR (X : Cx) (ifs : List Expr) (t : TT) : Prop where
  mk ::
  go : ∀ (pins : List (Addr × Obj)) (s : Shared) (σ : St) (H : Hp) (Q : Bool → Hp → Prop), Inv X pins σ H s → t σ H Q → wpAny (model X.prog X.w) X.A (forIn ifs true fun c r => if r = true then do let ok ← isTrue c X.env (eval c X.env); pure (ForInStep.yield ok) else pure (ForInStep.yield r)) (TP X pins σ Q) X.xe s
instance {X : Cx} {ifs : List Expr} {t : TT} : CoeFun (IfsR X ifs t) (fun _ =>
  ∀ (pins : List (Addr × Obj)) (s : Shared) (σ : St) (H : Hp) (Q : Bool → Hp → Prop), Inv X pins σ H s → t σ H Q → wpAny (model X.prog X.w) X.A (forIn ifs true fun c r => if r = true then do let ok ← isTrue c X.env (eval c X.env); pure (ForInStep.yield ok) else pure (ForInStep.yield r)) (TP X pins σ Q) X.xe s) := ⟨IfsR.go⟩
def tAll : TT := fun _ H Q => Q true H
theorem ifs_nil {X : Cx} : IfsR X [] tAll := .mk fun pins s σ H Q I h => wpAny_tests_nil ⟨H, I, h⟩
/-- the reading: W the invariant, by the turn, a measure, what is made so far -/
def tCompG (nt : Nat) (js : List Nat) (wi : TI) (g : TG) (tc : TT) (te : TE) : TE := fun σ H Q => wi σ H fun J H1 => ∀ acc, H1 acc = none → ∃ W : Nat → Nat → List V → Hp → Prop, (∃ m, W 0 m [] (upd H1 acc (.lst []))) ∧ ∀ i m ys H2, W i m ys H2 →
  (J.stop i H2 ∧ Q (.ref acc) H2) ∨ (J.go i H2 ∧ ∀ x H3, J.yld i H2 x H3 → g x (List.replicate nt none ++ capS js σ) H3 fun σ' H' => (σ'.drop nt = capS js σ ∧ σ'.length = (List.replicate nt (none : Option V) ++ capS js σ).length) ∧ tc σ' H' fun b H'' =>
    if b = true then te σ' H'' fun y H4 => H4 acc = some (.lst ys) ∧ ys.length < sizeLine ∧ ∃ m', m' < m ∧ W (i + 1) m' (ys ++ [y]) (upd H4 acc (.lst (ys ++ [y]))) else ∃ m', m' < m ∧ W (i + 1) m' ys H'')
theorem compLoop_goG {prog : Program} {w : World} {A : Around} {R : Result → Shared → Prop} {s : Shared} {elt target iter : Expr} {ifs : List Expr} {sc : Scope} {pos : Pos} {it acc : Value} {env : Env} (Iv : Nat → Shared → Prop)
    (turn : ∀ n s, Iv n s → wpAny (model prog w) A (pyNext it) (fun r s1 => match r with
      | none => R (.ok .next) s1
      | some v => wpAny (model prog w) A (letOwnedTupleGo target it v) (fun _ s2 => wpAny (model prog w) A (assign target env v) (fun _ s3 =>
          wpAny (model prog w) A (forIn ifs true fun c r => if r = true then do let ok ← isTrue c env (eval c env); pure (ForInStep.yield ok) else pure (ForInStep.yield r)) (fun ok s3' =>
          if ok = true then wpAny (model prog w) A (eval elt env) (fun x s4 =>
          wpAny (model prog w) A (call (.builtin "list.append") [acc, x]) (fun _ s5 => ∃ m, m < n ∧ Iv m s5) (fun _ _ => False) s4) (fun _ _ => False) s3' else ∃ m, m < n ∧ Iv m s3') (fun _ _ => False) s3) (fun _ _ => False) s2) (fun _ _ => False) s1) (fun _ _ => False) s)
    (n : Nat) (h : Iv n s) : codeAny (model prog w) A (.compLoop (.ListComp elt [⟨target, iter, ifs, 0⟩] sc pos) 0 it acc env) R s := by
  refine codeAny_loop rfl Iv (fun n s hI => ?_) n h
  show wpAny _ _ ((compTurn (.ListComp elt [⟨target, iter, ifs, 0⟩] sc pos) 0 it acc env).onRaise (fun x => do noteFrame x env; theTreesLotGoes x)) _ _ s
  refine wpAny_noted ?_
  rw [compTurn_list]
  refine wpAny_bind (wpAny_standAt (wpAny_bind (wpAny_mono (turn n s hI) (fun r s1 q1 => ?_) fun _ _ f => f.elim)))
  cases r with
  | none => exact wpAny_pure q1
  | some v =>
    refine wpAny_bind (wpAny_mono q1 (fun _ s2 q2 => ?_) fun _ _ f => f.elim)
    refine wpAny_bind (wpAny_mono q2 (fun _ s3 q3 => wpAny_bind (wpAny_mono q3 (fun ok s3' q3' => ?_) fun _ _ f => f.elim)) fun _ _ f => f.elim)
    cases ok with
    | false => exact wpAny_pure ⟨rfl, q3'⟩
    | true => exact wpAny_bind (wpAny_bind (wpAny_mono q3' (fun x s4 q4 => wpAny_bind (wpAny_mono q4 (fun _ s5 q5 => wpAny_pure (wpAny_pure ⟨rfl, q5⟩)) fun _ _ f => f.elim)) fun _ _ f => f.elim))
theorem comp_coreG {X : Cx} {elt iter : Expr} {tg : Expr} {ifs : List Expr} {g : TG} {tc : TT} {nt : Nat} {pos : Pos} {sc : Scope} {wi : TI} {te : TE} {N' : List Str} {js : List Nat} {use : Option (Value → Sem Unit)} {Qc : Value → Shared → Prop} {pins : List (Addr × Obj)} {s : Shared} {σ : St} {H : Hp} {Q : VK} {kp : Pos} (hc : X.calm = true) (hi : PI X tg iter wi) (S : CScG X nt N' js sc)
    (hgt : ∀ fp s H, PG (cxC X N' sc fp s H) tg g) (hif : ∀ fp s H, IfsR (cxC X N' sc fp s H) ifs tc) (he : ∀ fp s H, PE (cxC X N' sc fp s H) elt te) (hs : ∀ x, foldedSetIterable iter X.env x = pure x) (I : Inv X pins σ H s) (h : tCompG nt js wi g tc te σ H Q)
    (fin : ∀ (acc C : Addr) (H' : Hp) (s' : Shared), Inv X pins σ H' s' → FpOk X pins H' C → (∃ m, s'.heap.Ns C m) → Q (.ref acc) H' → compPost (model X.prog X.w) X.A X.xe use Qc (.ref acc) C (.ok .next) s') :
    wpAny (model X.prog X.w) X.A (comprehension (.ListComp elt [⟨tg, iter, ifs, 0⟩] sc pos) sc X.env kp (newList []) false (eval iter X.env) use) Qc X.xe s := by
  refine wpAny_comprehension_free (use := use) rfl hs S.clos S.kind S.names ?_
  refine thn (hi pins s σ H _ I h) fun v s1 q1 => thn q1 fun itv s2 q2 => ?_
  obtain ⟨it, fp, tn, J, H2, e, I2, T, st2, f2, q3⟩ := q2
  subst e
  refine wpAny_newObj_type ?_
  obtain ⟨W, ⟨m0, w0⟩, turn⟩ := q3 s2.heap.objs.size I2.fresh
  have I3 := I2.lnew (ys := []) (its := []) (t' := s2.toks) .nil (Nat.zero_le _)
  have lt2 : ∀ b ∈ fp, b < s2.heap.objs.size := fun b hb => by
    obtain ⟨o, ho, _⟩ := T.obj 0 _ st2 b hb
    exact Heap.lt_size ho
  generalize e3 : ({ s2 with heap := s2.heap.push { cls := .type "list", data := .seq ([] : List Value).toArray }, toks := s2.toks } : Shared) = s3 at I3
  have e3' : ({ s2 with heap := s2.heap.push { cls := .type "list", dict := none, data := .seq ([] : List Value).toArray } } : Shared) = s3 := e3
  have sz3 : s3.heap.objs.size = s2.heap.objs.size + 1 := by rw [← e3]; exact Heap.size_push ..
  have st3 : tn 0 s3.heap := T.keep 0 _ _ st2 fun b hb o ho => by rw [← e3]; exact Heap.get?_push_of_some _ ho
  have lt3 : ∀ b ∈ fp, b < s3.heap.objs.size := fun b hb => by rw [sz3]; exact Nat.lt_succ_of_lt (lt2 b hb)
  have f3 : ∀ b ∈ fp, FpOk X pins (upd H2 s2.heap.objs.size (.lst [])) b := fun b hb => ⟨by rw [upd_ne (Nat.ne_of_lt (lt2 b hb))]; exact (f2 b hb).1, (f2 b hb).2⟩
  generalize hH3 : upd H2 s2.heap.objs.size (.lst []) = H3 at I3 f3 w0
  refine wpAny_newFunctionEnv S.nocell (by intro y hy; simp at hy) (fun h1 hns hsb => ?_) S.kind
  have hk : ∀ b o, s3.heap.get? b = some o → h1.get? b = some o := fun b o q => hsb.extBut b o (Nat.ne_of_lt (Heap.lt_size q)) (Heap.get?_push_of_some _ q)
  have hns' : h1.Ns s3.heap.objs.size fun _ => none := hns
  have I4 : Inv (cxC X N' sc fp s3 H3) [] (List.replicate nt none ++ capS js σ) H3 { s3 with heap := h1, toks := s3.toks + ([] : List (Str × Value)).length } := inv_compG I3 f3 lt3 S hns' hk
  have st4 : tn 0 h1 := T.keep 0 _ _ st3 fun b hb o ho => hk b o ho
  have stat : ∀ {H' : Hp}, (∀ b ∈ fp, H' b = none) → ∀ b ∈ fp, FpOk (cxC X N' sc fp s3 H3) [] H' b := fun hn b hb => ⟨hn b hb, Nat.ne_of_lt (lt3 b hb), I4.ok.exfs b hb, .inl hb, (I4.ok.exf b hb).2, fun p hp => absurd (show p ∈ ([] : List (Addr × Obj)) from hp) (by simp)⟩
  -- the way out
  have out : ∀ {σ' : St} {H' : Hp} {s' : Shared}, Inv (cxC X N' sc fp s3 H3) [] σ' H' s' → Q (.ref s2.heap.objs.size) H' → compPost (model X.prog X.w) X.A X.xe use Qc (.ref s2.heap.objs.size) s3.heap.objs.size (.ok .next) s' := by
    intro σ' H' s' I' q'
    obtain ⟨m, hn, _⟩ := id I'.loc
    have I5 : Inv X pins σ H' s' := I3.call' I'.os I'.base I'.hok I'.bare fun b hb => ⟨(f3 b hb).2.2.2.1, (f3 b hb).2.1, (f3 b hb).2.2.2.2.1, (f3 b hb).2.2.2.2.2⟩
    exact fin _ _ H' s' I5 (I3.fpOk (Nat.le_refl _) I'.free) ⟨m, hn⟩ q'
  have loop : ∀ s4 : Shared, s4 = { s3 with heap := h1, toks := s3.toks + ([] : List (Str × Value)).length } → codeAny (model X.prog X.w) X.A (.compLoop (.ListComp elt [⟨tg, iter, ifs, 0⟩] sc pos) 0 (.ref it) (.ref s2.heap.objs.size) (compEnvC sc (clOf sc X.env) s3.heap.objs.size X.env))
      (compPost (model X.prog X.w) X.A X.xe use Qc (.ref s2.heap.objs.size) s3.heap.objs.size) s4 := by
    rintro s4 rfl
    refine compLoop_goG (fun n s' => ∃ i ys H', Inv (cxC X N' sc fp s3 H3) [] (List.replicate nt none ++ capS js σ) H' s' ∧ tn i s'.heap ∧ (∀ b ∈ fp, H' b = none) ∧ W i n ys H') ?_ m0 ⟨0, [], H3, I4, st4, fun b hb => (f3 b hb).1, w0⟩
    rintro n s5 ⟨i, ys, H5, I5, st5, fr5, w5⟩
    rcases turn i n ys H5 w5 with ⟨stop, qn⟩ | ⟨go, step⟩
    · refine thn (T.done (cxC X N' sc fp s3 H3) rfl rfl rfl hc i [] s5 _ H5 (fun _ _ => False) I5 (stat fr5) st5 stop) fun r s6 ⟨hr, I6⟩ => ?_
      subst hr
      exact out I6 qn
    · refine thn (T.item (cxC X N' sc fp s3 H3) rfl rfl rfl hc i [] s5 _ H5 (fun _ _ => False) I5 (stat fr5) st5 go) fun r s6 ⟨u, hr, q6⟩ => ?_
      subst hr
      refine thn q6 fun _ s7 ⟨y, H7, I7, r7, y7, st7, fr7⟩ => ?_
      have I7' := I7.pinned (stat fr7) (T.obj _ _ st7)
      refine thn (hgt fp s3 H3 _ s7 _ H7 y u _ I7' r7 (step y _ y7)) fun _ s8 ⟨σ8, H8, I8, hsh, q8⟩ => ?_
      refine thn (hif fp s3 H3 _ s8 _ _ _ I8 q8) fun b s8' ⟨H8', I8', q8'⟩ => ?_
      have wk : ∀ k v, (List.replicate nt none ++ capS js σ)[k]? = some (some v) → σ8[k]? = some (some v) := fun k v e => by
        by_cases hlt : k < nt
        · rw [List.getElem?_append_left (by rw [List.length_replicate]; exact hlt), List.getElem?_replicate, if_pos hlt] at e
          cases e
        · rw [List.getElem?_append_right (by rw [List.length_replicate]; omega), List.length_replicate, ← hsh.1, List.getElem?_drop] at e
          rw [show nt + (k - nt) = k by omega] at e
          exact e
      cases b with
      | true =>
        rw [if_pos rfl] at q8' ⊢
        refine thn (he fp s3 H3 _ s8' _ _ _ I8' q8') fun z s9 ⟨vz, H9, I9, r9, ha, hz, m', hm, w9⟩ => ?_
        refine thn (mt_append (X := cxC X N' sc fp s3 H3) _ s9 _ H9 (.ref s2.heap.objs.size) [vz] (.ref s2.heap.objs.size) [z] (fun _ H' => H' = upd H9 s2.heap.objs.size (.lst (ys ++ [vz]))) I9 rfl (.cons r9 .nil) ⟨_, ys, vz, rfl, rfl, ha, hz, rfl⟩) fun _ s10 ⟨_, H10, I10, _, e10⟩ => ?_
        subst e10
        refine ⟨m', hm, i + 1, ys ++ [vz], _, (I10.unpinned).weak hsh.2.symm wk, T.keep _ _ _ st7 fun b hb o e => (I10.pin (b, o) (List.mem_append_right _ (List.mem_append_right _ (mem_pinsAt hb e)))).1, fun b hb => ?_, w9⟩
        obtain ⟨o, e, d⟩ := T.obj _ _ st7 b hb
        exact (I10.pin (b, o) (List.mem_append_right _ (List.mem_append_right _ (mem_pinsAt hb e)))).2.1
      | false =>
        rw [if_neg (by decide)] at q8' ⊢
        obtain ⟨m', hm, w9⟩ := q8'
        refine ⟨m', hm, i + 1, ys, _, (I8'.unpinned).weak hsh.2.symm wk, T.keep _ _ _ st7 fun b hb o e => (I8'.pin (b, o) (List.mem_append_right _ (List.mem_append_right _ (mem_pinsAt hb e)))).1, fun b hb => ?_, w9⟩
        obtain ⟨o, e, d⟩ := T.obj _ _ st7 b hb
        exact (I8'.pin (b, o) (List.mem_append_right _ (List.mem_append_right _ (mem_pinsAt hb e)))).2.1
  exact codeAny_compStart_list (loop _ rfl) (T.self X.A 0 _ _ _ st4 (loop _ rfl))

theorem pe_compG {X : Cx} {elt iter tg : Expr} {ifs : List Expr} {g : TG} {tc : TT} {nt : Nat} {pos : Pos} {sc : Scope} {wi : TI} {te : TE} {N' : List Str} {js : List Nat} (hc : X.calm = true) (hi : PI X tg iter wi) (S : CScG X nt N' js sc)
    (hgt : ∀ fp s H, PG (cxC X N' sc fp s H) tg g) (hif : ∀ fp s H, IfsR (cxC X N' sc fp s H) ifs tc) (he : ∀ fp s H, PE (cxC X N' sc fp s H) elt te) (hs : ∀ x, foldedSetIterable iter X.env x = pure x := by intro _; rfl) : PE X (.ListComp elt [⟨tg, iter, ifs, 0⟩] sc pos) (tCompG nt js wi g tc te) := by
  refine .mk ?_
  intro pins s σ H Q I h
  rw [eval_ListComp]
  refine comp_coreG (use := none) hc hi S hgt hif he hs I h fun acc C H' s' I5 fc ⟨m, hn⟩ q => ?_
  refine ⟨m, hn, fun h' sb => ?_⟩
  exact ⟨.ref acc, H', I5.turned (it := C) (t' := s'.toks) (fun b o hb q => sb.extBut b o hb q) fc.1 fc.2.1 fc.2.2.2.1 fc.2.2.2.2.1 fc.2.2.2.2.2, rfl, q⟩
theorem CScG.of {X : Cx} {nt : Nat} {N' : List Str} {js : List Nat} {sc : Scope} (k : sc.kind = .function := by rfl) (n : (sc.names.all fun y => y.2 != .cell) = true := by decide +kernel)
    (l : (sc.names.all fun y => y.2 != .local || sc.names.lookup y.1 == some .local) = true := by decide +kernel) (al : (sc.names.all fun y => y.2 != .free || (X.env.cells.lookup y.1).isSome) = true := by rfl)
    (ln : N'.length = nt + js.length := by rfl) (cp : (N'.drop nt).map some = js.map (fun j => X.N[j]?) := by rfl) (ck : ((N'.drop nt).all fun y => X.env.kindOf y == some .cell && sc.names.lookup y == some .free) = true := by rfl) : CScG X nt N' js sc := by
  have n' : ∀ y ∈ sc.names, y.2 ≠ .cell := fun y hy => by have := List.all_eq_true.mp n y hy; simpa using this
  refine ⟨k, n', names_ok l, closure_is al, al, ln, fun i j h => ?_, fun y h => ?_⟩
  · have := congrArg (fun l => l[i]?) cp
    simp only [List.getElem?_map, List.getElem?_drop, h, Option.map_some] at this
    cases e : N'[nt + i]? with
    | none => rw [e] at this; cases this
    | some y => rw [e] at this; exact Option.some.inj this
  · have := List.all_eq_true.mp ck y h
    simpa using this
/-- a comprehension over a list that is reckoned with a change of the heap -/
def LCK (K : PySem.W.Frag) (js : List Nat) (te : TE) (σ : St) (Q : VK) (x : V) (H1 : Hp) : Prop := tComp js (iList K fun _ H R => R x H) te σ H1 Q
theorem LCK.of {K : PySem.W.Frag} {js : List Nat} {a : Addr} {xs : List V} {es : List PyData} {te : TE} {σ : St} {H : Hp} {Q : VK} (ha : H a = some (.lst xs)) (hn : es.length = xs.length) (hz : es.length ≤ sizeLine) (hL : noLAll es = true)
    (step : ∀ (i : Nat) x e H', xs[i]? = some x → es[i]? = some e → Same H H' → ∀ R : VK, (∀ v H'', Same H' H'' → At H'' e v → R v H'') → te (some x :: capS js σ) H' R)
    (fin : ∀ acc ys H', Same H H' → H acc = none → H' acc = some (.lst ys) → AtAll (hid acc H') es ys → Q (.ref acc) H') : LCK K js te σ Q (.ref a) H := comp_LV (fun R h => h) ha hn hz hL step fin
end L2
namespace L2
open PySem PySem.Spec PyProof.Rows
section
variable {prog : Program} {w : World} {A : Around} {E : Value → Shared → Prop} {s : Shared}
end
/-! ### enumerate of a tuple -/
section
variable {X : Cx}
end
end L2
namespace L2
open PySem PySem.Spec PyProof.Rows
/-! ### zip of two things, whatever they are drawn from -/
structure Zap (z TI TO i1 i2 : Addr) (f1 f2 : List Addr) : Prop where
  a1 : TI ≠ z
  a2 : TO ≠ z
  a3 : TI ≠ TO
  a4 : i1 ≠ z
  a5 : i2 ≠ z
  a6 : TO ≠ i1
  a7 : TO ≠ i2
  a8 : i1 ≠ i2
  b1 : z ∉ f1
  b2 : z ∉ f2
  b3 : TO ∉ f1
  b4 : TO ∉ f2
  b5 : i1 ∉ f2
  b6 : i2 ∉ f1
section
variable {prog : Program} {w : World} {A : Around} {E : Value → Shared → Prop} {s : Shared}
theorem stB {b : Addr} {h h' : Heap} {f : List Addr} (sb : Heap.SameBut b h h') (hb : b ∉ f) : ∀ c ∈ f, ∀ o, h.get? c = some o → h'.get? c = some o := fun c hc o e => sb.extBut c o (fun z => hb (z ▸ hc)) e
theorem zip_draw {z TI TO i1 i2 : Addr} {f1 f2 : List Addr} {n1 n2 k : Nat} {P1 P2 : Nat → Value → Prop} {S1 S2 : Nat → Heap → Prop} {a b : Value} {Q : Value → Shared → Prop} (Z : Zap z TI TO i1 i2 f1 f2) (D1 : Draws prog w A i1 f1 n1 P1 S1) (D2 : Draws prog w A i2 f2 n2 P2 S2)
    (hz : IsZip s.heap z TI TO .none) (hi : IsPair s.heap TI (.ref i1) (.ref i2)) (ho : IsPair s.heap TO a b) (s1 : S1 k s.heap) (s2 : S2 k s.heap) (k1 : k < n1) (k2 : k < n2)
    (q : ∀ x y h' tk, P1 k x → P2 k y → IsZip h' z TI TO (rawInt s.heap.objs.size) → IsPair h' TO x y → S1 (k + 1) h' → S2 (k + 1) h' → IsPair h' s.heap.objs.size x y → h'.objs.size = s.heap.objs.size + 1 → (∀ c o, c ≠ z → c ≠ TO → c ≠ i1 → c ≠ i2 → s.heap.get? c = some o → h'.get? c = some o) → Q (.ref s.heap.objs.size) { s with heap := h', toks := tk }) :
    wpAny (model prog w) A (Builtin.«zip.__next__» ⟨[.ref z], []⟩) (fun fin s' => ∃ v, fin = .done (.ret v) ∧ Q v s') E s := by
  show wpAny _ _ (field (.ref z) 2 >>= _) _ _ _; refine wpAny_bind (wpAny_field hz rfl (x := .bool false) rfl ?_)
  show wpAny _ _ (field (.ref z) 3 >>= _) _ _ _; refine wpAny_bind (wpAny_field hz rfl (x := .ref TI) rfl (wpAny_bind (wpAny_seqItems hi rfl ?_)))
  show wpAny _ _ (Builtin.SmallTypes.ownedTupleIsFree (.ref z) >>= _) _ _ _; unfold Builtin.SmallTypes.ownedTupleIsFree
  refine wpAny_bind (wpAny_bind (wpAny_field hz rfl (x := .none) rfl (wpAny_pure ?_))); simp only [if_true]
  refine wpAny_bind (wpAny_rule (wpAny_bind (wpAny_field hz rfl (x := .ref TO) rfl (wpAny_bind (wpAny_setField_rec hz (by simp) fun hA zA sA => ?_)))))
  replace zA : IsZip hA z TI TO .ellipsis := zA
  refine wpAny_bind ?_; simp only [List.zipIdx_cons, List.zipIdx_nil, List.forIn_cons, List.forIn_nil]
  refine wpAny_bind (wpAny_bind (wpAny_onRaise ?_)); show wpAny _ _ (Builtin.SmallTypes.nextOf (.ref i1) >>= _) _ _ _
  refine wpAny_bind (D1.item k _ _ _ k1 (D1.frame _ _ _ s1 (stB sA Z.b1)) fun x hB tB pB stb sB => wpAny_pure ?_)
  have oB : IsPair hB TO a b := sB.extBut _ _ Z.a6 (sA.extBut _ _ Z.a2 ho)
  have uB : S2 k hB := D2.frame _ _ _ (D2.frame _ _ _ s2 (stB sA Z.b2)) (stB sB Z.b5)
  refine wpAny_bind (wpAny_seqItems oB rfl (wpAny_bind (wpAny_updateSeq_pair oB fun hC oC sC => ?_)))
  replace oC : IsPair hC TO x b := oC
  refine wpAny_bind (wpAny_letGo (wpAny_pure (wpAny_bind (wpAny_bind (wpAny_onRaise ?_))))); show wpAny _ _ (Builtin.SmallTypes.nextOf (.ref i2) >>= _) _ _ _
  refine wpAny_bind (D2.item k _ _ _ k2 (D2.frame _ _ _ uB (stB sC Z.b4)) fun y hD tD pD std sD => wpAny_pure ?_)
  have oD : IsPair hD TO x b := sD.extBut _ _ Z.a7 oC
  refine wpAny_bind (wpAny_seqItems oD rfl (wpAny_bind (wpAny_updateSeq_pair oD fun hF oF sF => ?_)))
  replace oF : IsPair hF TO x y := oF
  refine wpAny_bind (wpAny_letGo (wpAny_pure (wpAny_pure (wpAny_bind (wpAny_seqItems oF rfl (wpAny_bind (wpAny_newTuple ?_)))))))
  have zF : IsZip hF z TI TO .ellipsis := sF.extBut _ _ Z.a2.symm (sD.extBut _ _ Z.a5.symm (sC.extBut _ _ Z.a2.symm (sB.extBut _ _ Z.a4.symm zA)))
  have size : hF.objs.size = s.heap.objs.size := by rw [sF.1, sD.1, sC.1, sB.1, sA.1]
  have lz : z < hF.objs.size := Heap.lt_size zF
  show wpAny _ _ (Builtin.SmallTypes.ownedTupleHandOut (.ref z) (.ref hF.objs.size) >>= _) _ _ _; unfold Builtin.SmallTypes.ownedTupleHandOut
  have zG : IsZip (hF.push { cls := .type "tuple", data := .seq #[x, y] }) z TI TO .ellipsis := Heap.get?_push_of_some _ zF
  refine wpAny_bind (wpAny_bind (wpAny_setField_rec zG (by simp) fun hI zI sI => ?_))
  replace zI : IsZip hI z TI TO (rawInt hF.objs.size) := zI
  refine wpAny_setField_rec zI (by simp) fun hJ zJ sJ => wpAny_pure ⟨_, rfl, ?_⟩
  replace zJ : IsZip hJ z TI TO (rawInt hF.objs.size) := zJ
  have up : ∀ c o, c ≠ z → hF.get? c = some o → hJ.get? c = some o := fun c o n e => sJ.extBut _ _ n (sI.extBut _ _ n (Heap.get?_push_of_some _ e))
  have tJ : IsPair hJ hF.objs.size x y := sJ.extBut _ _ (Nat.ne_of_gt lz) (sI.extBut _ _ (Nat.ne_of_gt lz) (Heap.get?_push_size _ rfl))
  have szJ : hJ.objs.size = hF.objs.size + 1 := by rw [sJ.1, sI.1, Heap.size_push]
  have kB : ∀ c o, c ≠ z → c ≠ TO → c ≠ i1 → c ≠ i2 → s.heap.get? c = some o → hF.get? c = some o := fun c o n1 n2 n3 n4 e => sF.extBut _ _ n2 (sD.extBut _ _ n4 (sC.extBut _ _ n2 (sB.extBut _ _ n3 (sA.extBut _ _ n1 e))))
  have u1 : S1 (k + 1) hF := D1.frame _ _ _ (D1.frame _ _ _ (D1.frame _ _ _ stb (stB sC Z.b3)) (stB sD Z.b6)) (stB sF Z.b3)
  have u2 : S2 (k + 1) hF := D2.frame _ _ _ std (stB sF Z.b4)
  show Q (.ref hF.objs.size) _
  rw [size] at zJ tJ szJ ⊢
  exact q x y hJ tD pB pD zJ (up _ _ Z.a2 oF) (D1.frame _ _ _ u1 fun c hc o e => up c o (fun z' => Z.b1 (z' ▸ hc)) e) (D2.frame _ _ _ u2 fun c hc o e => up c o (fun z' => Z.b2 (z' ▸ hc)) e) tJ szJ fun c o n1 n2 n3 n4 e => up c o n1 (kB c o n1 n2 n3 n4 e)
/-- one of the two has come to its end -/
theorem zip_drawE {z TI TO i1 i2 : Addr} {f1 f2 : List Addr} {n1 n2 k : Nat} {P1 P2 : Nat → Value → Prop} {S1 S2 : Nat → Heap → Prop} {a b : Value} {Q : Fin → Shared → Prop} (Z : Zap z TI TO i1 i2 f1 f2) (D1 : Draws prog w A i1 f1 n1 P1 S1) (D2 : Draws prog w A i2 f2 n2 P2 S2)
    (hz : IsZip s.heap z TI TO .none) (hi : IsPair s.heap TI (.ref i1) (.ref i2)) (ho : IsPair s.heap TO a b) (s1 : S1 k s.heap) (s2 : S2 k s.heap) (kk : k = n1 ∨ (k < n1 ∧ k = n2))
    (q : ∀ h' e, (∀ c o, c ≠ z → c ≠ TO → c ≠ i1 → c ≠ i2 → s.heap.get? c = some o → h'.get? c = some o) → (∃ o, h'.get? e = some o ∧ o.cls = .type "StopIteration") → ∀ tk, E (.ref e) { s with heap := h', toks := tk }) :
    wpAny (model prog w) A (Builtin.«zip.__next__» ⟨[.ref z], []⟩) Q E s := by
  show wpAny _ _ (field (.ref z) 2 >>= _) _ _ _; refine wpAny_bind (wpAny_field hz rfl (x := .bool false) rfl ?_)
  show wpAny _ _ (field (.ref z) 3 >>= _) _ _ _; refine wpAny_bind (wpAny_field hz rfl (x := .ref TI) rfl (wpAny_bind (wpAny_seqItems hi rfl ?_)))
  show wpAny _ _ (Builtin.SmallTypes.ownedTupleIsFree (.ref z) >>= _) _ _ _; unfold Builtin.SmallTypes.ownedTupleIsFree
  refine wpAny_bind (wpAny_bind (wpAny_field hz rfl (x := .none) rfl (wpAny_pure ?_))); simp only [if_true]
  refine wpAny_bind (wpAny_rule (wpAny_bind (wpAny_field hz rfl (x := .ref TO) rfl (wpAny_bind (wpAny_setField_rec hz (by simp) fun hA zA sA => ?_)))))
  replace zA : IsZip hA z TI TO .ellipsis := zA
  refine wpAny_bind ?_; simp only [List.zipIdx_cons, List.zipIdx_nil, List.forIn_cons, List.forIn_nil]
  refine wpAny_bind (wpAny_bind (wpAny_onRaise ?_)); show wpAny _ _ (Builtin.SmallTypes.nextOf (.ref i1) >>= _) _ _ _
  rcases kk with e1 | ⟨k1, e2⟩
  · have s1' := s1
    rw [e1] at s1'
    refine wpAny_bind (D1.done _ _ _ (D1.frame _ _ _ s1' (stB sA Z.b1)) fun hB x sB hx => ?_)
    obtain ⟨ox, gx, cx⟩ := hx
    have zB : IsZip hB z TI TO .ellipsis := sB _ _ Z.a4.symm zA
    have nx : x ≠ z := fun y => by subst y; rw [zB] at gx; cases gx; exact absurd (show Value.type "zip" = Value.type "StopIteration" from cx) (by decide)
    refine wpAny_setField_rec zB (by simp) fun hC _ sC => q hC x (fun c o m1 _ m3 _ e => sC.extBut _ _ m1 (sB _ _ m3 (sA.extBut _ _ m1 e))) ⟨ox, sC.extBut _ _ nx gx, cx⟩ _
  · refine wpAny_bind (D1.item k _ _ _ k1 (D1.frame _ _ _ s1 (stB sA Z.b1)) fun x hB tB pB stb sB => wpAny_pure ?_)
    have oB : IsPair hB TO a b := sB.extBut _ _ Z.a6 (sA.extBut _ _ Z.a2 ho)
    have uB : S2 k hB := D2.frame _ _ _ (D2.frame _ _ _ s2 (stB sA Z.b2)) (stB sB Z.b5)
    refine wpAny_bind (wpAny_seqItems oB rfl (wpAny_bind (wpAny_updateSeq_pair oB fun hC oC sC => ?_)))
    refine wpAny_bind (wpAny_letGo (wpAny_pure (wpAny_bind (wpAny_bind (wpAny_onRaise ?_))))); show wpAny _ _ (Builtin.SmallTypes.nextOf (.ref i2) >>= _) _ _ _
    have uC : S2 n2 hC := by rw [← e2]; exact D2.frame _ _ _ uB (stB sC Z.b4)
    refine wpAny_bind (D2.done _ _ _ uC fun hD v sD hx => ?_)
    obtain ⟨ox, gx, cx⟩ := hx
    have zD : IsZip hD z TI TO .ellipsis := sD _ _ Z.a5.symm (sC.extBut _ _ Z.a2.symm (sB.extBut _ _ Z.a4.symm zA))
    have nx : v ≠ z := fun y => by subst y; rw [zD] at gx; cases gx; exact absurd (show Value.type "zip" = Value.type "StopIteration" from cx) (by decide)
    refine wpAny_setField_rec zD (by simp) fun hF _ sF => q hF v (fun c o m1 m2 m3 m4 e => sF.extBut _ _ m1 (sD _ _ m4 (sC.extBut _ _ m2 (sB.extBut _ _ m3 (sA.extBut _ _ m1 e))))) ⟨ox, sF.extBut _ _ nx gx, cx⟩ _
theorem zip_go {z TI TO i1 i2 : Addr} {f1 f2 : List Addr} {n1 n2 k : Nat} {P1 P2 : Nat → Value → Prop} {S1 S2 : Nat → Heap → Prop} {a b : Value} {Q : Option Value → Shared → Prop} (Z : Zap z TI TO i1 i2 f1 f2) (D1 : Draws prog w A.in1 i1 f1 n1 P1 S1) (D2 : Draws prog w A.in1 i2 f2 n2 P2 S2)
    (hz : IsZip s.heap z TI TO .none) (hi : IsPair s.heap TI (.ref i1) (.ref i2)) (ho : IsPair s.heap TO a b) (s1 : S1 k s.heap) (s2 : S2 k s.heap) (k1 : k < n1) (k2 : k < n2)
    (q : ∀ x y h' tk, P1 k x → P2 k y → IsZip h' z TI TO (rawInt s.heap.objs.size) → IsPair h' TO x y → S1 (k + 1) h' → S2 (k + 1) h' → IsPair h' s.heap.objs.size x y → h'.objs.size = s.heap.objs.size + 1 → (∀ c o, c ≠ z → c ≠ TO → c ≠ i1 → c ≠ i2 → s.heap.get? c = some o → h'.get? c = some o) → Q (some (.ref s.heap.objs.size)) { s with heap := h', toks := tk }) :
    wpAny (model prog w) A (pyNext (.ref z)) Q E s := by
  have ty : s.TypeIs (.ref z) "zip" := ⟨_, hz, rfl⟩
  unfold pyNext
  refine wpAny_bind (wpAny_attempt (wpAny_callSpecial?_slot (name := Str.ofString "__next__") ty F.slot_zip_next (wpAny_call_entry F.slot_zip_next ty F.entry_zip_next ?_ (F.args_zip_next_1 _))))
  exact zip_draw Z D1 D2 hz hi ho s1 s2 k1 k2 fun x y h' tk p1 p2 v1 v2 v3 v4 v5 v6 v7 => wpAny_pure (q x y h' tk p1 p2 v1 v2 v3 v4 v5 v6 v7)
theorem zip_out {z TI TO i1 i2 : Addr} {f1 f2 : List Addr} {n1 n2 k : Nat} {P1 P2 : Nat → Value → Prop} {S1 S2 : Nat → Heap → Prop} {a b : Value} {Q : Option Value → Shared → Prop} (Z : Zap z TI TO i1 i2 f1 f2) (D1 : Draws prog w A.in1 i1 f1 n1 P1 S1) (D2 : Draws prog w A.in1 i2 f2 n2 P2 S2)
    (hz : IsZip s.heap z TI TO .none) (hi : IsPair s.heap TI (.ref i1) (.ref i2)) (ho : IsPair s.heap TO a b) (s1 : S1 k s.heap) (s2 : S2 k s.heap) (kk : k = n1 ∨ (k < n1 ∧ k = n2))
    (q : ∀ h' tk, (∀ c o, c ≠ z → c ≠ TO → c ≠ i1 → c ≠ i2 → s.heap.get? c = some o → h'.get? c = some o) → Q none { s with heap := h', toks := tk }) : wpAny (model prog w) A (pyNext (.ref z)) Q E s := by
  have ty : s.TypeIs (.ref z) "zip" := ⟨_, hz, rfl⟩
  unfold pyNext
  refine wpAny_bind (wpAny_attempt (wpAny_callSpecial?_slot (name := Str.ofString "__next__") ty F.slot_zip_next (wpAny_call_entry F.slot_zip_next ty F.entry_zip_next ?_ (F.args_zip_next_1 _))))
  refine zip_drawE Z D1 D2 hz hi ho s1 s2 kk fun h' e k hx tk => ?_
  obtain ⟨o, g, c⟩ := hx
  exact wpAny_bind (wpAny_isInstance (T := "StopIteration") (b := true) ⟨o, g, c⟩ isSubtype_stop (wpAny_pure (q _ tk k)))
end
/-! ### zip of two tuples, made -/
end L2
namespace L2
open PySem PySem.Spec PyProof.Rows
theorem Inv.turnedL {X : Cx} {pins : List (Addr × Obj)} {σ : St} {H : Hp} {s : Shared} {h' : Heap} {t' : Nat} {fp : List Addr} (I : Inv X pins σ H s) (k : ∀ b o, b ∉ fp → s.heap.get? b = some o → h'.get? b = some o) (hf : ∀ b ∈ fp, FpOk X pins H b) :
    Inv X pins σ H { s with heap := h', toks := t' } := by
  have ni : ∀ b u, H b = some u → b ∉ fp := fun b u q hb => by rw [(hf b hb).1] at q; cases q
  refine I.step (g' := s.gens) (d' := s.drawn) (ch := fp) (fun b hb => ?_) (fun b o _ _ hc q _ => k b o hc q) (fun b o _ _ hc q _ => ⟨o.slots, k b o hc q⟩) (fun _ _ _ _ n => n) (fun b o hc q => ⟨o, k b o hc q⟩) (fun _ _ q => q) (fun _ _ _ q => q)
    (fun b ps q => ⟨#[], by rw [q]; simp⟩) (fun m hm => ?_) (fun b u q => ?_) I.bare
  · obtain ⟨_, f1, _, f3, f4, f5⟩ := hf b hb
    exact ⟨f3, (hf b hb).2.1, f4, f5⟩
  · obtain ⟨o, es, ep, ho, r⟩ := hm
    exact ⟨o, es, ep, k _ o (fun hb => (hf _ hb).2.1 rfl) ho, r⟩
  · refine (I.hok b u q).stay (fun c v hc z => k c v ?_ z) (fun _ z => z) fun _ _ z => z
    rcases hc with z | z
    · rw [z]; exact ni b u q
    · exact ni c _ z
structure Zst (z TI TO i1 i2 a b : Addr) (i : Nat) (h : Heap) : Prop where
  z : IsZip h z TI TO .none
  p : IsPair h TI (.ref i1) (.ref i2)
  o : ∃ x y, IsPair h TO x y
  l : h.IsTupleIter i1 a i
  r : h.IsTupleIter i2 b i
section
variable {X : Cx}
end
end L2
namespace L2
open PySem PySem.Spec PyProof.Rows
/-! ### a comprehension of two clauses, each over a name, without a test -/
abbrev two (elt t1 i1 t2 i2 : Expr) (sc : Scope) (pos : Pos) : Expr := .ListComp elt [⟨t1, i1, [], 0⟩, ⟨t2, i2, [], 0⟩] sc pos
section
variable {prog : Program} {w : World} {A : Around} {R : Result → Shared → Prop} {s : Shared} {elt t1 i1 t2 i2 : Expr} {sc : Scope} {pos : Pos} {it acc : Value} {env : Env}
end
end L2
namespace L2
open PySem PySem.Spec PyProof.Rows
/-! ### readings: pairs out of zip and enumerate, a tuple at the top of a module, rows of rows -/
theorem pg_tupK {X : Cx} {K : PySem.W.Frag} {pos : Pos} {es : List Expr} {k : Nat} {t : TGs} {n : Nat} (hK : X.K = K) (hc : X.calm = true) (h : PGs X es t)
    (hn : (assignEach es X.env).length = n := by rfl) (hst : (assignEach es X.env).findIdx? (·.1) = none := by rfl) : PG X (.Tuple es k pos) (gTup K n t) := by
  subst hK
  exact pg_tup hc h hn hst
theorem compP_core {K : PySem.W.Frag} {js : List Nat} {J : It} {te : TE} {σ : St} {H : Hp} {Q : VK} {acc : Addr} {es : List PyData} (xv yv : Nat → V) (hz : es.length ≤ sizeLine) (hL : noLAll es = true) (hacc : H acc = none)
    (go : ∀ i H', i < es.length → Same H H' → J.go i H') (yl : ∀ i H' v H'', i < es.length → Same H H' → J.yld i H' v H'' → ∃ p, H' p = none ∧ v = .ref p ∧ H'' = upd H' p (.tup [xv i, yv i])) (st : ∀ H', Same H H' → J.stop es.length H')
    (val : ∀ (i : Nat) e H', es[i]? = some e → Same H H' → ∀ R : VK, (∀ v H'', Same H' H'' → At H'' e v → R v H'') → te (some (xv i) :: some (yv i) :: capS js σ) H' R)
    (fin : ∀ ys H', Same H H' → H' acc = some (.lst ys) → AtAll (hid acc H') es ys → Q (.ref acc) H') :
    ∃ W : Nat → Nat → List V → Hp → Prop, (∃ m, W 0 m [] (upd H acc (.lst []))) ∧ ∀ i m ys H2, W i m ys H2 →
      (J.stop i H2 ∧ Q (.ref acc) H2) ∨ (J.go i H2 ∧ ∀ x H3, J.yld i H2 x H3 → gTup K 2 (gCons (gName 0) (gCons (gName 1) gNil)) x (List.replicate 2 none ++ capS js σ) H3 fun σ' H' => (σ'.drop 2 = capS js σ ∧ σ'.length = (List.replicate 2 (none : Option V) ++ capS js σ).length) ∧ tAll σ' H' fun b H'' =>
        if b = true then te σ' H'' fun y H4 => H4 acc = some (.lst ys) ∧ ys.length < sizeLine ∧ ∃ m', m' < m ∧ W (i + 1) m' (ys ++ [y]) (upd H4 acc (.lst (ys ++ [y]))) else ∃ m', m' < m ∧ W (i + 1) m' ys H'') := by
  refine ⟨fun i m ys H2 => m = es.length - i ∧ i ≤ es.length ∧ AtAll (hid acc H2) (es.take i) ys ∧ Same H H2 ∧ H2 acc = some (.lst ys), ⟨_, rfl, Nat.zero_le _, AtAll.nil, same_new hacc _, upd_same⟩, ?_⟩
  rintro i m ys H2 ⟨rfl, hi, hA, sm, hy⟩
  by_cases hlt : i < es.length
  · refine .inr ⟨go i H2 hlt sm, fun x H3 y => ?_⟩
    obtain ⟨p, fp, rfl, rfl⟩ := yl i H2 x H3 hlt sm y
    refine ⟨p, _, rfl, SqT.of upd_same, rfl, _, _, rfl, _, _, rfl, rfl, ⟨rfl, by simp⟩, ?_⟩
    unfold tAll
    simp only [if_true]
    have e1 : es[i]? = some es[i] := List.getElem?_eq_getElem hlt
    have s3 : Same H2 (upd H2 p (.tup [xv i, yv i])) := same_new fp _
    refine val i _ _ e1 (sm.trans s3) _ fun v H4 s4 a4 => ⟨s4 _ _ (s3 _ _ hy), ?_, es.length - (i + 1), by omega, rfl, hlt, ?_, ?_, upd_same⟩
    · rw [hA.length, List.length_take]; omega
    · rw [hid_upd, List.take_succ, e1]
      exact AtAll.append (hA.mono (Same.hid (s3.trans s4))) (AtAll.cons (At.hidL (s4 _ _ (s3 _ _ hy)) _ _ (noLAll_get hL e1) a4) AtAll.nil)
    · refine fun b o q => ?_
      have nb : b ≠ acc := ne_of_none q hacc
      rw [upd_ne nb]
      exact s4 _ _ (s3 _ _ (sm _ _ q))
  · have e : i = es.length := by omega
    subst e
    rw [List.take_length] at hA
    exact .inl ⟨st _ sm, fin _ _ sm hy hA⟩
end L2
namespace L2
open PySem PySem.Spec PyProof.Rows
/-! ### isinstance(x, (list, tuple)) -/
section
variable {X : Cx} {pins : List (Addr × Obj)} {σ : St} {H : Hp} {s : Shared} {A : Around} {E : Value → Shared → Prop} {Q : Value → Shared → Prop} {b : Bool}
theorem isinst_two {x : V} {u t : Value} {tp : Addr} {its : List Value} (I : Inv X pins σ H s) (rx : RelV x u) (ty : TyOf X.K H x t) (htp : IsTup s.heap tp its.toArray) (e : PySem.W.kitAny X.K t its = some b) (h : ∀ tk, Q (.bool b) { s with toks := tk }) :
    wpAny (model X.prog X.w) A (call (.builtin "isinstance") [u, .ref tp]) Q E s := by
  obtain ⟨o, ho, hc, n, hd⟩ := htp
  obtain ⟨cls, dd, data, sl⟩ := o
  cases hc
  cases hd
  cases ty with
  | non => cases (show u = Value.none from rx); exact PySem.W.kia_tup PySem.W.kitx_none I.kIn True.intro ho e (fun z => nomatch z) h
  | bl y => cases (show u = Value.bool y from rx); exact PySem.W.kia_tup PySem.W.kitx_bool I.kIn True.intro ho e (fun z => nomatch z) h
  | int i => obtain ⟨t, q⟩ := (show ∃ t, u = Value.int i t from rx); cases q; exact PySem.W.kia_tup PySem.W.kitx_int I.kIn True.intro ho e (fun z => nomatch z) h
  | str y => obtain ⟨t, q⟩ := (show ∃ t, u = Value.str y t from rx); cases q; exact PySem.W.kia_tup PySem.W.kitx_str I.kIn True.intro ho e (fun z => nomatch z) h
  | flt y => obtain ⟨t, q⟩ := (show ∃ t, u = Value.float y t from rx); cases q; exact PySem.W.kia_tup PySem.W.kitx_float I.kIn True.intro ho e (fun z => nomatch z) h
  | @lst a xs ea =>
    cases (show u = Value.ref a from rx)
    obtain ⟨_, _, n, _, h1⟩ := (show ObjOk X.prog X.w H s.heap a (.lst xs) from I.hok a _ ea)
    exact PySem.W.kia_tup PySem.W.kitx_list I.kIn ⟨_, h1, rfl⟩ ho e (fun z => nomatch z) h
  | @frz a ob xs ea =>
    cases (show u = Value.ref a from rx)
    obtain ⟨_, _, _, n, _, h1⟩ := (show ObjOk X.prog X.w H s.heap a (.frz ob (.lst xs)) from I.hok a _ ea)
    exact PySem.W.kia_tup PySem.W.kitx_list I.kIn ⟨_, h1, rfl⟩ ho e (fun z => nomatch z) h
  | @tup a xs ea =>
    cases (show u = Value.ref a from rx)
    obtain ⟨_, _, _, p⟩ := (show ObjOk X.prog X.w H s.heap a (.tup xs) from I.hok a _ ea)
    obtain ⟨o, h1, h2, _⟩ := p
    exact PySem.W.kia_tup PySem.W.kitx_tuple I.kIn ⟨o, h1, h2⟩ ho e (fun z => nomatch z) h
  | @dK a kvs ea =>
    cases (show u = Value.ref a from rx)
    obtain ⟨_, _, vs, _, p⟩ := (show ObjOk X.prog X.w H s.heap a (.dK kvs) from I.hok a _ ea)
    obtain ⟨o, es, ep, h1, h2, _⟩ := p
    exact PySem.W.kia_tup PySem.W.kitx_dict I.kIn ⟨o, h1, h2.1⟩ ho e (fun z => nomatch z) h
  | @dT a kvs ea =>
    cases (show u = Value.ref a from rx)
    obtain ⟨_, _, xs, _, o, es, ep, h1, h2, _⟩ := (show ObjOk X.prog X.w H s.heap a (.dT kvs) from I.hok a _ ea)
    exact PySem.W.kia_tup PySem.W.kitx_dict I.kIn ⟨o, h1, h2.1⟩ ho e (fun z => nomatch z) h
  | @ins a C dx fs ea cl ha hn htk hm =>
    cases (show u = Value.ref a from rx)
    obtain ⟨mA, O, _⟩ := ins_get I.hok ea
    obtain ⟨od, J, _⟩ := O.look
    exact PySem.W.kia_tup (PySem.W.kitx_own (cl.get _) cl.hd ha hn htk hm) I.kIn J ho e (fun z => nomatch z) h
end
section
variable {X : Cx}
theorem kit_lt (K : PySem.W.Frag) (d : PyData) : PySem.W.kitAny K (.type (tyD d)) [.type "list", .type "tuple"] = some (isLst d || isTup d) := by
  show (match PySem.W.kitOne K (.type (tyD d)) (.type "list") with | some true => some true | some false => (match PySem.W.kitOne K (.type (tyD d)) (.type "tuple") with | some true => some true | some false => some false | none => none) | none => none) = _
  rw [kit_lst, kit_tup]
  cases isLst d <;> cases isTup d <;> rfl
theorem isi_lt : CallR X (.builtin "isinstance") (fun vs H Q => ∃ (v : V) (d : PyData) (p : Addr), vs = [v, .ref p] ∧ At H d v ∧ H p = some (.tup [.ty "list", .ty "tuple"]) ∧ Q (.bl (isLst d || isTup d)) H) := by
  refine .mk ?_
  intro pins s σ H vs us Q I r h
  obtain ⟨v, d, p, rfl, hv, hp, q⟩ := h
  obtain ⟨u, t, rfl, ru, rt⟩ := r.two
  cases (show t = Value.ref p from rt)
  obtain ⟨_, its, ri, ht⟩ := (show ObjOk X.prog X.w H s.heap p (.tup [.ty "list", .ty "tuple"]) from I.hok p _ hp)
  have e : its = [Value.type "list", Value.type "tuple"] := by
    obtain ⟨a, b, rfl, ra, rb⟩ := ri.two
    cases (show a = Value.type "list" from ra)
    cases (show b = Value.type "tuple" from rb)
    rfl
  subst e
  exact isinst_two I ru (hv.ty (K := X.K)) ht (kit_lt X.K d) fun tk => ⟨.bl (isLst d || isTup d), H, I.tok tk, rfl, q⟩
end
/-! ### a comprehension with any target, without a test -/
end L2
namespace L2
open PySem PySem.Spec PyProof.Rows
section
variable {X : Cx}
/-- a row that is not reached -/
def tNo : TS := fun _ _ _ => False
theorem ps_no {st : Stmt} : PS X st tNo := .mk <| fun _ _ _ _ _ _ h => h.elim
end
end L2
namespace L2
open PySem PySem.Spec PyProof.Rows
/-! ### f-strings -/
def fmtV : V → Option Str
  | .int i => if i.natAbs.log2 < 1920 then some (Str.ofString (toString i)) else none
  | .str z => some z
  | _ => none
def tFv (te : TE) : TE := fun σ H Q => te σ H fun x H1 => ∃ z, fmtV x = some z ∧ z.length ≤ sizeLine ∧ Q (.str z) H1
abbrev TJ := Str → St → Hp → (Str → Hp → Prop) → Prop
section
variable {X : Cx}
/-- the parts of an f-string, put behind what there is -/
structure PJ (X : Cx) (es : List Expr) (t : TJ) : Prop where
  mk ::
  go : ∀ (acc : Str) (pins : List (Addr × Obj)) (s : Shared) (σ : St) (H : Hp) (R : Str → Hp → Prop), Inv X pins σ H s → t acc σ H R →
    Joins (model X.prog X.w) X.A X.xe (evalEach es X.env) acc (fun out s' => ∃ H', Inv X pins σ H' s' ∧ R out H') s
def tJ0 : TJ := fun acc _ H R => R acc H
def tJ1 (te : TE) (t : TJ) : TJ := fun acc σ H R => te σ H fun x H1 => ∃ y, x = .str y ∧ (acc ++ y).length ≤ sizeLine ∧ t (acc ++ y) σ H1 R
def tJs (t : TJ) : TE := fun σ H Q => t Str.empty σ H fun out H' => out.length ≤ sizeLine ∧ Q (.str out) H'
theorem Joins.mono {M : Model} {A : Around} {E : Value → Shared → Prop} : ∀ {ps : List (Sem Value)} {acc : Str} {Q Q' : Str → Shared → Prop} {s : Shared}, (∀ o s', Q o s' → Q' o s') → Joins M A E ps acc Q s → Joins M A E ps acc Q' s
  | [], _, _, _, _, h, j => h _ _ j
  | _ :: _, _, _, _, _, h, j => wpAny_mono j (fun _ _ ⟨y, t, e, l, r⟩ => ⟨y, t, e, l, Joins.mono h r⟩) fun _ _ e => e
/-! ### slices -/
def rSlS : V → Option Int → Option Int → Hp → VK → Prop := fun x lo hi H Q => ∃ z, x = .str z ∧ z.length ≤ sizeLine ∧ Q (.str (Txt.slice z lo hi)) H
theorem sl_str : SlR X rSlS := by
  refine .mk ?_
  intro pins s σ H x v vl vu lo hi sl Q I rx hs pl pu h
  obtain ⟨z, rfl, hz, q⟩ := h
  obtain ⟨t, rfl⟩ := rx
  have key : ∀ t' k, EP X pins σ Q (.str (Txt.slice z lo hi) t') { s with toks := k } := fun t' k => ⟨.str _, H, I.tok _, ⟨t', rfl⟩, q⟩
  refine ⟨"str", _, PySem.F.slot_str_getitem.lookup, typeIs_str _ _ _, ?_⟩
  cases pl with
  | none =>
    cases pu with
    | none => exact wpAny_getItem_str_slice (l := none) (u := none) (st := none) hs rfl (post_val_or_str ⟨Nat.le_trans (Txt.slice_le z _ _) hz, key⟩)
    | int j uj => exact wpAny_getItem_str_slice (l := none) (u := some (j, uj)) (st := none) hs rfl (post_val_or_str ⟨Nat.le_trans (Txt.slice_le z _ _) hz, key⟩)
  | int i ui =>
    cases pu with
    | none => exact wpAny_getItem_str_slice (l := some (i, ui)) (u := none) (st := none) hs rfl (post_val_or_str ⟨Nat.le_trans (Txt.slice_le z _ _) hz, key⟩)
    | int j uj => exact wpAny_getItem_str_slice (l := some (i, ui)) (u := some (j, uj)) (st := none) hs rfl (post_val_or_str ⟨Nat.le_trans (Txt.slice_le z _ _) hz, key⟩)
/-! ### sep.join(list of texts) -/
theorem strsAre_of : ∀ {zs : List Str} {us : List Value}, Vals (zs.map V.str) us → StrsAre us zs
  | [], _, .nil => .nil
  | z :: zs, _, .cons ⟨t, e⟩ r => by subst e; exact .cons z t (strsAre_of r)
theorem txtJoin (sep : Str) (zs : List Str) : Txt.join sep zs = Str.join sep zs := by
  match zs with
  | [] => exact (StrLaws.glued_eq_join sep [])
  | [x] => rfl
  | x :: y :: r => exact StrLaws.glued_eq_join sep (x :: y :: r)
def rJoin : V → List V → Hp → VK → Prop := fun x xs H Q => ∃ (sep : Str) (p : Addr) (zs : List Str), x = .str sep ∧ xs = [.ref p] ∧ H p = some (.lst (zs.map V.str)) ∧ (zs.map (·.length)).sum + zs.length * sep.length ≤ 16777216 ∧ Q (.str (Str.join sep zs)) H
theorem mt_join : MtR X "str.join" rJoin := by
  intro pins s σ H x xs v us Q I rx rs h
  obtain ⟨sep, p, zs, rfl, rfl, hp, hz, q⟩ := h
  obtain ⟨t, rfl⟩ := rx
  obtain ⟨u, rfl, ru⟩ := rs.one
  cases ru
  obtain ⟨_, its, n, rv, e1⟩ := (show ObjOk X.prog X.w H s.heap p (.lst (zs.map V.str)) from I.hok p _ hp)
  refine join_list (D := p) (items := its.toArray) ⟨_, e1, rfl, n, rfl⟩ (by simpa using strsAre_of rv) hz fun t' k => ⟨.str _, H, I.tok _, ⟨t', rfl⟩, ?_⟩
  rw [txtJoin]
  exact q
/-! ### int(text) -/
theorem call_intS : CallR X (.type "int") (fun vs H Q => ∃ (z : Str) (n : Int), vs = [.str z] ∧ PySem.intText? z = some n ∧ z.length ≤ 640 ∧ Q (.int n) H) := by
  refine .mk ?_
  intro pins s σ H vs us Q I r h
  obtain ⟨z, n, rfl, hn, hl, q⟩ := h
  obtain ⟨u, rfl, t, rfl⟩ := r.one
  exact PySem.W.KIN.call_text hn hl ⟨.int n, H, I.tok _, ⟨_, rfl⟩, q⟩
/-! ### a text walked sign by sign -/
def Its (z : Str) : It := ⟨fun i _ => i < z.length, fun i H x H' => H' = H ∧ ∃ c, z.cps[i]? = some c ∧ x = .str ⟨#[c]⟩, fun i _ => z.length ≤ i⟩
theorem turn_str {P : Program} {w : World} {K : PySem.W.Frag} {tg : Expr} (z : Str) (t : Tok) (it : Addr) : Turn P w K tg (Its z) [it] it (fun i h => h.IsStrIter it "str_ascii_iterator" z t i) where
  mem := by simp
  obj := fun i h st b hb => by
    have e : b = it := by simpa using hb
    subst e
    obtain ⟨o, e, c, d⟩ := st
    exact ⟨o, e, fun v z => by rw [d] at z; cases z⟩
  keep := fun i h h' st k => by
    obtain ⟨o, e, c, d⟩ := st
    exact ⟨o, k it (by simp) o e, c, d⟩
  item := by
    intro X hP hw hK hc i pins s σ H E I hf st hg
    subst hP hw hK
    have hx : z.cps[i]? = some (z.cps[i]'hg) := Array.getElem?_eq_getElem hg
    obtain ⟨f0, f1, f2, f3, f4, f5⟩ := hf it (by simp)
    refine wpAny_pyNext_ascii_item st hx fun h' st' sb => ?_
    have I1 : Inv X pins σ H { s with heap := h', toks := s.toks + 1 } := I.turned (fun b o hb e => (sb.2 b hb).trans e) f0 f1 f3 f4 f5
    obtain ⟨o, e, c, d⟩ := id st'
    exact ⟨_, rfl, go_of (s := { s with heap := h', toks := s.toks + 1 }) e c d (by decide) ⟨.str _, H, I1, ⟨_, rfl⟩, ⟨rfl, _, hx, rfl⟩, st', fun b hb => (hf b hb).1⟩⟩
  done := by
    intro X hP hw hK hc i pins s σ H E I hf st hg
    subst hP hw hK
    obtain ⟨f0, f1, f2, f3, f4, f5⟩ := hf it (by simp)
    exact wpAny_pyNext_ascii_end (I.ok.hd hc) st (Array.getElem?_eq_none hg) fun h' eb => ⟨rfl, I.turned (t' := s.toks) (fun b o hb e => eb b o hb e) f0 f1 f3 f4 f5⟩
  self := fun _ _ _ _ _ st h => wpAny_pyIter_striter_ascii st h
def iStr (tl : TE) : TI := fun σ H R => tl σ H fun x H1 => ∃ z, x = .str z ∧ z.cps.all (· < 128) = true ∧ R (Its z) H1
theorem pi_str {tg l : Expr} {tl : TE} (hl : PE X l tl) : PI X tg l (iStr tl) := by
  refine .mk ?_
  intro pins s σ H R I h
  refine thn (hl pins s σ H _ I h) fun v s1 ⟨x, H1, I1, r1, q1⟩ => ?_
  obtain ⟨z, e, ha, q⟩ := q1
  subst e
  obtain ⟨t, rfl⟩ := r1
  refine wpAny_pyIter_ascii ha ?_
  refine ⟨s1.heap.objs.size, [s1.heap.objs.size], _, _, H1, rfl, I1.kept (t' := s1.toks) fun b o e => Heap.get?_push_of_some _ e, turn_str z t _, ⟨_, Heap.get?_push_size _ rfl, rfl, rfl⟩, fun b hb => ?_, q⟩
  have e : b = s1.heap.objs.size := by simpa using hb
  subst e
  exact I1.fpOk (Nat.le_refl _) (I1.hok.fresh (Nat.le_refl _))
/-- a test that is a value's truth -/
def tTru (K : PySem.W.Frag) (ta : TE) : TT := fun σ H Q => ta σ H fun x H' => ∃ k, TruV K x H' k ∧ Q k H'
end
end L2
namespace L2
open PySem PySem.Spec PyProof.Rows
/-! ### texts as lists of signs -/
def tx (l : List Nat) : Str := ⟨l.toArray⟩
theorem tx_cps (l : List Nat) : (tx l).cps.toList = l := by simp [tx]
theorem tx_len (l : List Nat) : (tx l).length = l.length := by show l.toArray.size = _; simp
theorem tx_of {z : Str} {l : List Nat} (h : z.cps.toList = l) : z = tx l := by subst h; cases z; simp [tx]
theorem tx_app (a b : List Nat) : tx a ++ tx b = tx (a ++ b) := tx_of (by rw [PySem.W.KT.app_list, tx_cps, tx_cps])
theorem tx_inj {a b : List Nat} (h : tx a = tx b) : a = b := by have := congrArg (fun z : Str => z.cps.toList) h; simpa [tx_cps] using this
theorem tx_one (c : Nat) : (⟨#[c]⟩ : Str) = tx [c] := rfl
/-! ### numbers -/
def dg (n : Int) : List Nat := (Nat.toDigits 10 n.toNat).map Char.toNat
theorem str_dg {n : Int} (h : 0 ≤ n) : Str.ofString (toString n) = tx (dg n) := by
  obtain ⟨m, rfl⟩ := Int.eq_ofNat_of_zero_le h
  exact tx_of (PySem.W.KIN.signs_num m)
theorem dg_ne (n : Int) : dg n ≠ [] := by
  intro e
  have := @Nat.length_toDigits_pos 10 n.toNat
  rw [List.map_eq_nil_iff.mp e] at this
  exact absurd this (by decide)
theorem dg_pos (n : Int) : 1 ≤ (dg n).length := by
  have := dg_ne n
  cases h : dg n with
  | nil => exact absurd h this
  | cons a r => simp
theorem dg_len {n : Int} {k : Nat} (hk : 0 < k) (h1 : n < 10 ^ k) : (dg n).length ≤ k := by
  unfold dg
  rw [List.length_map]
  refine (Nat.length_toDigits_le_iff (by decide) hk).mpr ?_
  by_cases h0 : 0 ≤ n
  · have : (n.toNat : Int) < ((10 ^ k : Nat) : Int) := by rw [Int.toNat_of_nonneg h0]; simpa using h1
    exact_mod_cast this
  · rw [show n.toNat = 0 by omega]
    exact Nat.pow_pos (by decide)
theorem dg_all (n : Int) : PySem.NumText.AllDigits (dg n) := by
  intro c hc
  obtain ⟨ch, hch, e⟩ := List.mem_map.mp hc
  have r := digit_range (Nat.isDigit_of_mem_toDigits (by decide) (by decide) hch)
  rw [← e]
  exact r
theorem dg_read {n : Int} (h0 : 0 ≤ n) (h1 : n < 10 ^ 13) : PySem.intText? (tx (dg n)) = some n := by
  have e := PySem.intText_digits (x := tx (dg n)) (by rw [tx_cps]; exact dg_all n) (by rw [tx_cps]; exact dg_ne n) (by rw [tx_len]; exact Nat.le_trans (dg_len (k := 13) (by decide) h1) (by decide))
  rw [e, tx_cps]
  show some (((PySem.NumText.digitsVal ((Nat.toDigits 10 n.toNat).map Char.toNat) : Nat) : Int)) = some n
  rw [PySem.W.KIN.val_back, Int.toNat_of_nonneg h0]
theorem dc_zero : ∀ d : Nat, d < 10 → (Nat.digitChar d).toNat = 48 → d = 0 := by decide
theorem toD_head (m : Nat) : ∀ (r : List Char), Nat.toDigits 10 m = '0' :: r → m = 0 ∧ r = [] := by
  induction m using Nat.strongRecOn with
  | _ m ih =>
    intro r h
    by_cases hm : m < 10
    · rw [Nat.toDigits_of_lt_base hm] at h
      injection h with h1 h2
      refine ⟨dc_zero m hm ?_, h2.symm⟩
      rw [h1]; decide
    · rw [Nat.toDigits_eq_if (by decide), if_neg hm] at h
      have hp := @Nat.length_toDigits_pos 10 (m / 10)
      cases hd : Nat.toDigits 10 (m / 10) with
      | nil => rw [hd] at hp; exact absurd hp (by decide)
      | cons a t =>
        rw [hd] at h
        injection h with h1 h2
        subst h1
        have := (ih (m / 10) (by omega) t hd).1
        omega
/-- no nought ahead -/
theorem dg_head {n : Int} (h0 : 0 ≤ n) {r : List Nat} (h : dg n = 48 :: r) : n = 0 ∧ r = [] := by
  unfold dg at h
  cases hd : Nat.toDigits 10 n.toNat with
  | nil => rw [hd] at h; cases h
  | cons a t =>
    rw [hd, List.map_cons] at h
    injection h with h1 h2
    have ea : a = '0' := by
      have : a.toNat = '0'.toNat := h1
      exact Char.toNat_inj.mp this
    subst ea
    obtain ⟨e1, e2⟩ := toD_head _ _ hd
    subst e2
    exact ⟨by omega, h2.symm⟩
/-- a figure -/
def isF (c : Nat) : Bool := decide (48 ≤ c ∧ c ≤ 57)
theorem figs (c : Nat) : (!(Builtin.Str.occurrences (Str.ofString "0123456789") ⟨#[c]⟩ 0 (Str.ofString "0123456789").length 1).isEmpty) = isF c := by
  rw [StrLaws.found_one]
  have e : (Str.ofString "0123456789").cps.toList = [48, 49, 50, 51, 52, 53, 54, 55, 56, 57] := by decide +kernel
  rw [e]
  unfold isF
  by_cases h : 48 ≤ c ∧ c ≤ 57
  · rw [decide_eq_true h]
    have : c = 48 ∨ c = 49 ∨ c = 50 ∨ c = 51 ∨ c = 52 ∨ c = 53 ∨ c = 54 ∨ c = 55 ∨ c = 56 ∨ c = 57 := by omega
    rcases this with h | h | h | h | h | h | h | h | h | h <;> subst h <;> decide
  · rw [decide_eq_false h]
    refine decide_eq_false fun m => h ?_
    simp only [List.mem_cons, List.not_mem_nil, or_false] at m
    omega
theorem log_small {m : Nat} (h : m ≤ 1000000000000) : m.log2 < 1920 := by
  by_cases e : m = 0
  · subst e; decide
  · rw [Nat.log2_lt e]
    exact Nat.lt_of_le_of_lt h (Nat.lt_of_lt_of_le (show 1000000000000 < 2 ^ 40 by decide) (Nat.pow_le_pow_right (by decide) (by decide)))
/-! ### slices -/
theorem slice_min (x : Str) (i j : Int) (hj : 0 ≤ j) : Txt.slice x (some i) (some j) = Txt.slice x (some i) (some (min j x.length)) := by
  have e : Builtin.Str.strSliceIndices (some i) (some j) 1 x.length = Builtin.Str.strSliceIndices (some i) (some (min j x.length)) 1 x.length := by
    unfold Builtin.Str.strSliceIndices
    simp only [show (1 : Int) > 0 by decide, if_true]
    have h1 : ¬ j < 0 := by omega
    have h2 : ¬ min j (x.length : Int) < 0 := by omega
    rw [if_neg h1, if_neg h2]
    congr 1
    omega
  unfold Txt.slice
  rw [e]
theorem slice_tx (l : List Nat) {i j : Nat} (h : i ≤ l.length) (hij : i ≤ j) : Txt.slice (tx l) (some (i : Int)) (some (j : Int)) = tx ((l.drop i).take (j - i)) := by
  rw [slice_min _ _ _ (by omega), tx_len]
  have hm : (min (j : Int) (l.length : Int)) = ((min j l.length : Nat) : Int) := by omega
  rw [hm]
  have e := eq_of_beq (slice_closesL (x := tx l) (i := (i : Int)) (j := ((min j l.length : Nat) : Int)) (by omega) (by omega) (by rw [tx_len]; omega))
  rw [e]
  refine congrArg Str.mk (congrArg List.toArray ?_)
  rw [tx_cps, Int.toNat_natCast]
  have : (((min j l.length : Nat) : Int) - (i : Int)).toNat = min j l.length - i := by omega
  rw [this, List.take_eq_take_iff, List.length_drop]
  omega
/-- the sign at the place behind pre -/
theorem slice_one (pre post : List Nat) : Txt.slice (tx (pre ++ post)) (some (pre.length : Int)) (some ((pre.length : Int) + 1)) = tx (post.take 1) := by
  have := slice_tx (pre ++ post) (i := pre.length) (j := pre.length + 1) (by simp) (by omega)
  rw [show ((pre.length : Int) + 1) = ((pre.length + 1 : Nat) : Int) by omega, this, List.drop_left, Nat.add_sub_cancel_left]
theorem slice_mid (pre mid post : List Nat) {j : Int} (hj : j = (pre.length : Int) + (mid.length : Int)) : Txt.slice (tx (pre ++ mid ++ post)) (some (pre.length : Int)) (some j) = tx mid := by
  subst hj
  have := slice_tx (pre ++ mid ++ post) (i := pre.length) (j := pre.length + mid.length) (by simp only [List.length_append]; omega) (by omega)
  rw [show ((pre.length : Int) + (mid.length : Int)) = ((pre.length + mid.length : Nat) : Int) by omega, this, Nat.add_sub_cancel_left, List.append_assoc, List.drop_left, List.take_left]
/-! ### joined -/
def jn (sep : List Nat) : List (List Nat) → List Nat
  | [] => []
  | [x] => x
  | x :: y :: r => x ++ sep ++ jn sep (y :: r)
theorem join_tx (sep : List Nat) : ∀ ls : List (List Nat), Str.join (tx sep) (ls.map tx) = tx (jn sep ls)
  | [] => rfl
  | [x] => rfl
  | x :: y :: r => by
    show tx x ++ tx sep ++ Str.join (tx sep) ((y :: r).map tx) = _
    rw [join_tx sep (y :: r), tx_app, tx_app]
    rfl
theorem jn_cons (sep x : List Nat) {r : List (List Nat)} (h : r ≠ []) : jn sep (x :: r) = x ++ sep ++ jn sep r := by
  cases r with
  | nil => exact absurd rfl h
  | cons y r => rfl
theorem jn_app (sep : List Nat) : ∀ (a b : List (List Nat)), a ≠ [] → b ≠ [] → jn sep (a ++ b) = jn sep a ++ sep ++ jn sep b
  | [], _, h, _ => absurd rfl h
  | [x], b, _, hb => jn_cons sep x hb
  | x :: y :: r, b, _, hb => by
    have := jn_app sep (y :: r) b (by simp) hb
    show x ++ sep ++ jn sep ((y :: r) ++ b) = x ++ sep ++ jn sep (y :: r) ++ sep ++ jn sep b
    rw [this]
    simp only [List.append_assoc]
/-! ### a comprehension over a text, each sign told a truth -/
theorem comp_S {js : List Nat} {l : List Nat} {f : Nat → Bool} {tl te : TE} {σ : St} {H : Hp} {Q : VK} (hl : ∀ R : VK, R (.str (tx l)) H → tl σ H R) (ha : ∀ c ∈ l, c < 128) (hz : l.length ≤ sizeLine)
    (step : ∀ c H', Same H H' → ∀ R : VK, (∀ H'', Same H' H'' → R (.bl (f c)) H'') → te (some (.str (tx [c])) :: capS js σ) H' R)
    (fin : ∀ acc H', Same H H' → H' acc = some (.lst ((l.map f).map V.bl)) → Q (.ref acc) H') : tComp js (iStr tl) te σ H Q := by
  refine hl _ ⟨tx l, rfl, ?_, fun acc hacc => ?_⟩
  · show l.toArray.all (· < 128) = true
    simpa using ha
  have len : (tx l).length = l.length := tx_len l
  refine ⟨fun i m ys H2 => m = l.length - i ∧ i ≤ l.length ∧ ys = ((l.take i).map f).map V.bl ∧ Same H H2 ∧ H2 acc = some (.lst ys), ⟨_, rfl, Nat.zero_le _, rfl, same_new hacc _, upd_same⟩, ?_⟩
  rintro i m ys H2 ⟨rfl, hi, rfl, sm, hy⟩
  by_cases hlt : i < l.length
  · refine .inr ⟨show i < (tx l).length by omega, fun x H3 y => ?_⟩
    obtain ⟨e, c, hc, ex⟩ := y
    subst e ex
    have hc' : l[i]? = some c := by simpa [tx] using hc
    refine step c _ sm _ fun H4 s4 => ⟨s4 _ _ hy, ?_, l.length - (i + 1), by omega, rfl, hlt, ?_, ?_, upd_same⟩
    · rw [List.length_map, List.length_map, List.length_take]; omega
    · rw [List.take_succ, hc']; simp
    · refine fun b o q => ?_
      have nb : b ≠ acc := ne_of_none q hacc
      rw [upd_ne nb]
      exact s4 _ _ (sm _ _ q)
  · have e : i = l.length := by omega
    subst e
    refine .inl ⟨show (tx l).length ≤ l.length by omega, fin _ _ sm ?_⟩
    rw [hy, List.take_length]
end L2
namespace L2
open PySem PySem.Spec PyProof.Rows
/-! ### zip of two lists, made -/
abbrev liH (h : Heap) (t : Addr) : Heap := h.push { cls := .type "list_iterator", data := .fields #[.ref t, .int 0 0] }
abbrev zB2 (h : Heap) (t1 t2 : Addr) : Heap := liH (liH h t1) t2
abbrev zB3 (h : Heap) (t1 t2 : Addr) : Heap := (zB2 h t1 t2).push { cls := .type "tuple", data := .seq #[.ref h.objs.size, .ref (liH h t1).objs.size] }
abbrev zB4 (h : Heap) (t1 t2 : Addr) : Heap := (zB3 h t1 t2).push { cls := .type "tuple", data := .seq #[.none, .none] }
abbrev zB5 (h : Heap) (t1 t2 : Addr) : Heap := (zB4 h t1 t2).push { cls := .type "zip", data := .fields #[.none, .bool false, .bool false, .ref (zB2 h t1 t2).objs.size, .ref (zB3 h t1 t2).objs.size] }
theorem mk_zipL (t1 t2 : Addr) (xs ys : Array Value) : Meets (Builtin.«zip.__new__» ⟨[.type "zip", .ref t1, .ref t2], []⟩) (fun _ R s => s.heap.IsList t1 xs ∧ s.heap.IsList t2 ys ∧ R (.ok (.ret (.ref (zB4 s.heap t1 t2).objs.size))) { s with heap := zB5 s.heap t1 t2 }) :=
  .of_wp fun prog w A R s z => by
    obtain ⟨hp, g, d, tk, os⟩ := s
    obtain ⟨hx, hy, z⟩ := z
    have sub := sub_zip
    have hX : Heap.IsList (Shared.heap ⟨hp, g, d, tk, os⟩) t1 xs := hx
    have hY : Heap.IsList (Shared.heap ⟨liH hp t1, g, d, tk, os⟩) t2 ys := hy.push _
    wp_walk using wpAny_pyIter_list hX, wpAny_pyIter_list hY
    exact ⟨_, rfl, z⟩
theorem call_zipL {prog : Program} {w : World} {A : Around} {E : Value → Shared → Prop} {s : Shared} {t1 t2 : Addr} {xs ys : Array Value} {Q : Value → Shared → Prop} (hx : s.heap.IsList t1 xs) (hy : s.heap.IsList t2 ys)
    (q : ∀ h', IsZip h' (s.heap.objs.size + 4) (s.heap.objs.size + 2) (s.heap.objs.size + 3) .none → IsPair h' (s.heap.objs.size + 2) (.ref s.heap.objs.size) (.ref (s.heap.objs.size + 1)) → IsPair h' (s.heap.objs.size + 3) .none .none →
      h'.IsListIter s.heap.objs.size t1 0 → h'.IsListIter (s.heap.objs.size + 1) t2 0 → (∀ c o, s.heap.get? c = some o → h'.get? c = some o) → Q (.ref (s.heap.objs.size + 4)) { s with heap := h' }) :
    wpAny (model prog w) A (call (.type "zip") [.ref t1, .ref t2]) Q E s := by
  have n1 : (liH s.heap t1).objs.size = s.heap.objs.size + 1 := Heap.size_push ..
  have n2 : (zB2 s.heap t1 t2).objs.size = s.heap.objs.size + 2 := by rw [Heap.size_push, n1]
  have n3 : (zB3 s.heap t1 t2).objs.size = s.heap.objs.size + 3 := by rw [Heap.size_push, n2]
  have n4 : (zB4 s.heap t1 t2).objs.size = s.heap.objs.size + 4 := by rw [Heap.size_push, n3]
  have up : ∀ c o, s.heap.get? c = some o → (zB5 s.heap t1 t2).get? c = some o := fun c o e => Heap.get?_push_of_some _ (Heap.get?_push_of_some _ (Heap.get?_push_of_some _ (Heap.get?_push_of_some _ (Heap.get?_push_of_some _ e))))
  have v5 : (zB5 s.heap t1 t2).get? (zB4 s.heap t1 t2).objs.size = some _ := Heap.get?_push_size _ rfl
  have v4 : (zB5 s.heap t1 t2).get? (zB3 s.heap t1 t2).objs.size = some _ := Heap.get?_push_of_some _ (Heap.get?_push_size _ rfl)
  have v3 : (zB5 s.heap t1 t2).get? (zB2 s.heap t1 t2).objs.size = some _ := Heap.get?_push_of_some _ (Heap.get?_push_of_some _ (Heap.get?_push_size _ rfl))
  have v2 : (zB5 s.heap t1 t2).get? (liH s.heap t1).objs.size = some _ := Heap.get?_push_of_some _ (Heap.get?_push_of_some _ (Heap.get?_push_of_some _ (Heap.get?_push_size _ rfl)))
  have v1 : (zB5 s.heap t1 t2).get? s.heap.objs.size = some _ := Heap.get?_push_of_some _ (Heap.get?_push_of_some _ (Heap.get?_push_of_some _ (Heap.get?_push_of_some _ (Heap.get?_push_size _ rfl))))
  refine callType_new F.called_zip (by decide) (F.typeCall_zip_2 _ _) (F.newCall_zip_2 _ _) (fun x => F.args_object_init_3 x _ _) F.entry_zip_new (mk_zipL t1 t2 xs ys) ⟨hx, hy, ?_⟩
  show _ ∧ _
  rw [n2, n3, n4] at v5
  rw [n1, n2] at v3
  rw [n3] at v4
  rw [n1] at v2
  rw [n4]
  exact ⟨⟨_, v5, rfl⟩, q _ v5 v3 v4 ⟨_, v1, rfl, rfl⟩ ⟨_, v2, rfl, rfl⟩ up⟩
theorem sq_neL {X : Cx} {pins : List (Addr × Obj)} {σ : St} {H : Hp} {s : Shared} {a b : Addr} {xs : List V} (I : Inv X pins σ H s) (hq : SqL X.K H a xs) (hf : FpOk X pins H b) : a ≠ b := fun z => by
  rcases hq with h | ⟨o, its, n, hk, _⟩
  · rcases h with h | ⟨o, h⟩ <;> (rw [z, hf.1] at h; cases h)
  · have e : X.base.get? a = some o := I.ok.mod.kin a o hk
    rcases hf.2.2.2.1 with y | y
    · exact I.ok.noex a o e (z ▸ y)
    · have l := Heap.lt_size e
      have m := I.ok.bsz
      rw [z] at l
      exact absurd (Nat.lt_of_lt_of_le l (Nat.le_trans m y)) (Nat.lt_irrefl _)
def ItzL (K : PySem.W.Frag) (a b : Addr) : It :=
  ⟨fun i H => ∃ xs ys x y, SqL K H a xs ∧ SqL K H b ys ∧ xs[i]? = some x ∧ ys[i]? = some y, fun i H v H' => ∃ p x y, H p = none ∧ v = .ref p ∧ H' = upd H p (.tup [x, y]) ∧ (∀ xs, SqL K H a xs → xs[i]? = some x) ∧ ∀ ys, SqL K H b ys → ys[i]? = some y,
    fun i H => ∃ xs ys, SqL K H a xs ∧ SqL K H b ys ∧ (i = xs.length ∨ (i < xs.length ∧ i = ys.length))⟩
structure ZstL (z TI TO i1 i2 a b : Addr) (i : Nat) (h : Heap) : Prop where
  z : IsZip h z TI TO .none
  p : IsPair h TI (.ref i1) (.ref i2)
  o : ∃ x y, IsPair h TO x y
  l : h.IsListIter i1 a i
  r : h.IsListIter i2 b i
theorem turn_zipL {P : Program} {w : World} {K : PySem.W.Frag} {elts : List Expr} {x1} {tp : Pos} (a b z TI TO i1 i2 : Addr) (n1 : TI ≠ z) (n2 : TO ≠ z) (n3 : TI ≠ TO) (n4 : i1 ≠ z) (n5 : i2 ≠ z) (n6 : TO ≠ i1) (n7 : TO ≠ i2) (n8 : i1 ≠ i2) (n9 : TI ≠ i1) (n10 : TI ≠ i2) :
    Turn P w K (.Tuple elts x1 tp) (ItzL K a b) [z, TI, TO, i1, i2] z (ZstL z TI TO i1 i2 a b) where
  mem := by simp
  obj := fun i h st c hc => by
    obtain ⟨g1, g2, ⟨x, y, g3⟩, ⟨o4, g4, _, d4⟩, ⟨o5, g5, _, d5⟩⟩ := st
    simp only [List.mem_cons, List.not_mem_nil, or_false] at hc
    rcases hc with rfl | rfl | rfl | rfl | rfl
    · exact ⟨_, g1, fun v q => by cases q⟩
    · exact ⟨_, g2, fun v q => by cases q⟩
    · exact ⟨_, g3, fun v q => by cases q⟩
    · exact ⟨o4, g4, fun v q => by rw [d4] at q; cases q⟩
    · exact ⟨o5, g5, fun v q => by rw [d5] at q; cases q⟩
  keep := fun i h h' st k => by
    obtain ⟨g1, g2, ⟨x, y, g3⟩, g4, g5⟩ := st
    exact ⟨k z (by simp) _ g1, k TI (by simp) _ g2, ⟨x, y, k TO (by simp) _ g3⟩, g4.at fun o e => k i1 (by simp) o e, g5.at fun o e => k i2 (by simp) o e⟩
  item := by
    intro X hP hw hK hc i pins s σ H E I hf st hg
    subst hP hw hK
    obtain ⟨g1, g2, ⟨xo, yo, g3⟩, g4, g5⟩ := st
    obtain ⟨xs, ys, x, y, hx, hy, ex, ey⟩ := hg
    obtain ⟨us, ru, pu, _⟩ := I.list hx
    obtain ⟨vs, rv, pv, _⟩ := I.list hy
    obtain ⟨u, hu, ru'⟩ := ru.get ex
    obtain ⟨v, hv, rv'⟩ := rv.get ey
    have ha : ∀ c ∈ [z, TI, TO, i1, i2], a ≠ c := fun c hc => sq_neL I hx (hf c hc)
    have hb : ∀ c ∈ [z, TI, TO, i1, i2], b ≠ c := fun c hc => sq_neL I hy (hf c hc)
    have hh : X.A.in1.handled = none := I.ok.hd hc
    have Z : Zap z TI TO i1 i2 [i1, a] [i2, b] := ⟨n1, n2, n3, n4, n5, n6, n7, n8, by simp; exact ⟨n4.symm, (ha z (by simp)).symm⟩, by simp; exact ⟨n5.symm, (hb z (by simp)).symm⟩, by simp; exact ⟨n6, (ha TO (by simp)).symm⟩, by simp; exact ⟨n7, (hb TO (by simp)).symm⟩, by simp; exact ⟨n8, (hb i1 (by simp)).symm⟩, by simp; exact ⟨n8.symm, (ha i2 (by simp)).symm⟩⟩
    refine zip_go Z (Draws.list hh i1 a (ha i1 (by simp)) us.toArray) (Draws.list hh i2 b (hb i2 (by simp)) vs.toArray) g1 g2 g3 (show _ ∧ _ from ⟨g4, pu.isList⟩) (show _ ∧ _ from ⟨g5, pv.isList⟩) (by have := (List.getElem?_eq_some_iff.mp hu).1; simpa using this) (by have := (List.getElem?_eq_some_iff.mp hv).1; simpa using this)
      fun u' v' h' tk hu' hv' z1 z2 z3 z4 z5 z6 kk => ?_
    have eu : u' = u := by
      have : us[i]? = some u' := by simpa using hu'
      rw [hu] at this; exact (Option.some.inj this).symm
    have ev : v' = v := by
      have : vs[i]? = some v' := by simpa using hv'
      rw [hv] at this; exact (Option.some.inj this).symm
    subst eu ev
    have fr : H s.heap.objs.size = none := I.hok.fresh (Nat.le_refl _)
    have I1 : Inv X pins σ (upd H s.heap.objs.size (.tup [x, y])) { s with heap := s.heap.push { cls := .type "tuple", data := .seq #[u', v'] }, toks := tk } :=
      I.laid (t' := tk) (fun b v z => Heap.get?_push_of_some _ z) (Nat.le_refl _) ⟨(by show 2 ≤ sizeLine; decide), [u', v'], .cons ru' (.cons rv' .nil), ⟨_, Heap.get?_push_size _ rfl, rfl, _, rfl⟩⟩
    have lt : ∀ c ∈ [z, TI, TO, i1, i2], c < s.heap.objs.size := fun c hc => by
      simp only [List.mem_cons, List.not_mem_nil, or_false] at hc
      rcases hc with rfl | rfl | rfl | rfl | rfl
      · exact Heap.lt_size g1
      · exact Heap.lt_size g2
      · exact Heap.lt_size g3
      · obtain ⟨o, e, _⟩ := g4; exact Heap.lt_size e
      · obtain ⟨o, e, _⟩ := g5; exact Heap.lt_size e
    have f1 : ∀ c ∈ [z, TI, TO, i1, i2], FpOk X pins (upd H s.heap.objs.size (.tup [x, y])) c := fun c hc => ⟨by rw [upd_ne (Nat.ne_of_lt (lt c hc))]; exact (hf c hc).1, (hf c hc).2⟩
    have I2 : Inv X pins σ (upd H s.heap.objs.size (.tup [x, y])) { s with heap := h', toks := tk } := I1.turnedL (t' := tk) (fun c o nc e => by
      have m : ∀ d ∈ [z, TI, TO, i1, i2], c ≠ d := fun d hd y => nc (y ▸ hd)
      by_cases y : c = s.heap.objs.size
      · subst y
        rw [Heap.get?_push_size _ rfl] at e
        cases e
        exact z5
      · rcases Heap.get?_push_cases e with w | w
        · exact absurd w.1 y
        · exact kk c o (m z (by simp)) (m TO (by simp)) (m i1 (by simp)) (m i2 (by simp)) w) f1
    have g2' : IsPair h' TI (.ref i1) (.ref i2) := kk _ _ n1 n3 n9 n10 g2
    refine ⟨_, rfl, wpAny_letOwnedTupleGo_zip z1 fun h2 zz sb => ⟨.ref s.heap.objs.size, _, I2.turnedL (fp := [z, TI, TO, i1, i2]) (t' := tk) (fun c o nc e => sb.extBut c o (fun y => nc (by simp [y])) e) f1, rfl, ⟨_, x, y, fr, rfl, rfl, fun xs' h => by rw [I.list_inj h hx]; exact ex, fun ys' h => by rw [I.list_inj h hy]; exact ey⟩, ⟨zz, sb.extBut _ _ n1 g2', ⟨_, _, sb.extBut _ _ n2 z2⟩, ?_, ?_⟩, fun c hc => (f1 c hc).1⟩⟩
    · exact z3.1.at fun o e => sb.extBut i1 o n4 e
    · exact z4.1.at fun o e => sb.extBut i2 o n5 e
  done := by
    intro X hP hw hK hc i pins s σ H E I hf st hg
    subst hP hw hK
    obtain ⟨g1, g2, ⟨xo, yo, g3⟩, g4, g5⟩ := st
    obtain ⟨xs, ys, hx, hy, hl⟩ := hg
    obtain ⟨us, ru, pu, _⟩ := I.list hx
    obtain ⟨vs, rv, pv, _⟩ := I.list hy
    have ha : ∀ c ∈ [z, TI, TO, i1, i2], a ≠ c := fun c hc => sq_neL I hx (hf c hc)
    have hb : ∀ c ∈ [z, TI, TO, i1, i2], b ≠ c := fun c hc => sq_neL I hy (hf c hc)
    have hh : X.A.in1.handled = none := I.ok.hd hc
    have Z : Zap z TI TO i1 i2 [i1, a] [i2, b] := ⟨n1, n2, n3, n4, n5, n6, n7, n8, by simp; exact ⟨n4.symm, (ha z (by simp)).symm⟩, by simp; exact ⟨n5.symm, (hb z (by simp)).symm⟩, by simp; exact ⟨n6, (ha TO (by simp)).symm⟩, by simp; exact ⟨n7, (hb TO (by simp)).symm⟩, by simp; exact ⟨n8, (hb i1 (by simp)).symm⟩, by simp; exact ⟨n8.symm, (ha i2 (by simp)).symm⟩⟩
    have l1 := ru.length
    have l2 := rv.length
    refine zip_out Z (Draws.list hh i1 a (ha i1 (by simp)) us.toArray) (Draws.list hh i2 b (hb i2 (by simp)) vs.toArray) g1 g2 g3 (show _ ∧ _ from ⟨g4, pu.isList⟩) (show _ ∧ _ from ⟨g5, pv.isList⟩) (by simp; omega) fun h' tk kk => ⟨rfl, I.turnedL (fp := [z, TI, TO, i1, i2]) (t' := tk) (fun c o nc e => ?_) hf⟩
    have m : ∀ d ∈ [z, TI, TO, i1, i2], c ≠ d := fun d hd y => nc (y ▸ hd)
    exact kk c o (m z (by simp)) (m TO (by simp)) (m i1 (by simp)) (m i2 (by simp)) e
  self := fun _ _ _ _ _ st h => wpAny_pyIter_zip st.z h
section
variable {X : Cx}
def iZipL (K : PySem.W.Frag) (ta : TA) : TI := fun σ H R => ta σ H fun vs H1 => ∃ a b, vs = [.ref a, .ref b] ∧ (∃ xs, SqL K H1 a xs) ∧ (∃ ys, SqL K H1 b ys) ∧ R (ItzL K a b) H1
theorem pi_zipL {K : PySem.W.Frag} {e e' : Expr} {elts : List Expr} {x1} {tp p pos : Pos} {ta : TA} (hK : X.K = K) (hm : X.mg "zip" = none) (ha : PA X [e, e'] ta) (hg : Gl X "zip" := by rfl) (h1 : plainE e = true := by rfl) (h2 : plainE e' = true := by rfl) :
    PI X (.Tuple elts x1 tp) (.Call (.Name "zip" p) [e, e'] [] pos) (iZipL K ta) := by
  subst hK
  refine .mk ?_
  intro pins s σ H R I h
  refine wpAny_Call_Name_kw (ld_blt I hg hm bt_zip ?_ (by decide) (by decide))
  refine PyProof.Rows.callWith_type1 (thn (ha pos pins s σ H _ I h) fun us s1 ⟨vs, H1, I1, r1, q1⟩ => ?_) (star_one h1) (star_none (es := [e']) (by simp [h2]))
  obtain ⟨a, b, rfl, ⟨xs, hx⟩, ⟨ys, hy⟩, q⟩ := q1
  obtain ⟨u, v, rfl, ru, rv⟩ := r1.two
  cases ru
  cases rv
  obtain ⟨us, _, pu, _⟩ := I1.list hx
  obtain ⟨ws, _, pw, _⟩ := I1.list hy
  refine call_zipL pu.isList pw.isList fun h' hz hp ho h1 h2 kk => ?_
  have I2 : Inv X pins σ H1 { s1 with heap := h' } := I1.kept (t' := s1.toks) kk
  have fr : ∀ n, H1 (s1.heap.objs.size + n) = none := fun n => I1.hok.fresh (Nat.le_add_right _ _)
  have fk : ∀ n, FpOk X pins H1 (s1.heap.objs.size + n) := fun n => I1.fpOk (Nat.le_add_right _ _) (fr n)
  have ne : ∀ i j : Nat, i ≠ j → s1.heap.objs.size + i ≠ s1.heap.objs.size + j := fun i j n e => n (Nat.add_left_cancel e)
  refine wpAny_pyIter_zip hz ⟨s1.heap.objs.size + 4, _, _, ItzL X.K a b, H1, rfl, I2, turn_zipL a b (s1.heap.objs.size + 4) (s1.heap.objs.size + 2) (s1.heap.objs.size + 3) s1.heap.objs.size (s1.heap.objs.size + 1) (ne _ _ (by decide)) (ne _ _ (by decide)) (ne _ _ (by decide)) (ne 0 _ (by decide)) (ne _ _ (by decide)) (ne _ 0 (by decide)) (ne _ _ (by decide)) (ne 0 _ (by decide)) (ne _ 0 (by decide)) (ne _ _ (by decide)), ⟨hz, hp, ⟨_, _, ho⟩, h1, h2⟩, fun c hc => ?_, q⟩
  simp only [List.mem_cons, List.not_mem_nil, or_false] at hc
  rcases hc with rfl | rfl | rfl | rfl | rfl
  · exact fk 4
  · exact fk 2
  · exact fk 3
  · exact fk 0
  · exact fk 1
end
/-- a comprehension of pairs out of zip of two lists of one length -/
theorem comp_zipL {K : PySem.W.Frag} {js : List Nat} {a b : Addr} {xs ys : List V} {es : List PyData} {ta : TA} {te : TE} {σ : St} {H : Hp} {Q : VK} (hl : ∀ R : List V → Hp → Prop, R [.ref a, .ref b] H → ta σ H R) (ha : H a = some (.lst xs)) (hb : H b = some (.lst ys)) (n1 : xs.length = es.length) (n2 : ys.length = es.length) (hz : es.length ≤ sizeLine) (hL : noLAll es = true)
    (val : ∀ (i : Nat) x y e H', xs[i]? = some x → ys[i]? = some y → es[i]? = some e → Same H H' → ∀ R : VK, (∀ v H'', Same H' H'' → At H'' e v → R v H'') → te (some x :: some y :: capS js σ) H' R)
    (fin : ∀ acc zs H', Same H H' → H acc = none → H' acc = some (.lst zs) → AtAll (hid acc H') es zs → Q (.ref acc) H') : tCompG 2 js (iZipL K ta) (gTup K 2 (gCons (gName 0) (gCons (gName 1) gNil))) tAll te σ H Q := by
  refine hl _ ⟨a, b, rfl, ⟨xs, SqL.of ha⟩, ⟨ys, SqL.of hb⟩, fun acc hacc => ?_⟩
  have gx : ∀ i, i < es.length → xs[i]? = some (xs.getD i .non) := fun i hi => by rw [List.getD_eq_getElem?_getD, List.getElem?_eq_getElem (by omega)]; rfl
  have gy : ∀ i, i < es.length → ys[i]? = some (ys.getD i .non) := fun i hi => by rw [List.getD_eq_getElem?_getD, List.getElem?_eq_getElem (by omega)]; rfl
  refine compP_core (es := es) (fun i => xs.getD i .non) (fun i => ys.getD i .non) hz hL hacc (fun i H' hi s => ⟨xs, ys, _, _, SqL.of (s _ _ ha), SqL.of (s _ _ hb), gx i hi, gy i hi⟩) (fun i H' v H'' hi s y => ?_) (fun H' s => ⟨xs, ys, SqL.of (s _ _ ha), SqL.of (s _ _ hb), .inl n1.symm⟩) (fun i e H' he s R hR => ?_) fun zs H' s h1 h2 => fin acc zs H' s hacc h1 h2
  · obtain ⟨p, x, y, fp, e1, e2, h1, h2⟩ := y
    have q1 := h1 xs (SqL.of (s _ _ ha))
    have q2 := h2 ys (SqL.of (s _ _ hb))
    rw [gx i hi] at q1
    rw [gy i hi] at q2
    cases q1
    cases q2
    exact ⟨p, fp, e1, e2⟩
  · have hi : i < es.length := by
      by_cases z : i < es.length
      · exact z
      · rw [List.getElem?_eq_none (by omega)] at he; cases he
    exact val i _ _ e H' (gx i hi) (gy i hi) he s R hR
end L2
namespace K20
open PySem L2
def top (i : Nat) : Stmt := PySem.Challenge.pw_waithands_k20_loads_read.main.body.getD i (.Pass ⟨0, 0, 0, 0⟩)
abbrev s_number_of : Stmt := top 7
abbrev s_load_of : Stmt := top 14
abbrev s_read_pieces : Stmt := top 15
abbrev s_read_piece : Stmt := top 16
abbrev s_read_bracket : Stmt := top 17
abbrev s_read_times : Stmt := top 18
abbrev s_read_number : Stmt := top 19
abbrev s_repeated : Stmt := top 20
abbrev s_check_beats : Stmt := top 21
abbrev s_l_tape : Stmt := top 23
abbrev s_l_draw : Stmt := top 24
abbrev s_l_units : Stmt := top 25
abbrev s_l_same : Stmt := top 26
abbrev s_l_piece : Stmt := top 27
abbrev s_l_pieces : Stmt := top 28
abbrev s_l_right : Stmt := top 29
abbrev s_law : Stmt := top 30
structure Bi (mg : Str → Option Value) : Prop where
  int : mg "int" = none
  all : mg "all" = none
  len : mg "len" = none
  abs : mg "abs" = none
  isinstance : mg "isinstance" = none
  str : mg "str" = none
  list : mg "list" = none
  tuple : mg "tuple" = none
  bool : mg "bool" = none
  zip : mg "zip" = none
  min : mg "min" = none
  range : mg "range" = none
  max : mg "max" = none
structure Co (K : PySem.W.Frag) (mg : Str → Option Value) : Prop where
  FIGURES : Gs mg "FIGURES" "0123456789"
  MOST_FIGURES : Gi mg "MOST_FIGURES" 13
  MOST_UNITS : Gi mg "MOST_UNITS" 1000000000000
  EMPTY : Gs mg "EMPTY" "-"
  MOST_BEATS : Gi mg "MOST_BEATS" 300
  LEAST_TIMES : Gi mg "LEAST_TIMES" 2
  MOST_TIMES : Gi mg "MOST_TIMES" 99
  MOST_BRACKETS : Gi mg "MOST_BRACKETS" 3
local macro_rules | `(tactic| walk_at "rd") => `(tactic| simp only [L2.start, List.map_cons, List.map_nil, List.length_cons, List.length_nil, Nat.reduceAdd, Nat.reduceSub, List.replicate, List.cons_append, List.nil_append, List.append_nil,
  tSeq, tIfS, tRet, tRetN, tNext, tAsg, gName, tDrop, rd_var0, rd_varS, rd_gcons, rd_gnil, if_true, if_false, Bool.false_eq_true, Bool.not_true, Bool.not_false, rd_set0, rd_setS, rd_eqI, rd_neI, rd_eqS, rd_neS, rd_argI, rd_argB, rd_argII, rd_test, rd_int, rd_ii, tC, tOp, tUn, rI0, rI, rU, tTest, tAnd, tOr, tNot, tAndV, tOrV, tNotV, tIf, tCall, tCB, tCons, tNil, tB, tChain, tSl, tNoPart, tPart, gSub, tPar, tLst, tTup, tLstW, tTupW, tBM, tAug, tPar3, tAugS, ipI, tMaxD, tGT2])
section
variable {P : Program} {w : World} {K : PySem.W.Frag} {mg : Str → Option Value} {base : Heap} {f : Addr} {fd : FuncData} {k : Nat}


theorem op_fdivB {X : Cx} : OpR X (binaryOp .FloorDiv) (rI (fun _ j => 0 < j ∧ j < 10 ^ 60) fun i j => .int (i / j)) := opI fun i j _ _ _ _ _ hc q => by
  have h1 : (0 : Int) < j := hc.1
  have h2 : j < 10 ^ 60 := hc.2
  refine PyProof.Rows.floordiv_int (by omega) (by rw [Int.fdiv_eq_ediv_of_nonneg i (by omega)]; exact q) (.inl (PyProof.noPylong_of_log2 ?_))
  have : j.natAbs < 10 ^ 60 := by omega
  by_cases z : j.natAbs = 0
  · omega
  · have h3 : j.natAbs < 2 ^ 1000 := Nat.lt_trans this (by decide +kernel)
    have := (Nat.log2_lt z).mpr h3
    omega
structure RowT where
  w : Str
  s : Nat
  g : Str
  n : Int
  t : Int
def rowP (r : RowT) : PyData := .tuple [.str r.w, .int r.s, .str r.g, .int r.n, .int r.t]
def ruleP (rs : List RowT) : PyData := .tuple (rs.map rowP)
structure RowIs (r : RowT) : Prop where
  w : r.w ∈ (["come", "done", "wait"] : List Str)
  s : 1 ≤ r.s ∧ r.s ≤ 4
  n : 0 ≤ r.n ∧ r.n ≤ 1000000000000
  e : r.g = "each" → 1 ≤ r.n
def triD (l : List Int) : PyData := .tuple (l.map .int)
def trsD (trs : List (List Int)) : PyData := .tuple (trs.map triD)
structure Newest (trs : List (List Int)) : Prop where
  n : trs.length = 4
  l : ∀ x ∈ trs, x.length = 3
def totOf (w : Str) (s : Nat) (trs : List (List Int)) : Int := ((trs.take s).map fun l => l.getD (whatIx w) 0).sum
def says (r : RowT) (h : Int) (trs : List (List Int)) : Option Int :=
  if r.g = "each" then some ((totOf r.w r.s trs + r.n * r.s - 1) / (r.n * r.s))
  else if (r.g = "over" ∧ totOf r.w r.s trs > r.n * r.s) ∨ (r.g = "under" ∧ totOf r.w r.s trs < r.n * r.s) then some (h + r.t) else none
def saidV : Option Int → V
  | none => .non
  | some i => .int i
def rwish (h : Int) (trs : List (List Int)) : List RowT → Int
  | [] => h
  | r :: rs => match says r h trs with
    | some i => i
    | none => rwish h trs rs
theorem AtAll.uncons {H : Hp} {d : PyData} {ds : List PyData} {xs : List V} (h : AtAll H (d :: ds) xs) : ∃ x r, xs = x :: r ∧ At H d x ∧ AtAll H ds r := by unfold AtAll at h; exact h
theorem ats_ints {H : Hp} : ∀ cs : List Int, AtAll H (cs.map .int) (cs.map V.int)
  | [] => AtAll.nil
  | c :: cs => AtAll.cons (At.int c) (ats_ints cs)
def spSays : Sp := fun vs H Q _ => ∃ (v u : V) (h : Int) (r : RowT) (trs : List (List Int)), vs = [v, .int h, u] ∧ At H (rowP r) v ∧ At H (trsD trs) u ∧ RowIs r ∧ Newest trs ∧ ∀ H', Same H H' → Q (saidV (says r h trs)) H'
theorem Says.of {v u : V} {h : Int} {r : RowT} {trs : List (List Int)} {H : Hp} {Q : VK} {E : XK} (a1 : At H (rowP r) v) (a2 : At H (trsD trs) u) (h1 : RowIs r) (h2 : Newest trs) (q : ∀ H', Same H H' → Q (saidV (says r h trs)) H') : spSays ([v, .int h, u] ++ []) H Q E := ⟨v, u, h, r, trs, rfl, a1, a2, h1, h2, q⟩
def spRw : Sp := fun vs H Q _ => ∃ (v u : V) (h : Int) (rs : List RowT) (trs : List (List Int)), vs = [v, .int h, u] ∧ At H (ruleP rs) v ∧ At H (trsD trs) u ∧ (∀ r ∈ rs, RowIs r) ∧ Newest trs ∧ ∀ H', Same H H' → Q (.int (rwish h trs rs)) H'
theorem Rw.of {v u : V} {h : Int} {rs : List RowT} {trs : List (List Int)} {H : Hp} {Q : VK} {E : XK} (a1 : At H (ruleP rs) v) (a2 : At H (trsD trs) u) (h1 : ∀ r ∈ rs, RowIs r) (h2 : Newest trs) (q : ∀ H', Same H H' → Q (.int (rwish h trs rs)) H') : spRw ([v, .int h, u] ++ []) H Q E := ⟨v, u, h, rs, trs, rfl, a1, a2, h1, h2, q⟩
/-- a stand -/
structure Stn where
  w : Int
  r : Int
  cs : List Int
  s : Int
  t : Int
  us : List (List Int)
structure StIs (x : Stn) : Prop where
  c : x.cs.length = 5
  u : x.us.length = 3
  l : ∀ y ∈ x.us, y.length = 3
/-- a post: pace, room, (least, most), late, every, (up, down), rules -/
structure Pst where
  p : Int
  m : Int
  lo : Int
  hi : Int
  a : Nat
  e : Int
  u : Int
  d : Int
  rss : List (List RowT)
structure PsIs (x : Pst) : Prop where
  a : x.a ≤ 4
  p : 0 ≤ x.p ∧ x.p ≤ 1000000
  n : x.rss.length ≤ 100
  g : ∀ rs ∈ x.rss, ∀ r ∈ rs, RowIs r
end
end K20
namespace K20
open PySem L2
local macro_rules | `(tactic| walk_at "rd") => `(tactic| simp only [L2.start, List.map_cons, List.map_nil, List.length_cons, List.length_nil, Nat.reduceAdd, Nat.reduceSub, List.replicate, List.cons_append, List.nil_append, List.append_nil,
  tSeq, tIfS, tRet, tRetN, tNext, tAsg, gName, tDrop, rd_var0, rd_varS, rd_gcons, rd_gnil, if_true, if_false, Bool.false_eq_true, Bool.not_true, Bool.not_false, rd_set0, rd_setS, rd_eqI, rd_neI, rd_eqS, rd_neS, rd_argI, rd_argB, rd_argII, rd_test, rd_int, rd_ii, tC, tOp, tUn, rI0, rI, rU, tTest, tAnd, tOr, tNot, tAndV, tOrV, tNotV, tIf, tCall, tCB, tCons, tNil, tB, tChain, tSl, tNoPart, tPart, gSub, tPar, tLst, tTup])
section
variable {P : Program} {w : World} {K : PySem.W.Frag} {mg : Str → Option Value} {base : Heap} {f : Addr} {fd : FuncData} {k : Nat}

/-! ### the tape and what is drawn from it -/
def spTape (K : PySem.W.Frag) : Sp := fun vs H Q _ => ∃ (s : Addr) (ns : List Int) (i : Int), vs = [.ref s, .int i] ∧ SqL K H s (ns.map V.int) ∧ 0 ≤ i ∧ i ≤ 1000 ∧ ∀ p H', H p = none → Same H H' → Tp H' p 0 → Q (.ref p) H'
theorem sc_l_tape : FnScope ["_law_script", "_law_k", "_law_cell"] ["_law_script", "_law_k"] (defScope s_l_tape) := ⟨rfl, rfl, rfl, by decide +kernel, rfl, by decide +kernel, by decide +kernel⟩
theorem ok_l_tape (F : Fun K "_law_tape" "_law_tape" s_l_tape f fd) (B : Bi mg) : FnOk P w K mg base CX0 (k + 1) f fd ["_law_script", "_law_k"] (spTape K) := by
  refine F.ok sc_l_tape (by rintro vs H Q E ⟨a, ns, i, rfl, _⟩; rfl) (fun cdv A outer s H vs Q E hr h => ?_)
  obtain ⟨a, ns, i, rfl, hS, h0, h1, q⟩ := h
  have ND := sc_l_tape.nd
  refine ⟨_, (pss_cons (ps_set (i := 2) ND rfl (by first | exact Or.inl rfl | exact Or.inr rfl) (pe_ifExp (pt_cmpR op_lt (pv 1) (pb (call_lenK (K := K) rfl) B.len bt_len (pa_c (pv 0) pa_nil)) (nomark _)) (pe_ix ix_list (pv 0) (pv 1) (fun _ _ => rfl)) pe_int)) (pss_one (ps_ret (pe_lst (pa_c (pe_op op_mul (pb (call_abs) B.abs bt_abs (pa_c (pv 2) pa_nil)) (pt (call_intB) B.int bt_int (pa_c (pe_cmpR op_ge (pb (call_abs) B.abs bt_abs (pa_c (pv 2) pa_nil)) (pe_op op_pow pe_int pe_int) (nomark _)) pa_nil))) (pa_c (pe_op op_add (pe_op op_add (pe_op op_mod (pv 2) pe_int) (pe_op op_mul pe_int (pv 1))) pe_int) (pa_c pe_int pa_nil))))))), ?_⟩
  walk_at "rd"
  refine ⟨a, _, rfl, .inl hS, ?_⟩
  show ∃ i_1 j, V.int i = V.int i_1 ∧ V.int ((ns.map V.int).length : Int) = V.int j ∧ _
  walk_at "rd"
  have abs_nn : ∀ c : Int, 0 ≤ (if c < 0 then -c else c) := fun c => by split <;> omega
  have fin : ∀ (c x y : Int), x = (if c < 0 then -c else c) * (if decide (10 ^ Int.toNat 18 ≤ (if c < 0 then -c else c)) = true then 1 else 0) → y = c % 2305843009213693951 + 39373 * i + 17 → ∀ p, H p = none → Q (.ref p) (upd H p (.lst [.int x, .int y, .int 0])) := fun c x y ex ey p hp => by
    have hx : 0 ≤ x := by
      rw [ex]
      have nn := abs_nn c
      generalize (if c < 0 then -c else c) = u at nn ⊢
      split
      · rw [Int.mul_one]; exact nn
      · rw [Int.mul_zero]; exact Int.le_refl 0
    have h2 := Int.emod_nonneg c (show (2305843009213693951 : Int) ≠ 0 by decide)
    have h3 := Int.emod_lt_of_pos c (show (0 : Int) < 2305843009213693951 by decide)
    exact q p _ hp (same_new hp _) ⟨x, y, 0, upd_same, hx, by omega, by omega, Int.le_refl 0, Int.le_refl 0⟩
  have cm : ∀ (c : Int) (b : Bool), CMul c (if b = true then 1 else 0) := fun c b => .inr (by cases b <;> decide)
  refine and_if (fun c1 => ?_) (fun c1 => ?_)
  · have c1' := of_decide_eq_true c1
    have hi : i.toNat < ns.length := by rw [List.length_map] at c1'; omega
    refine ⟨a, _, i, .int (ns[i.toNat]), rfl, rfl, hS, ?_, ?_⟩
    · have := atI_nat (xs := ns.map V.int) (j := i.toNat) (v := .int (ns[i.toNat])) (by rw [List.getElem?_map, List.getElem?_eq_getElem hi]; rfl)
      rwa [show ((i.toNat : Nat) : Int) = i by omega] at this
    · walk_at "rd"
      refine ⟨⟨by decide, by decide, by decide⟩, cm _ _, by decide, .inl (by decide), (by show 3 ≤ sizeLine; decide), fun p hp => ?_⟩
      exact fin _ _ _ rfl rfl p hp
  · refine ⟨⟨by decide, by decide, by decide⟩, cm _ _, by decide, .inl (by decide), (by show 3 ≤ sizeLine; decide), fun p hp => ?_⟩
    exact fin 0 _ _ rfl rfl p hp
def spDraw : Sp := fun vs H Q _ => ∃ (a : Addr) (m : Int) (n : Nat), vs = [.ref a, .int m] ∧ Tp H a n ∧ n ≤ 1000000000 ∧ 0 < m ∧ m < 1000000000000000 ∧ ∀ v H', 0 ≤ v → v < m → Tp H' a (n + 1) → SX a H H' → Q (.int v) H'
theorem sc_l_draw : FnScope ["_law_tape_here", "_law_many", "_law_found", "_law_once", "_law_twice"] ["_law_tape_here", "_law_many"] (defScope s_l_draw) := ⟨rfl, rfl, rfl, by decide +kernel, rfl, by decide +kernel, by decide +kernel⟩
theorem ok_l_draw (F : Fun K "_law_draw" "_law_draw" s_l_draw f fd) (B : Bi mg) : FnOk P w K mg base CX0 (k + 1) f fd ["_law_tape_here", "_law_many"] spDraw := by
  refine F.ok sc_l_draw (by rintro vs H Q E ⟨a, m, n, rfl, _⟩; rfl) (fun cdv A outer s H vs Q E hr h => ?_)
  obtain ⟨a, m, n, rfl, ⟨x, y, z, hT, hx, hy, hy2, hz, hz2⟩, hn, hm, hm2, q⟩ := h
  have ND := sc_l_draw.nd
  refine ⟨_, (pss_cons (ps_if (pt_cmpR op_gt (pe_ix ix_obj (pv 0) pe_int (fun _ _ => rfl)) pe_int (nomark _)) (pss_cons (ps_set (i := 2) ND rfl (by first | exact Or.inl rfl | exact Or.inr rfl) (pe_op op_mod (pe_ix ix_obj (pv 0) pe_int (fun _ _ => rfl)) (pv 1))) (pss_cons (ps_asg (pe_op op_fdivB (pe_ix ix_obj (pv 0) pe_int (fun _ _ => rfl)) (pv 1)) (pg_sub (pv 0) pe_int set_list)) (pss_one (ps_ret (pv 2))))) pss_nil) (pss_cons (ps_asg (pe_op op_add (pe_ix ix_obj (pv 0) pe_int (fun _ _ => rfl)) pe_int) (pg_sub (pv 0) pe_int set_list)) (pss_cons (ps_set (i := 3) ND rfl (by first | exact Or.inl rfl | exact Or.inr rfl) (pe_op op_mod (pe_op op_pow (pe_op op_add (pe_ix ix_obj (pv 0) pe_int (fun _ _ => rfl)) (pe_op op_mul pe_int (pe_ix ix_obj (pv 0) pe_int (fun _ _ => rfl)))) pe_int) pe_int)) (pss_cons (ps_set (i := 4) ND rfl (by first | exact Or.inl rfl | exact Or.inr rfl) (pe_op op_mod (pe_op op_mul (pe_op op_add (pv 3) (pe_ix ix_obj (pv 0) pe_int (fun _ _ => rfl))) (pe_op op_add (pe_op op_add (pe_op op_mod (pv 3) pe_int) pe_int) (pe_ix ix_obj (pv 0) pe_int (fun _ _ => rfl)))) pe_int)) (pss_one (ps_ret (pe_op op_mod (pe_op op_fdiv (pe_op op_mod (pe_op op_add (pe_op op_mul (pv 4) pe_int) (pv 3)) pe_int) pe_int) (pv 1)))))))), ?_⟩
  walk_at "rd"
  refine Ix.lst hT (atI_nat (j := 0) rfl) ?_
  walk_at "rd"
  refine and_if (fun c1 => ?_) (fun c1 => ?_)
  · refine Ix.lst hT (atI_nat (j := 0) rfl) ?_
    walk_at "rd"
    refine ⟨hm, Ix.lst hT (atI_nat (j := 0) rfl) ?_⟩
    walk_at "rd"
    refine ⟨⟨hm, Int.lt_trans hm2 (by decide)⟩, a, _, 0, 0, rfl, rfl, hT, rfl, ?_⟩
    refine q _ _ (Int.emod_nonneg _ (by omega)) (Int.emod_lt_of_pos _ hm) ⟨x / m, y, z, upd_same, Int.ediv_nonneg hx (by omega), hy, hy2, hz, by omega⟩ SX.upd
  · refine Ix.lst hT (atI_nat (j := 2) rfl) ?_
    walk_at "rd"
    refine ⟨a, _, 2, 2, rfl, rfl, hT, rfl, ?_⟩
    have hT2 : upd H a (.lst [.int x, .int y, .int (z + 1)]) a = some (.lst [.int x, .int y, .int (z + 1)]) := upd_same
    show rIxO (V.ref a) (V.int 1) (upd H a (.lst [.int x, .int y, .int (z + 1)])) _
    generalize eH : upd H a (.lst [.int x, .int y, .int (z + 1)]) = H2 at hT2 ⊢
    have sx : SX a H H2 := by rw [← eH]; exact SX.upd
    refine Ix.lst hT2 (atI_nat (j := 1) rfl) (Ix.lst hT2 (atI_nat (j := 2) rfl) ?_)
    walk_at "rd"
    refine ⟨.inl (by decide), ⟨by decide, by decide, by omega⟩, by decide, Ix.lst hT2 (atI_nat (j := 2) rfl) ?_⟩
    generalize eo : (y + 39373 * (z + 1)) ^ Int.toNat 5 % 2147483647 = o
    have o1 : 0 ≤ o := by rw [← eo]; exact Int.emod_nonneg _ (by decide)
    have o2 : o < 2147483647 := by rw [← eo]; exact Int.emod_lt_of_pos _ (by decide)
    walk_at "rd"
    refine ⟨by decide, Ix.lst hT2 (atI_nat (j := 2) rfl) ?_⟩
    walk_at "rd"
    have m1 := Int.emod_nonneg o (show (40009 : Int) ≠ 0 by decide)
    have m2 := Int.emod_lt_of_pos o (show (0 : Int) < 40009 by decide)
    refine ⟨.inl (by omega), by decide, ?_⟩
    generalize et : (o + (z + 1)) * (o % 40009 + 7 + (z + 1)) % 2147483629 = t
    have t1 : 0 ≤ t := by rw [← et]; exact Int.emod_nonneg _ (by decide)
    have t2 : t < 2147483629 := by rw [← et]; exact Int.emod_lt_of_pos _ (by decide)
    refine ⟨.inl (by omega), by decide, ⟨by decide, by decide⟩, hm, ?_⟩
    exact q _ _ (Int.emod_nonneg _ (by omega)) (Int.emod_lt_of_pos _ hm) ⟨x, y, z + 1, hT2, hx, hy, hy2, by omega, by omega⟩ sx
theorem Draw.of {a : Addr} {m : Int} {n : Nat} {H : Hp} {Q : VK} {E : XK} (t : Tp H a n) (hn : n ≤ 1000000000) (h1 : 0 < m) (h2 : m < 1000000000000000) (q : ∀ v H', 0 ≤ v → v < m → Tp H' a (n + 1) → SX a H H' → Q (.int v) H') : spDraw ([.ref a, .int m] ++ []) H Q E := ⟨a, m, n, rfl, t, hn, h1, h2, q⟩
end
end K20
namespace K20
open PySem L2
local macro_rules | `(tactic| walk_at "rd") => `(tactic| simp only [L2.start, List.map_cons, List.map_nil, List.length_cons, List.length_nil, Nat.reduceAdd, Nat.reduceSub, List.replicate, List.cons_append, List.nil_append, List.append_nil,
  tSeq, tIfS, tRet, tRetN, tNext, tAsg, gName, tDrop, rd_var0, rd_varS, rd_gcons, rd_gnil, if_true, if_false, Bool.false_eq_true, Bool.not_true, Bool.not_false, rd_set0, rd_setS, rd_eqI, rd_neI, rd_eqS, rd_neS, rd_argI, rd_argB, rd_argII, rd_test, rd_int, rd_ii, tC, tOp, tUn, rI0, rI, rU, tTest, tAnd, tOr, tNot, tAndV, tOrV, tNotV, tIf, tCall, tCB, tCons, tNil, tB, tChain, tSl, tNoPart, tPart, gSub, tPar, tLst, tTup, tLstW, tTupW, tBM, tAug, tPar3, tAugS, ipI, tMaxD, tGT2])
section
variable {P : Program} {w : World} {K : PySem.W.Frag} {mg : Str → Option Value} {base : Heap} {f : Addr} {fd : FuncData} {k : Nat}
def spUnits : Sp := fun vs H Q _ => ∃ (a : Addr) (n : Nat), vs = [.ref a] ∧ Tp H a n ∧ n ≤ 900000000 ∧ ∀ v H', 0 ≤ v → v ≤ 1000000000000 → Tp H' a (n + 4) → SX a H H' → Q (.int v) H'
theorem Units.of {a : Addr} {n : Nat} {H : Hp} {Q : VK} {E : XK} (t : Tp H a n) (hn : n ≤ 900000000) (q : ∀ v H', 0 ≤ v → v ≤ 1000000000000 → Tp H' a (n + 4) → SX a H H' → Q (.int v) H') : spUnits ([.ref a] ++ []) H Q E := ⟨a, n, rfl, t, hn, q⟩
theorem sc_l_units : FnScope ["_law_tape_here", "_law_way", "_law_great"] ["_law_tape_here"] (defScope s_l_units) := ⟨rfl, rfl, rfl, by decide +kernel, rfl, by decide +kernel, by decide +kernel⟩
theorem ok_l_units (F : Fun K "_law_units" "_law_units" s_l_units f fd) (B : Bi mg) (c_l_draw : Ct P w K mg base k "_law_draw" ["_law_tape_here", "_law_many"] spDraw) : FnOk P w K mg base CX0 (k + 1) f fd ["_law_tape_here"] spUnits := by
  refine F.ok sc_l_units (by rintro vs H Q E ⟨a, n, rfl, _⟩; rfl) (fun cdv A outer s H vs Q E hr h => ?_)
  obtain ⟨a, n, rfl, tp, hn, q⟩ := h
  have ND := sc_l_units.nd
  refine ⟨_, (pss_cons (ps_set (i := 1) ND rfl (by first | exact Or.inl rfl | exact Or.inr rfl) (pf c_l_draw hr (pa_c (pv 0) (pa_c pe_int pa_nil)))) (pss_cons (ps_if (pt_cmpR op_lt (pv 1) pe_int (nomark _)) (pss_one (ps_ret (pf c_l_draw hr (pa_c (pv 0) (pa_c pe_int pa_nil))))) pss_nil) (pss_cons (ps_if (pt_cmpR op_eq (pv 1) pe_int (nomark _)) (pss_one (ps_ret (pf c_l_draw hr (pa_c (pv 0) (pa_c pe_int pa_nil))))) pss_nil) (pss_cons (ps_set (i := 2) ND rfl (by first | exact Or.inl rfl | exact Or.inr rfl) (pe_op op_add (pe_op op_mul (pf c_l_draw hr (pa_c (pv 0) (pa_c (pe_op op_pow pe_int pe_int) pa_nil))) (pe_op op_pow pe_int pe_int)) (pf c_l_draw hr (pa_c (pv 0) (pa_c (pe_op op_pow pe_int pe_int) pa_nil))))) (pss_one (ps_ret (pe_ifExp (pt_cmpR op_eq (pv 1) pe_int (nomark _)) (pv 2) (pe_op op_sub (pe_op op_pow pe_int pe_int) (pe_op op_mod (pv 2) pe_int))))))))), ?_⟩
  walk_at "rd"
  refine Draw.of tp (by omega) (by decide) (by decide) fun v1 H1 l1 u1 t1 s1 => ?_
  walk_at "rd"
  refine and_if (fun c1 => ?_) (fun c1 => ?_)
  · refine Draw.of t1 (by omega) (by decide) (by decide) fun v2 H2 l2 u2 t2 s2 => ?_
    exact q v2 H2 l2 (by omega) (t2.mono (by omega)) (s1.trans s2)
  · refine and_if (fun c2 => ?_) (fun c2 => ?_)
    · refine Draw.of t1 (by omega) (by decide) (by decide) fun v2 H2 l2 u2 t2 s2 => ?_
      exact q v2 H2 l2 (by omega) (t2.mono (by omega)) (s1.trans s2)
    · refine ⟨⟨by decide, by decide, by decide⟩, ?_⟩
      refine Draw.of t1 (by omega) (by decide) (by decide) fun v2 H2 l2 u2 t2 s2 => ?_
      walk_at "rd"
      have e6 : (10 : Int) ^ Int.toNat 6 = 1000000 := by decide
      have e12 : (10 : Int) ^ Int.toNat 12 = 1000000000000 := by decide
      rw [e6] at u2
      refine ⟨⟨by decide, by decide, by decide⟩, .inr (by decide), ⟨by decide, by decide, by decide⟩, ?_⟩
      refine Draw.of t2 (by omega) (by decide) (by decide) fun v3 H3 l3 u3 t3 s3 => ?_
      rw [e6] at u3
      walk_at "rd"
      rw [e6, e12]
      refine and_if (fun c3 => ?_) (fun c3 => ?_)
      · exact q _ H3 (by omega) (by omega) (t3.mono (by omega)) (s1.trans (s2.trans s3))
      · have m1 := Int.emod_nonneg (v2 * 1000000 + v3) (show (3 : Int) ≠ 0 by decide)
        have m2 := Int.emod_lt_of_pos (v2 * 1000000 + v3) (show (0 : Int) < 3 by decide)
        exact ⟨⟨by decide, by decide, by decide⟩, by decide, q _ H3 (by omega) (by omega) (t3.mono (by omega)) (s1.trans (s2.trans s3))⟩
end
end K20
namespace K20
open PySem L2
local macro_rules | `(tactic| walk_at "rd") => `(tactic| simp only [L2.start, List.map_cons, List.map_nil, List.length_cons, List.length_nil, Nat.reduceAdd, Nat.reduceSub, List.replicate, List.cons_append, List.nil_append, List.append_nil,
  tSeq, tIfS, tRet, tRetN, tNext, tAsg, gName, tDrop, rd_var0, rd_varS, rd_gcons, rd_gnil, if_true, if_false, Bool.false_eq_true, Bool.not_true, Bool.not_false, rd_set0, rd_setS, rd_eqI, rd_neI, rd_eqS, rd_neS, rd_argI, rd_argB, rd_argII, rd_test, rd_int, rd_ii, tC, tOp, tUn, rI0, rI, rU, tTest, tAnd, tOr, tNot, tAndV, tOrV, tNotV, tIf, tCall, tCB, tCons, tNil, tB, tChain, tSl, tNoPart, tPart, gSub, tPar, tLst, tTup, tLstW, tTupW, tBM, tAug, tPar3, tAugS, ipI, tMaxD, tGT2, tFv, tJs, tJ1, tJ0, tTru])
section
variable {P : Program} {w : World} {K : PySem.W.Frag} {mg : Str → Option Value} {base : Heap} {f : Addr} {fd : FuncData} {k : Nat}
/-- a number that a text writes -/
def spNum : Sp := fun vs H Q _ => ∃ (n lo hi : Int), vs = [.str (tx (dg n)), .int lo, .int hi] ∧ 0 ≤ n ∧ n ≤ 1000000000000 ∧ lo ≤ n ∧ n ≤ hi ∧ ∀ H', Same H H' → Q (.int n) H'
theorem sc_number_of : FnScope ["text", "least", "most", "number"] ["text", "least", "most"] (defScope s_number_of) := ⟨rfl, rfl, rfl, by decide +kernel, rfl, by decide +kernel, by decide +kernel⟩
theorem ok_number_of (F : Fun K "number_of" "number_of" s_number_of f fd) (B : Bi mg) (O : Co K mg) : FnOk P w K mg base CX0 (k + 1) f fd ["text", "least", "most"] spNum := by
  refine F.ok sc_number_of (by rintro vs H Q E ⟨n, lo, hi, rfl, _⟩; rfl) (fun cdv A outer s H vs Q E hr h => ?_)
  obtain ⟨n, lo, hi, rfl, h0, h1, hl, hh, q⟩ := h
  have ND := sc_number_of.nd
  refine ⟨_, (pss_cons (ps_if (PW.pt (pw_or (pt_not (pt_chain op_le op_le pe_int (pb (call_len_str) B.len bt_len (pa_c (pv 0) pa_nil)) (pglobI O.MOST_FIGURES))) (pw_or1 (pt_not (pt_val (pb (call_allB rfl) B.all bt_all (pa_c (pe_comp (N' := ["sign"]) (js := []) rfl (pi_str (pv 0)) CSc.mk0 rfl (by decide) rfl (fun fp s' H' => (pe_cmpR op_in_str (pv 0) (pglobS O.FIGURES) (by with_unfolding_all rfl)))) pa_nil))))))) (pss_one (ps_ret pe_non)) pss_nil) (pss_cons (ps_if (PW.pt (pw_and (pt_cmpR op_eq (pe_ix ix_str (pv 0) pe_int (fun _ _ => rfl)) pe_str (nomark _)) (pw_and1 (pt_cmpR op_ne (pv 0) pe_str (nomark _))))) (pss_one (ps_ret pe_non)) pss_nil) (pss_cons (ps_set (i := 3) ND rfl (by first | exact Or.inl rfl | exact Or.inr rfl) (pt (call_intS) B.int bt_int (pa_c (pv 0) pa_nil))) (pss_one (ps_ret (pe_ifExp (pt_chain op_le op_le (pv 1) (pv 3) (pv 2)) (pv 3) pe_non)))))), ?_⟩
  walk_at "rd"
  have d1 := dg_pos n
  have d2 := dg_len (n := n) (k := 13) (by decide) (by omega)
  have hz : (tx (dg n)).length ≤ sizeLine := by rw [tx_len, sizeLine_eq]; omega
  refine ⟨_, rfl, hz, ?_⟩
  rw [tx_len, if_pos (decide_eq_true (by omega)), decide_eq_true (show ((dg n).length : Int) ≤ 13 by omega), if_neg (by decide)]
  refine comp_S (l := dg n) (f := isF) (fun R r => rd_var0 ▸ r) (fun c hc => by have := dg_all n c hc; omega) (by rw [sizeLine_eq]; omega) (fun c H' s' R r => ?_) fun acc H1 s1 e1 => ?_
  · show tOp _ _ _ _ _ _
    walk_at "rd"
    refine ⟨_, _, rfl, rfl, ?_⟩
    rw [← tx_one, figs]
    exact r _ (Same.refl _)
  refine ⟨acc, _, rfl, e1, ?_⟩
  have ea : (((dg n).map isF).all id) = true := by
    rw [List.all_map, List.all_eq_true]
    intro c hc
    exact decide_eq_true (dg_all n c hc)
  rw [ea, if_neg (by decide)]
  cases hd : dg n with
  | nil => exact absurd hd (dg_ne n)
  | cons c r =>
  refine ⟨_, 0, c, rfl, rfl, by rw [← hd]; exact hz, by rw [tx_cps]; exact atI_nat (j := 0) rfl, ?_⟩
  walk_at "rd"
  have fin : ∃ z n_1, [V.str (tx (c :: r))] = [V.str z] ∧ intText? z = some n_1 ∧ z.length ≤ 640 ∧ if decide (lo ≤ n_1) = true then if decide (n_1 ≤ hi) = true then Q (V.int n_1) H1 else Q V.non H1 else Q V.non H1 := by
    refine ⟨_, n, rfl, ?_, ?_, ?_⟩
    · rw [← hd]; exact dg_read h0 (by omega)
    · rw [← hd, tx_len]; omega
    · rw [if_pos (decide_eq_true hl), if_pos (decide_eq_true hh)]
      exact q _ s1
  rw [tx_one, show Str.ofString "0" = tx [48] from rfl]
  by_cases e0 : c = 48
  · subst e0
    obtain ⟨rfl, rfl⟩ := dg_head h0 hd
    rw [if_pos (decide_eq_true rfl), decide_eq_true rfl, if_neg (by decide)]
    exact fin
  · rw [if_neg (by rw [decide_eq_false (fun z => e0 (List.cons.inj (tx_inj z)).1)]; decide)]
    exact fin
/-- what stands behind a number begins with no figure -/
def noF (l : List Nat) : Prop := ∀ c r, l = c :: r → isF c = false
theorem get_mid {pre mid post : List Nat} {j : Nat} (h : j < mid.length) : atI (pre ++ mid ++ post) ((pre.length : Int) + (j : Int)) = some (mid[j]'h) := by
  rw [show (pre.length : Int) + (j : Int) = ((pre.length + j : Nat) : Int) by omega]
  refine atI_nat ?_
  rw [List.append_assoc, List.getElem?_append_right (by omega), Nat.add_sub_cancel_left, List.getElem?_append_left h, List.getElem?_eq_getElem h]
theorem get_end {pre mid post : List Nat} {c : Nat} {r : List Nat} (h : post = c :: r) : atI (pre ++ mid ++ post) ((pre.length : Int) + (mid.length : Int)) = some c := by
  subst h
  rw [show (pre.length : Int) + (mid.length : Int) = ((pre.length + mid.length : Nat) : Int) by omega]
  refine atI_nat ?_
  rw [List.getElem?_append_right (by rw [List.length_append]; exact Nat.le_refl _), List.length_append, Nat.sub_self]
  rfl
/-- a number at a place of a text -/
def spRn : Sp := fun vs H Q _ => ∃ (pre post : List Nat) (n lo hi : Int), vs = [.str (tx (pre ++ dg n ++ post)), .int pre.length, .int lo, .int hi] ∧ (pre ++ dg n ++ post).length ≤ 1000000 ∧ noF post ∧ 0 ≤ n ∧ n ≤ 1000000000000 ∧ lo ≤ n ∧ n ≤ hi ∧
  ∀ p H', H p = none → Same H H' → H' p = some (.tup [.int n, .int ((pre.length : Int) + ((dg n).length : Int))]) → Q (.ref p) H'
theorem rn_tail {pre post : List Nat} {n lo hi : Int} {H : Hp} {G : VK} (hs : (tx (pre ++ dg n ++ post)).length ≤ sizeLine) (h0 : 0 ≤ n) (h1 : n ≤ 1000000000000) (hl : lo ≤ n) (hh : n ≤ hi) (g : ∀ H', Same H H' → G (.int n) H') :
    rSlS (.str (tx (pre ++ dg n ++ post))) (some (pre.length : Int)) (some ((pre.length : Int) + ((dg n).length : Int))) H fun x H1 => spNum [x, .int lo, .int hi] H1 G E0 := by
  refine ⟨_, rfl, hs, n, lo, hi, ?_, h0, h1, hl, hh, g⟩
  rw [slice_mid pre (dg n) post rfl]
theorem sc_read_number : FnScope ["text", "at", "least", "most", "end", "number"] ["text", "at", "least", "most"] (defScope s_read_number) := ⟨rfl, rfl, rfl, by decide +kernel, rfl, by decide +kernel, by decide +kernel⟩
theorem ok_read_number (F : Fun K "read_number" "read_number" s_read_number f fd) (B : Bi mg) (O : Co K mg) (c_number_of : Ct P w K mg base k "number_of" ["text", "least", "most"] spNum) : FnOk P w K mg base CX0 (k + 1) f fd ["text", "at", "least", "most"] spRn := by
  refine F.ok sc_read_number (by rintro vs H Q E ⟨pre, post, n, lo, hi, rfl, _⟩; rfl) (fun cdv A outer s H vs Q E hr h => ?_)
  obtain ⟨pre, post, n, lo, hi, rfl, hz, hp, h0, h1, hl, hh, q⟩ := h
  have ND := sc_read_number.nd
  refine ⟨_, (pss_cons (ps_set (i := 4) ND rfl (by first | exact Or.inl rfl | exact Or.inr rfl) (pv 1)) (pss_cons (ps_while PassesOwn.never (PW.pt (pw_and (pt_cmpR op_lt (pv 4) (pb (call_len_str) B.len bt_len (pa_c (pv 0) pa_nil)) (nomark _)) (pw_and1 (pt_cmpR op_in_str (pe_ix ix_str (pv 0) (pv 4) (fun _ _ => rfl)) (pglobS O.FIGURES) (by with_unfolding_all rfl))))) (pss_one (ps_aug (i := 4) ND rfl (by first | exact Or.inl rfl | exact Or.inr rfl) pe_int ip_add))) (pss_cons (ps_set (i := 5) ND rfl (by first | exact Or.inl rfl | exact Or.inr rfl) (pf c_number_of hr (pa_c (pe_slice sl_str (pv 0) (po_some (pv 1)) (po_some (pv 4))) (pa_c (pv 2) (pa_c (pv 3) pa_nil))))) (pss_cons (ps_if (pt_cmpR op_isN (pv 5) pe_non (nomark _)) (pss_one ps_no) pss_nil) (pss_one (ps_ret (pe_tupW (pa_c (pv 5) (pa_c (pv 4) pa_nil))))))))), ?_⟩
  walk_at "rd"
  have hs : (tx (pre ++ dg n ++ post)).length ≤ sizeLine := by rw [tx_len, sizeLine_eq]; omega
  refine ⟨fun m σ H' => ∃ j : Nat, j ≤ (dg n).length ∧ m = (dg n).length - j ∧ H = H' ∧ σ = [some (V.str (tx (pre ++ dg n ++ post))), some (V.int pre.length), some (V.int lo), some (V.int hi), some (V.int ((pre.length : Int) + (j : Int))), none], ⟨_, 0, by omega, rfl, rfl, by simp⟩, ?_⟩
  rintro m σ _ ⟨j, hj, rfl, rfl, rfl⟩
  walk_at "rd"
  refine ⟨_, rfl, hs, ?_⟩
  have fin : ∀ H1, Same H H1 → if decide (V.int n = V.non) = true then False else 2 ≤ sizeLine ∧ ∀ (p : Addr) (H' : Hp), H1 p = none → Same H1 H' → H' p = some (HO.tup [.int n, .int ((pre.length : Int) + ((dg n).length : Int))]) → Q (V.ref p) H' := fun H1 s1 => by
    rw [if_neg (by rw [decide_eq_false (fun z => nomatch z)]; decide)]
    exact ⟨by decide, fun p H' fp s2 e => q p H' (s1.free fp) (s1.trans s2) e⟩
  by_cases hlt : j < (dg n).length
  · rw [if_pos (decide_eq_true (by rw [tx_len, List.length_append, List.length_append]; omega))]
    refine ⟨_, _, _, rfl, rfl, hs, by rw [tx_cps]; exact get_mid hlt, _, _, rfl, rfl, ?_⟩
    rw [figs, show isF ((dg n)[j]'hlt) = true from decide_eq_true (dg_all n _ (List.getElem_mem _)), if_pos rfl]
    refine ⟨fun σ' H' => H = H' ∧ σ' = [some (V.str (tx (pre ++ dg n ++ post))), some (V.int pre.length), some (V.int lo), some (V.int hi), some (V.int ((pre.length : Int) + ((j + 1 : Nat) : Int))), none], ?_, _, rfl, _, _, rfl, rfl, rfl, ?_⟩
    · rintro _ _ ⟨rfl, rfl⟩
      exact ⟨(dg n).length - (j + 1), by omega, j + 1, hlt, rfl, rfl, rfl⟩
    · rw [show (pre.length : Int) + ((j + 1 : Nat) : Int) = (pre.length : Int) + (j : Int) + 1 by omega]
  · have ej : j = (dg n).length := by omega
    subst ej
    cases hpost : post with
    | nil =>
      rw [if_neg (by rw [decide_eq_false (by rw [tx_len, List.length_append, List.length_append]; simp)]; decide), ← hpost]
      exact rn_tail hs h0 h1 hl hh fun H1 s1 => ⟨True.intro, fin H1 s1⟩
    | cons c r =>
      rw [if_pos (decide_eq_true (by rw [tx_len, List.length_append, List.length_append]; simp only [List.length_cons]; omega)), ← hpost]
      refine ⟨_, _, _, rfl, rfl, hs, by rw [tx_cps]; exact get_end hpost, _, _, rfl, rfl, ?_⟩
      rw [figs, hp c r hpost, if_neg (by decide)]
      exact rn_tail hs h0 h1 hl hh fun H1 s1 => ⟨True.intro, fin H1 s1⟩
theorem Rn.of {pre post : List Nat} {n lo hi a : Int} {z : Str} {H : Hp} {Q : VK} {E : XK} (ez : z = tx (pre ++ dg n ++ post)) (ea : a = pre.length) (hz : (pre ++ dg n ++ post).length ≤ 1000000) (hp : noF post) (h0 : 0 ≤ n) (h1 : n ≤ 1000000000000) (hl : lo ≤ n) (hh : n ≤ hi)
    (q : ∀ p H', H p = none → Same H H' → H' p = some (.tup [.int n, .int ((pre.length : Int) + ((dg n).length : Int))]) → Q (.ref p) H') : spRn ([.str z, .int a, .int lo, .int hi] ++ []) H Q E := by
  subst ez ea
  exact ⟨pre, post, n, lo, hi, rfl, hz, hp, h0, h1, hl, hh, q⟩
/-- no more beats than a load has -/
def spChk : Sp := fun vs H Q _ => ∃ m : Int, vs = [.int m] ∧ m ≤ 300 ∧ Q .non H
theorem sc_check_beats : FnScope ["many"] ["many"] (defScope s_check_beats) := ⟨rfl, rfl, rfl, by decide +kernel, rfl, by decide +kernel, by decide +kernel⟩
theorem ok_check_beats (F : Fun K "check_beats" "check_beats" s_check_beats f fd) (B : Bi mg) (O : Co K mg) : FnOk P w K mg base CX0 (k + 1) f fd ["many"] spChk := by
  refine F.ok sc_check_beats (by rintro vs H Q E ⟨m, rfl, _⟩; rfl) (fun cdv A outer s H vs Q E hr h => ?_)
  obtain ⟨m, rfl, hm, q⟩ := h
  have ND := sc_check_beats.nd
  refine ⟨_, (pss_one (ps_if (pt_cmpR op_gt (pv 0) (pglobI O.MOST_BEATS) (nomark _)) (pss_one ps_no) pss_nil)), ?_⟩
  walk_at "rd"
  rw [if_neg (by rw [decide_eq_false (by omega)]; decide)]
  exact q
/-- a load so many times over -/
def spRep : Sp := fun vs H Q _ => ∃ (a : Addr) (l : List Int) (m : Nat), vs = [.ref a, .int m] ∧ H a = some (.lst (l.map V.int)) ∧ l.length * m ≤ 300 ∧ m ≤ 99 ∧ ∀ p H', H p = none → Same H H' → H' p = some (.lst ((List.replicate m l).flatten.map V.int)) → Q (.ref p) H'
theorem sc_repeated : FnScope ["load", "times"] ["load", "times"] (defScope s_repeated) := ⟨rfl, rfl, rfl, by decide +kernel, rfl, by decide +kernel, by decide +kernel⟩
theorem ok_repeated (F : Fun K "repeated" "repeated" s_repeated f fd) (B : Bi mg) (c_check_beats : Ct P w K mg base k "check_beats" ["many"] spChk) : FnOk P w K mg base CX0 (k + 1) f fd ["load", "times"] spRep := by
  refine F.ok sc_repeated (by rintro vs H Q E ⟨a, l, m, rfl, _⟩; rfl) (fun cdv A outer s H vs Q E hr h => ?_)
  obtain ⟨a, l, m, rfl, ha, hm, h99, q⟩ := h
  have ND := sc_repeated.nd
  refine ⟨_, (pss_cons (ps_expr (pf c_check_beats hr (pa_c (pe_op op_mul (pb (call_lenK (K := K) rfl) B.len bt_len (pa_c (pv 0) pa_nil)) (pv 1)) pa_nil))) (pss_one (ps_ret (pe_op op_rep (pv 0) (pv 1))))), ?_⟩
  walk_at "rd"
  refine ⟨a, _, rfl, .inl (SqL.of ha), ?_⟩
  rw [List.length_map]
  have hml : (l.length : Int) * (m : Int) ≤ 300 := by exact_mod_cast hm
  refine ⟨_, _, rfl, rfl, .inr ⟨by omega, by omega⟩, _, rfl, hml, a, _, _, rfl, rfl, ha, by omega, by omega, ?_, fun p fp => ?_⟩
  · rw [List.length_map, Int.toNat_natCast, sizeLine_eq]; omega
  · refine q p _ fp (same_new fp _) ?_
    rw [upd_same, Int.toNat_natCast, List.map_flatten, List.map_replicate]
theorem Rep.of {a : Addr} {l : List Int} {m : Nat} {i : Int} {H : Hp} {Q : VK} {E : XK} (ei : i = m) (ha : H a = some (.lst (l.map V.int))) (hm : l.length * m ≤ 300) (h99 : m ≤ 99)
    (q : ∀ p H', H p = none → Same H H' → H' p = some (.lst ((List.replicate m l).flatten.map V.int)) → Q (.ref p) H') : spRep ([.ref a, .int i] ++ []) H Q E := by
  subst ei
  exact ⟨a, l, m, rfl, ha, hm, h99, q⟩
/-- how many times -/
def spTm : Sp := fun vs H Q _ => ∃ (pre post : List Nat) (m : Int), vs = [.str (tx (pre ++ (120 :: dg m) ++ post)), .int pre.length] ∧ (pre ++ (120 :: dg m) ++ post).length ≤ 1000000 ∧ noF post ∧ 2 ≤ m ∧ m ≤ 99 ∧
  ∀ p H', H p = none → Same H H' → H' p = some (.tup [.int m, .int ((pre.length : Int) + 1 + ((dg m).length : Int))]) → Q (.ref p) H'
theorem sc_read_times : FnScope ["text", "at"] ["text", "at"] (defScope s_read_times) := ⟨rfl, rfl, rfl, by decide +kernel, rfl, by decide +kernel, by decide +kernel⟩
theorem ok_read_times (F : Fun K "read_times" "read_times" s_read_times f fd) (B : Bi mg) (O : Co K mg) (c_read_number : Ct P w K mg base k "read_number" ["text", "at", "least", "most"] spRn) : FnOk P w K mg base CX0 (k + 1) f fd ["text", "at"] spTm := by
  refine F.ok sc_read_times (by rintro vs H Q E ⟨pre, post, m, rfl, _⟩; rfl) (fun cdv A outer s H vs Q E hr h => ?_)
  obtain ⟨pre, post, m, rfl, hz, hp, h2, h99, q⟩ := h
  have ND := sc_read_times.nd
  refine ⟨_, (pss_cons (ps_if (pt_cmpR op_ne (pe_slice sl_str (pv 0) (po_some (pv 1)) (po_some (pe_op op_add (pv 1) pe_int))) pe_str (nomark _)) (pss_one ps_no) pss_nil) (pss_one (ps_ret (pf c_read_number hr (pa_c (pv 0) (pa_c (pe_op op_add (pv 1) pe_int) (pa_c (pglobI O.LEAST_TIMES) (pa_c (pglobI O.MOST_TIMES) pa_nil)))))))), ?_⟩
  walk_at "rd"
  have hs : (tx (pre ++ (120 :: dg m) ++ post)).length ≤ sizeLine := by rw [tx_len, sizeLine_eq]; omega
  refine ⟨_, rfl, hs, ?_⟩
  have e1 : Txt.slice (tx (pre ++ 120 :: dg m ++ post)) (some (pre.length : Int)) (some ((pre.length : Int) + 1)) = Str.ofString "x" := by
    rw [List.append_assoc, slice_one]; rfl
  rw [e1]
  walk_at "rd"
  rw [if_neg (by decide)]
  refine Rn.of (pre := pre ++ [120]) (post := post) (n := m) (by simp) (by simp) (by simpa using hz) hp (by omega) (by omega) h2 h99 fun p H' fp s' e => q p H' fp s' ?_
  rw [e]; simp
theorem Tm.of {pre post : List Nat} {m a : Int} {z : Str} {H : Hp} {Q : VK} {E : XK} (ez : z = tx (pre ++ (120 :: dg m) ++ post)) (ea : a = pre.length) (hz : (pre ++ (120 :: dg m) ++ post).length ≤ 1000000) (hp : noF post) (h2 : 2 ≤ m) (h99 : m ≤ 99)
    (q : ∀ p H', H p = none → Same H H' → H' p = some (.tup [.int m, .int ((pre.length : Int) + 1 + ((dg m).length : Int))]) → Q (.ref p) H') : spTm ([.str z, .int a] ++ []) H Q E := by
  subst ez ea
  exact ⟨pre, post, m, rfl, hz, hp, h2, h99, q⟩
end
end K20
namespace K20
open PySem L2
local macro_rules | `(tactic| walk_at "rd") => `(tactic| simp only [L2.start, List.map_cons, List.map_nil, List.length_cons, List.length_nil, Nat.reduceAdd, Nat.reduceSub, List.replicate, List.cons_append, List.nil_append, List.append_nil,
  tSeq, tIfS, tRet, tRetN, tNext, tAsg, gName, tDrop, rd_var0, rd_varS, rd_gcons, rd_gnil, if_true, if_false, Bool.false_eq_true, Bool.not_true, Bool.not_false, rd_set0, rd_setS, rd_eqI, rd_neI, rd_eqS, rd_neS, rd_argI, rd_argB, rd_argII, rd_test, rd_int, rd_ii, tC, tOp, tUn, rI0, rI, rU, tTest, tAnd, tOr, tNot, tAndV, tOrV, tNotV, tIf, tCall, tCB, tCons, tNil, tB, tChain, tSl, tNoPart, tPart, gSub, tPar, tLst, tTup, tLstW, tTupW, tBM, tAug, tPar3, tAugS, ipI, tMaxD, tGT2, tFv, tJs, tJ1, tJ0, tTru])
section
variable {P : Program} {w : World} {K : PySem.W.Frag} {mg : Str → Option Value} {base : Heap} {f : Addr} {fd : FuncData} {k : Nat}
/-! ### pieces, by their depth -/
def Pc : Nat → Type
  | 0 => Int × Nat
  | d + 1 => (Int × Nat) ⊕ (List (Pc d) × Nat)
def nT (p : Int × Nat) : List Nat := if p.2 = 1 then dg p.1 else dg p.1 ++ 120 :: dg p.2
def nOk (p : Int × Nat) : Prop := 0 ≤ p.1 ∧ p.1 ≤ 1000000000000 ∧ 1 ≤ p.2 ∧ p.2 ≤ 99
def ptx : (d : Nat) → Pc d → List Nat
  | 0, p => nT p
  | _ + 1, .inl p => nT p
  | d + 1, .inr (ps, m) => 40 :: (jn [32] (ps.map (ptx d)) ++ 41 :: 120 :: dg m)
def pex : (d : Nat) → Pc d → List Int
  | 0, p => List.replicate p.2 p.1
  | _ + 1, .inl p => List.replicate p.2 p.1
  | d + 1, .inr (ps, m) => (List.replicate m (ps.map (pex d)).flatten).flatten
def pok : (d : Nat) → Pc d → Prop
  | 0, p => nOk p
  | _ + 1, .inl p => nOk p
  | d + 1, .inr (ps, m) => ps ≠ [] ∧ (∀ q ∈ ps, pok d q) ∧ 2 ≤ m ∧ m ≤ 99
def noX (l : List Nat) : Prop := ∀ c r, l = c :: r → isF c = false ∧ c ≠ 120
def noB (l : List Nat) : Prop := ∀ c r, l = c :: r → isF c = false ∧ c ≠ 120 ∧ c ≠ 32
theorem noX.toF {l : List Nat} (h : noX l) : noF l := fun c r e => (h c r e).1
theorem noB.x {l : List Nat} (h : noB l) : noX l := fun c r e => ⟨(h c r e).1, (h c r e).2.1⟩
theorem noB_nil : noB [] := fun c r e => nomatch e
theorem one_ne {l : List Nat} {c : Nat} {P : Prop} (h : ∀ a r, l = a :: r → a ≠ c) : tx (l.take 1) ≠ tx [c] := by
  intro e
  have e := tx_inj e
  cases l with
  | nil => cases e
  | cons a r => exact h a r rfl (List.cons.inj e).1
theorem dg_cons (n : Int) : ∃ c r, dg n = c :: r ∧ isF c = true := by
  cases h : dg n with
  | nil => exact absurd h (dg_ne n)
  | cons c r => exact ⟨c, r, rfl, decide_eq_true (dg_all n c (by rw [h]; exact List.mem_cons_self ..))⟩
/-- a piece read -/
def spPc (d : Nat) : Sp := fun vs H Q _ => ∃ (pre post : List Nat) (q : Pc d) (b : Int), vs = [.str (tx (pre ++ ptx d q ++ post)), .int pre.length, .int b] ∧ (pre ++ ptx d q ++ post).length ≤ 1000000 ∧ noX post ∧ pok d q ∧ (pex d q).length ≤ 300 ∧ 0 ≤ b ∧ b + d ≤ 3 ∧
  ∀ p a H', H p = none → H a = none → Same H H' → H' p = some (.tup [.ref a, .int ((pre.length : Int) + ((ptx d q).length : Int))]) → H' a = some (.lst ((pex d q).map V.int)) → Q (.ref p) H'
/-- a piece in brackets, behind its first bracket -/
def spBr : Nat → Sp
  | 0 => fun vs H Q _ => False
  | d + 1 => fun vs H Q _ => ∃ (pre post : List Nat) (ps : List (Pc d)) (m : Nat) (b : Int), vs = [.str (tx (pre ++ (jn [32] (ps.map (ptx d)) ++ 41 :: 120 :: dg m) ++ post)), .int pre.length, .int b] ∧ (pre ++ (jn [32] (ps.map (ptx d)) ++ 41 :: 120 :: dg m) ++ post).length ≤ 1000000 ∧
      noX post ∧ ps ≠ [] ∧ (∀ q ∈ ps, pok d q) ∧ 2 ≤ m ∧ m ≤ 99 ∧ (List.replicate m (ps.map (pex d)).flatten).flatten.length ≤ 300 ∧ 0 ≤ b ∧ b + d ≤ 3 ∧
      ∀ p a H', H p = none → H a = none → Same H H' → H' p = some (.tup [.ref a, .int ((pre.length : Int) + ((jn [32] (ps.map (ptx d)) ++ 41 :: 120 :: dg m).length : Int))]) → H' a = some (.lst ((List.replicate m (ps.map (pex d)).flatten).flatten.map V.int)) → Q (.ref p) H'
theorem nr_path {d : Nat} (q : Pc d) (h : pok d q) : (∃ p, ptx d q = nT p ∧ pex d q = List.replicate p.2 p.1 ∧ nOk p) ∨ ∃ (d' : Nat) (ps : List (Pc d')) (m : Nat), d = d' + 1 ∧ ps ≠ [] ∧ (∀ x ∈ ps, pok d' x) ∧ 2 ≤ m ∧ m ≤ 99 ∧ ptx d q = 40 :: (jn [32] (ps.map (ptx d')) ++ 41 :: 120 :: dg m) ∧ pex d q = (List.replicate m (ps.map (pex d')).flatten).flatten := by
  cases d with
  | zero => exact .inl ⟨q, rfl, rfl, h⟩
  | succ d =>
    cases q with
    | inl p => exact .inl ⟨p, rfl, rfl, h⟩
    | inr x =>
      obtain ⟨ps, m⟩ := x
      exact .inr ⟨d, ps, m, rfl, h.1, h.2.1, h.2.2.1, h.2.2.2, rfl, rfl⟩
theorem sc_read_piece : FnScope ["text", "at", "brackets", "units", "times"] ["text", "at", "brackets"] (defScope s_read_piece) := ⟨rfl, rfl, rfl, by decide +kernel, rfl, by decide +kernel, by decide +kernel⟩
theorem ok_read_piece (d : Nat) (F : Fun K "read_piece" "read_piece" s_read_piece f fd) (B : Bi mg) (O : Co K mg) (c_read_bracket : Ct P w K mg base k "read_bracket" ["text", "at", "brackets"] (spBr d)) (c_read_number : Ct P w K mg base k "read_number" ["text", "at", "least", "most"] spRn) (c_read_times : Ct P w K mg base k "read_times" ["text", "at"] spTm) (c_repeated : Ct P w K mg base k "repeated" ["load", "times"] spRep) :
    FnOk P w K mg base CX0 (k + 1) f fd ["text", "at", "brackets"] (spPc d) := by
  refine F.ok sc_read_piece (by rintro vs H Q E ⟨pre, post, q, b, rfl, _⟩; rfl) (fun cdv A outer s H vs Q E hr h => ?_)
  obtain ⟨pre, post, pc, b, rfl, hz, hp, hok, hx, hb, hbd, q⟩ := h
  have ND := sc_read_piece.nd
  refine ⟨_, (pss_cons (ps_if (pt_cmpR op_eq (pe_slice sl_str (pv 0) (po_some (pv 1)) (po_some (pe_op op_add (pv 1) pe_int))) pe_str (nomark _)) (pss_one (ps_ret (pf c_read_bracket hr (pa_c (pv 0) (pa_c (pe_op op_add (pv 1) pe_int) (pa_c (pe_op op_add (pv 2) pe_int) pa_nil)))))) pss_nil) (pss_cons (ps_asg (pf c_read_number hr (pa_c (pv 0) (pa_c (pv 1) (pa_c pe_int (pa_c (pglobI O.MOST_UNITS) pa_nil))))) (pg_tup rfl (pgs_cons (pg_name (i := 3) ND rfl (by first | exact Or.inl rfl | exact Or.inr rfl)) (pgs_cons (pg_name (i := 1) ND rfl (by first | exact Or.inl rfl | exact Or.inr rfl)) pgs_nil)))) (pss_cons (ps_if (pt_cmpR op_ne (pe_slice sl_str (pv 0) (po_some (pv 1)) (po_some (pe_op op_add (pv 1) pe_int))) pe_str (nomark _)) (pss_one (ps_ret (pe_tupW (pa_c (pe_lstW (pa_c (pv 3) pa_nil)) (pa_c (pv 1) pa_nil))))) pss_nil) (pss_cons (ps_asg (pf c_read_times hr (pa_c (pv 0) (pa_c (pv 1) pa_nil))) (pg_tup rfl (pgs_cons (pg_name (i := 4) ND rfl (by first | exact Or.inl rfl | exact Or.inr rfl)) (pgs_cons (pg_name (i := 1) ND rfl (by first | exact Or.inl rfl | exact Or.inr rfl)) pgs_nil)))) (pss_one (ps_ret (pe_tupW (pa_c (pf c_repeated hr (pa_c (pe_lstW (pa_c (pv 3) pa_nil)) (pa_c (pv 4) pa_nil))) (pa_c (pv 1) pa_nil))))))))), ?_⟩
  walk_at "rd"
  have hs : (tx (pre ++ ptx d pc ++ post)).length ≤ sizeLine := by rw [tx_len, sizeLine_eq]; omega
  refine ⟨_, rfl, hs, ?_⟩
  rw [List.append_assoc, slice_one, ← List.append_assoc]
  rcases nr_path pc hok with ⟨p, e1, e2, n1, n2, n3, n4⟩ | ⟨d', ps, m, rfl, h1, h2, h3, h4, e1, e2⟩
  · obtain ⟨c, r, ec, hc⟩ := dg_cons p.1
    have eh : ∃ r, nT p ++ post = c :: r := by
      unfold nT; rw [ec]; split <;> exact ⟨_, rfl⟩
    obtain ⟨r', er⟩ := eh
    rw [e1, er]
    walk_at "rd"
    have c40 : c ≠ 40 := by
      intro z; subst z; exact absurd hc (by decide)
    rw [if_neg (by rw [decide_eq_false (fun z => c40 (List.cons.inj (tx_inj (z.trans (show Str.ofString "(" = tx [40] from rfl)))).1)]; decide)]
    rw [e1] at hz hs
    by_cases m1 : p.2 = 1
    · have en : nT p = dg p.1 := by unfold nT; rw [if_pos m1]
      rw [en] at hz hs
      refine Rn.of (pre := pre) (post := post) (n := p.1) (by rw [en]) rfl hz hp.toF n1 n2 n1 n2 fun p1 H1 f1 s1 ep => ?_
      refine ⟨p1, _, rfl, SqT.of ep, rfl, ?_⟩
      walk_at "rd"
      refine ⟨_, rfl, by rw [en]; exact hs, ?_⟩
      have es : Txt.slice (tx (pre ++ nT p ++ post)) (some ((pre.length : Int) + ((dg p.1).length : Int))) (some ((pre.length : Int) + ((dg p.1).length : Int) + 1)) = tx (post.take 1) := by
        have := slice_one (pre ++ dg p.1) post
        rw [en, ← this, List.length_append]
        simp
      rw [es]
      walk_at "rd"
      have ne : ¬ tx (post.take 1) = Str.ofString "x" := fun z => one_ne (P := True) (c := 120) (fun a r e => (hp a r e).2) z
      rw [decide_eq_false ne, if_pos (by decide)]
      refine ⟨by decide, fun a H2 f2 s2 ea => ⟨by decide, fun p3 H3 f3 s3 e3 => q p3 a H3 (s1.free (s2.free f3)) (s1.free f2) (s1.trans (s2.trans s3)) ?_ ?_⟩⟩
      · rw [e3, e1, en]
      · rw [s3 _ _ ea, e2, m1]; rfl
    · have en : nT p = dg p.1 ++ 120 :: dg p.2 := by unfold nT; rw [if_neg m1]
      have et : pre ++ nT p ++ post = pre ++ dg p.1 ++ (120 :: dg p.2 ++ post) := by rw [en]; simp
      rw [et] at hz hs
      refine Rn.of (pre := pre) (post := 120 :: dg p.2 ++ post) (n := p.1) (by rw [et]) rfl hz (fun c r e => by cases e; decide) n1 n2 n1 n2 fun p1 H1 f1 s1 ep => ?_
      refine ⟨p1, _, rfl, SqT.of ep, rfl, ?_⟩
      walk_at "rd"
      refine ⟨_, rfl, by rw [et]; exact hs, ?_⟩
      have es : Txt.slice (tx (pre ++ nT p ++ post)) (some ((pre.length : Int) + ((dg p.1).length : Int))) (some ((pre.length : Int) + ((dg p.1).length : Int) + 1)) = Str.ofString "x" := by
        have := slice_one (pre ++ dg p.1) (120 :: dg p.2 ++ post)
        rw [List.length_append] at this
        rw [et, show Str.ofString "x" = tx [120] from rfl]
        simpa using this
      rw [es]
      walk_at "rd"
      rw [if_neg (by decide)]
      refine Tm.of (pre := pre ++ dg p.1) (post := post) (m := (p.2 : Int)) (by rw [et]; simp) (by simp) (by simpa using hz) hp.toF (by omega) (by omega) fun p2 H2 f2 s2 e3 => ?_
      refine ⟨p2, _, rfl, SqT.of e3, rfl, ?_⟩
      walk_at "rd"
      refine ⟨by decide, fun a H3 f3 s3 e4 => ?_⟩
      refine Rep.of (l := [p.1]) (m := p.2) rfl e4 (by simp; omega) n4 fun a2 H4 f4 s4 e5 => ⟨by decide, fun p5 H5 f5 s5 e6 => ?_⟩
      refine q p5 a2 H5 (s1.free (s2.free (s3.free (s4.free f5)))) (s1.free (s2.free (s3.free f4))) (s1.trans (s2.trans (s3.trans (s4.trans s5)))) ?_ ?_
      · rw [e6, e1, en]; simp; omega
      · rw [s5 _ _ e5, e2]; congr 2; simp
  · have eh : tx (List.take 1 (ptx (d' + 1) pc ++ post)) = Str.ofString "(" := by rw [e1]; rfl
    rw [eh]
    walk_at "rd"
    rw [if_pos (by decide)]
    refine ⟨pre ++ [40], post, ps, m, b + 1, ?_, ?_, hp, h1, h2, h3, h4, by rw [← e2]; exact hx, by omega, by omega, fun p a H' fp fa s' ep ea => q p a H' fp fa s' ?_ ?_⟩
    · rw [e1]; simp
    · rw [e1] at hz; simpa using hz
    · rw [ep, e1]; simp; omega
    · rw [ea, e2]
theorem Pc.of {d : Nat} {pre post : List Nat} {pc : Pc d} {b a : Int} {z : Str} {H : Hp} {Q : VK} {E : XK} (ez : z = tx (pre ++ ptx d pc ++ post)) (ea : a = pre.length) (hz : (pre ++ ptx d pc ++ post).length ≤ 1000000) (hp : noX post) (hok : pok d pc) (hx : (pex d pc).length ≤ 300) (hb : 0 ≤ b) (hbd : b + d ≤ 3)
    (q : ∀ p a H', H p = none → H a = none → Same H H' → H' p = some (.tup [.ref a, .int ((pre.length : Int) + ((ptx d pc).length : Int))]) → H' a = some (.lst ((pex d pc).map V.int)) → Q (.ref p) H') : spPc d ([.str z, .int a, .int b] ++ []) H Q E := by
  subst ez ea
  exact ⟨pre, post, pc, b, rfl, hz, hp, hok, hx, hb, hbd, q⟩
/-- pieces read -/
def spPs (d : Nat) : Sp := fun vs H Q _ => ∃ (pre post : List Nat) (ps : List (Pc d)) (b : Int), vs = [.str (tx (pre ++ jn [32] (ps.map (ptx d)) ++ post)), .int pre.length, .int b] ∧ (pre ++ jn [32] (ps.map (ptx d)) ++ post).length ≤ 1000000 ∧ noB post ∧ ps ≠ [] ∧ (∀ x ∈ ps, pok d x) ∧ (ps.map (pex d)).flatten.length ≤ 300 ∧ 0 ≤ b ∧ b + d ≤ 3 ∧
  ∀ p a H', H p = none → H a = none → Same H H' → H' p = some (.tup [.ref a, .int ((pre.length : Int) + ((jn [32] (ps.map (ptx d))).length : Int))]) → H' a = some (.lst ((ps.map (pex d)).flatten.map V.int)) → Q (.ref p) H'
/-- what stands behind the pieces read so far -/
def tl (r : List (List Nat)) (post : List Nat) : List Nat := if r = [] then post else 32 :: (jn [32] r ++ post)
theorem jn_tl {a : List (List Nat)} (ha : a ≠ []) (r : List (List Nat)) (post : List Nat) : jn [32] (a ++ r) ++ post = jn [32] a ++ tl r post := by
  unfold tl
  by_cases hr : r = []
  · subst hr; simp
  · rw [if_neg hr, jn_app _ _ _ ha hr]; simp
theorem tl_cons (x : List Nat) (r : List (List Nat)) (post : List Nat) : tl (x :: r) post = 32 :: (x ++ tl r post) := by
  have := jn_tl (a := [x]) (by simp) r post
  show 32 :: (jn [32] (x :: r) ++ post) = _
  rw [show jn [32] (x :: r) ++ post = jn [32] ([x] ++ r) ++ post from rfl, this]
  rfl
theorem tl_noX {r : List (List Nat)} {post : List Nat} (hp : noB post) : noX (tl r post) := by
  unfold tl
  split
  · exact hp.x
  · intro c q e; cases e; exact ⟨by decide, by decide⟩
theorem jn_snoc (a : List (List Nat)) (ha : a ≠ []) (x : List Nat) : jn [32] (a ++ [x]) = jn [32] a ++ 32 :: x := by
  rw [jn_app _ _ _ ha (by simp)]; simp [jn]
theorem sc_read_pieces : FnScope ["text", "at", "brackets", "load", "piece"] ["text", "at", "brackets"] (defScope s_read_pieces) := ⟨rfl, rfl, rfl, by decide +kernel, rfl, by decide +kernel, by decide +kernel⟩
theorem ok_read_pieces (d : Nat) (F : Fun K "read_pieces" "read_pieces" s_read_pieces f fd) (B : Bi mg) (O : Co K mg) (c_read_piece : Ct P w K mg base k "read_piece" ["text", "at", "brackets"] (spPc d)) (c_check_beats : Ct P w K mg base k "check_beats" ["many"] spChk) :
    FnOk P w K mg base CX0 (k + 1) f fd ["text", "at", "brackets"] (spPs d) := by
  refine F.ok sc_read_pieces (by rintro vs H Q E ⟨pre, post, ps, b, rfl, _⟩; rfl) (fun cdv A outer s H vs Q E hr h => ?_)
  obtain ⟨pre, post, ps, b, rfl, hz, hp, hne, hok, hx, hb, hbd, q⟩ := h
  have ND := sc_read_pieces.nd
  generalize hT : tx (pre ++ jn [32] (ps.map (ptx d)) ++ post) = T
  refine ⟨_, (pss_cons (ps_asg (pf c_read_piece hr (pa_c (pv 0) (pa_c (pv 1) (pa_c (pv 2) pa_nil)))) (pg_tup rfl (pgs_cons (pg_name (i := 3) ND rfl (by first | exact Or.inl rfl | exact Or.inr rfl)) (pgs_cons (pg_name (i := 1) ND rfl (by first | exact Or.inl rfl | exact Or.inr rfl)) pgs_nil)))) (pss_cons (ps_while PassesOwn.never (pt_cmpR op_eq (pe_slice sl_str (pv 0) (po_some (pv 1)) (po_some (pe_op op_add (pv 1) pe_int))) pe_str (nomark _)) (pss_cons (ps_asg (pf c_read_piece hr (pa_c (pv 0) (pa_c (pe_op op_add (pv 1) pe_int) (pa_c (pv 2) pa_nil)))) (pg_tup rfl (pgs_cons (pg_name (i := 4) ND rfl (by first | exact Or.inl rfl | exact Or.inr rfl)) (pgs_cons (pg_name (i := 1) ND rfl (by first | exact Or.inl rfl | exact Or.inr rfl)) pgs_nil)))) (pss_cons (ps_set (i := 3) ND rfl (by first | exact Or.inl rfl | exact Or.inr rfl) (pe_op op_cat (pv 3) (pv 4))) (pss_one (ps_expr (pf c_check_beats hr (pa_c (pb (call_lenK (K := K) rfl) B.len bt_len (pa_c (pv 3) pa_nil)) pa_nil))))))) (pss_one (ps_ret (pe_tupW (pa_c (pv 3) (pa_c (pv 1) pa_nil))))))), ?_⟩
  walk_at "rd"
  cases ps with
  | nil => exact absurd rfl hne
  | cons x0 r0 =>
  have et0 : pre ++ jn [32] (List.map (ptx d) (x0 :: r0)) ++ post = pre ++ ptx d x0 ++ tl (r0.map (ptx d)) post := by
    have := jn_tl (a := [ptx d x0]) (by simp) (r0.map (ptx d)) post
    rw [List.append_assoc, show List.map (ptx d) (x0 :: r0) = [ptx d x0] ++ r0.map (ptx d) from rfl, this]
    simp [jn]
  have lx : ∀ x ∈ x0 :: r0, (pex d x).length ≤ 300 := fun x hm => by
    refine Nat.le_trans ?_ hx
    have := List.Sublist.length_le (List.sublist_flatten_of_mem (List.mem_map_of_mem (f := pex d) hm))
    exact this
  refine Pc.of (pc := x0) (pre := pre) (post := tl (r0.map (ptx d)) post) (by rw [← hT, et0]) rfl (by rw [← et0]; exact hz) (tl_noX hp) (hok x0 (List.mem_cons_self ..)) (lx x0 (List.mem_cons_self ..)) hb hbd fun p1 a1 H1 f1 g1 s1 e1 e2 => ?_
  refine ⟨p1, _, rfl, SqT.of e1, rfl, ?_⟩
  walk_at "rd"
  have hs : T.length ≤ sizeLine := by rw [← hT, tx_len, sizeLine_eq]; omega
  refine ⟨fun m σ H' => ∃ (dn rs : List (Pc d)) (a : Addr) (o : Option V), dn ≠ [] ∧ x0 :: r0 = dn ++ rs ∧ m = rs.length ∧ Same H H' ∧ H a = none ∧ H' a = some (.lst ((dn.map (pex d)).flatten.map V.int)) ∧
    σ = [some (V.str T), some (V.int ((pre.length : Int) + ((jn [32] (dn.map (ptx d))).length : Int))), some (V.int b), some (V.ref a), o],
    ⟨_, [x0], r0, a1, none, by simp, rfl, rfl, s1, g1, by simpa using e2, rfl⟩, ?_⟩
  rintro m σ H2 ⟨dn, rs, a, o, hd, er, rfl, s2, ga, ea, rfl⟩
  walk_at "rd"
  refine ⟨_, rfl, hs, ?_⟩
  have et : pre ++ jn [32] (List.map (ptx d) (x0 :: r0)) ++ post = pre ++ jn [32] (dn.map (ptx d)) ++ tl (rs.map (ptx d)) post := by
    rw [List.append_assoc, er, List.map_append, jn_tl (by simpa using hd)]; simp
  have es : Txt.slice T (some ((pre.length : Int) + ((jn [32] (dn.map (ptx d))).length : Int))) (some ((pre.length : Int) + ((jn [32] (dn.map (ptx d))).length : Int) + 1)) = tx ((tl (rs.map (ptx d)) post).take 1) := by
    have := slice_one (pre ++ jn [32] (dn.map (ptx d))) (tl (rs.map (ptx d)) post)
    rw [← this, List.length_append, ← hT, et]
    simp
  rw [es]
  cases rs with
  | nil =>
    rw [show tl (List.map (ptx d) ([] : List (Pc d))) post = post from rfl]
    walk_at "rd"
    have ne : ¬ tx (List.take 1 post) = Str.ofString " " := fun z => one_ne (P := True) (c := 32) (l := post) (fun a r e => (hp a r e).2.2) z
    rw [decide_eq_false ne, if_neg (by decide)]
    refine ⟨by decide, fun p3 H3 f3 s3 e3 => q p3 a H3 (s2.free f3) ga (s2.trans s3) ?_ ?_⟩
    · rw [e3, er]; simp
    · rw [s3 _ _ ea, er]; simp
  | cons x r =>
    have ex : tx (List.take 1 (tl (List.map (ptx d) (x :: r)) post)) = Str.ofString " " := by rw [List.map_cons, tl_cons]; rfl
    rw [ex]
    walk_at "rd"
    rw [if_pos (by decide)]
    have hxm : x ∈ x0 :: r0 := by rw [er]; simp
    have ett : pre ++ jn [32] (List.map (ptx d) (x0 :: r0)) ++ post = pre ++ jn [32] (dn.map (ptx d)) ++ [32] ++ ptx d x ++ tl (r.map (ptx d)) post := by
      rw [et, List.map_cons, tl_cons]; simp
    refine ⟨fun σ' H' => ∃ (a : Addr) (o : Option V), Same H H' ∧ H a = none ∧ H' a = some (.lst (((dn ++ [x]).map (pex d)).flatten.map V.int)) ∧
      σ' = [some (V.str T), some (V.int ((pre.length : Int) + ((jn [32] ((dn ++ [x]).map (ptx d))).length : Int))), some (V.int b), some (V.ref a), o], ?_, ?_⟩
    · rintro σ' H' ⟨a, o, h1, h2, h3, h4⟩
      exact ⟨r.length, by omega, dn ++ [x], r, a, o, by simp, by rw [er]; simp, rfl, h1, h2, h3, h4⟩
    refine Pc.of (pc := x) (pre := pre ++ jn [32] (dn.map (ptx d)) ++ [32]) (post := tl (r.map (ptx d)) post) (by rw [← hT, ett]) (by simp; omega) (by rw [← ett]; exact hz) (tl_noX hp) (hok x hxm) (lx x hxm) hb hbd fun p3 a3 H3 f3 g3 s3 e3 e4 => ?_
    refine ⟨p3, _, rfl, SqT.of e3, rfl, ?_⟩
    walk_at "rd"
    have hl : ((dn ++ [x]).map (pex d)).flatten.length ≤ 300 := by
      refine Nat.le_trans ?_ hx
      rw [er, show dn ++ x :: r = dn ++ [x] ++ r by simp, List.map_append (l₁ := dn ++ [x]), List.flatten_append, List.length_append]
      omega
    have hl2 : (dn.map (pex d)).flatten.length + (pex d x).length ≤ 300 := by
      rw [List.map_append, List.flatten_append, List.length_append] at hl
      simpa only [List.map_singleton, List.flatten_singleton] using hl
    refine ⟨a, a3, _, _, rfl, rfl, s3 _ _ ea, e4, ?_, fun p5 f5 => ?_⟩
    · rw [List.length_map, List.length_map, sizeLine_eq]
      omega
    refine ⟨p5, _, rfl, .inl (SqL.of upd_same), ?_⟩
    refine ⟨_, rfl, ?_, ⟨p5, some (V.ref a3), s2.trans (s3.trans (same_new f5 _)), s2.free (s3.free f5), ?_, ?_⟩⟩
    · rw [List.length_append, List.length_map, List.length_map]
      omega
    · rw [upd_same]; simp
    · congr 3
      rw [List.map_append, List.map_singleton, jn_snoc _ (by simpa using hd)]
      simp
      omega
theorem Ps.of {d : Nat} {pre post : List Nat} {ps : List (Pc d)} {b a : Int} {z : Str} {H : Hp} {Q : VK} {E : XK} (ez : z = tx (pre ++ jn [32] (ps.map (ptx d)) ++ post)) (ea : a = pre.length) (hz : (pre ++ jn [32] (ps.map (ptx d)) ++ post).length ≤ 1000000) (hp : noB post) (hne : ps ≠ []) (hok : ∀ x ∈ ps, pok d x) (hx : (ps.map (pex d)).flatten.length ≤ 300) (hb : 0 ≤ b) (hbd : b + d ≤ 3)
    (q : ∀ p a H', H p = none → H a = none → Same H H' → H' p = some (.tup [.ref a, .int ((pre.length : Int) + ((jn [32] (ps.map (ptx d))).length : Int))]) → H' a = some (.lst ((ps.map (pex d)).flatten.map V.int)) → Q (.ref p) H') : spPs d ([.str z, .int a, .int b] ++ []) H Q E := by
  subst ez ea
  exact ⟨pre, post, ps, b, rfl, hz, hp, hne, hok, hx, hb, hbd, q⟩
theorem sc_read_bracket : FnScope ["text", "at", "brackets", "load", "times"] ["text", "at", "brackets"] (defScope s_read_bracket) := ⟨rfl, rfl, rfl, by decide +kernel, rfl, by decide +kernel, by decide +kernel⟩
theorem ok_read_bracket (d : Nat) (F : Fun K "read_bracket" "read_bracket" s_read_bracket f fd) (B : Bi mg) (O : Co K mg) (c_read_pieces : Ct P w K mg base k "read_pieces" ["text", "at", "brackets"] (spPs d)) (c_read_times : Ct P w K mg base k "read_times" ["text", "at"] spTm) (c_repeated : Ct P w K mg base k "repeated" ["load", "times"] spRep) :
    FnOk P w K mg base CX0 (k + 1) f fd ["text", "at", "brackets"] (spBr (d + 1)) := by
  refine F.ok sc_read_bracket (by rintro vs H Q E ⟨pre, post, ps, m, b, rfl, _⟩; rfl) (fun cdv A outer s H vs Q E hr h => ?_)
  obtain ⟨pre, post, ps, m, b, rfl, hz, hp, hne, hok, h2, h99, hx, hb, hbd, q⟩ := h
  have ND := sc_read_bracket.nd
  generalize hT : tx (pre ++ (jn [32] (ps.map (ptx d)) ++ 41 :: 120 :: dg m) ++ post) = T
  refine ⟨_, (pss_cons (ps_if (pt_cmpR op_gt (pv 2) (pglobI O.MOST_BRACKETS) (nomark _)) (pss_one ps_no) pss_nil) (pss_cons (ps_asg (pf c_read_pieces hr (pa_c (pv 0) (pa_c (pv 1) (pa_c (pv 2) pa_nil)))) (pg_tup rfl (pgs_cons (pg_name (i := 3) ND rfl (by first | exact Or.inl rfl | exact Or.inr rfl)) (pgs_cons (pg_name (i := 1) ND rfl (by first | exact Or.inl rfl | exact Or.inr rfl)) pgs_nil)))) (pss_cons (ps_if (pt_cmpR op_ne (pe_slice sl_str (pv 0) (po_some (pv 1)) (po_some (pe_op op_add (pv 1) pe_int))) pe_str (nomark _)) (pss_one ps_no) pss_nil) (pss_cons (ps_asg (pf c_read_times hr (pa_c (pv 0) (pa_c (pe_op op_add (pv 1) pe_int) pa_nil))) (pg_tup rfl (pgs_cons (pg_name (i := 4) ND rfl (by first | exact Or.inl rfl | exact Or.inr rfl)) (pgs_cons (pg_name (i := 1) ND rfl (by first | exact Or.inl rfl | exact Or.inr rfl)) pgs_nil)))) (pss_one (ps_ret (pe_tupW (pa_c (pf c_repeated hr (pa_c (pv 3) (pa_c (pv 4) pa_nil))) (pa_c (pv 1) pa_nil))))))))), ?_⟩
  walk_at "rd"
  rw [if_neg (by rw [decide_eq_false (by omega)]; decide)]
  have et : pre ++ (jn [32] (ps.map (ptx d)) ++ 41 :: 120 :: dg m) ++ post = pre ++ jn [32] (ps.map (ptx d)) ++ (41 :: 120 :: dg m ++ post) := by simp
  have hs : T.length ≤ sizeLine := by rw [← hT, tx_len, sizeLine_eq]; omega
  have lfl : (List.replicate m (ps.map (pex d)).flatten).flatten.length = m * (ps.map (pex d)).flatten.length := by
    exact len_rep _ _
  have hl : (ps.map (pex d)).flatten.length ≤ 300 := by
    rw [lfl] at hx
    refine Nat.le_trans (Nat.le_mul_of_pos_left _ (by omega)) hx
  refine Ps.of (pre := pre) (post := 41 :: 120 :: dg m ++ post) (by rw [← hT, et]) rfl (by rw [← et]; exact hz) (fun c r e => by cases e; decide) hne hok hl hb hbd fun p1 a1 H1 f1 g1 s1 e1 e2 => ?_
  refine ⟨p1, _, rfl, SqT.of e1, rfl, ?_⟩
  walk_at "rd"
  refine ⟨_, rfl, hs, ?_⟩
  have es : Txt.slice T (some ((pre.length : Int) + ((jn [32] (ps.map (ptx d))).length : Int))) (some ((pre.length : Int) + ((jn [32] (ps.map (ptx d))).length : Int) + 1)) = Str.ofString ")" := by
    have := slice_one (pre ++ jn [32] (ps.map (ptx d))) (41 :: 120 :: dg m ++ post)
    rw [show Str.ofString ")" = tx (List.take 1 (41 :: 120 :: dg m ++ post)) from rfl, ← this, List.length_append, ← hT, et]
    simp
  rw [es]
  walk_at "rd"
  rw [if_neg (by decide)]
  refine Tm.of (pre := pre ++ jn [32] (ps.map (ptx d)) ++ [41]) (post := post) (m := (m : Int)) (by rw [← hT, et]; simp) (by simp; omega) (by rw [et] at hz; simpa using hz) hp.toF (by omega) (by omega) fun p2 H2 f2 s2 e3 => ?_
  refine ⟨p2, _, rfl, SqT.of e3, rfl, ?_⟩
  walk_at "rd"
  refine Rep.of (l := (ps.map (pex d)).flatten) (m := m) rfl (s2 _ _ e2) (by rw [lfl] at hx; rw [Nat.mul_comm]; exact hx) h99 fun a2 H4 f4 s4 e5 => ⟨by decide, fun p5 H5 f5 s5 e6 => ?_⟩
  refine q p5 a2 H5 (s1.free (s2.free (s4.free f5))) (s1.free (s2.free f4)) (s1.trans (s2.trans (s4.trans s5))) ?_ ?_
  · rw [e6]; simp; omega
  · rw [s5 _ _ e5]
theorem ok_read_bracket0 (F : Fun K "read_bracket" "read_bracket" s_read_bracket f fd) : FnOk P w K mg base CX0 (k + 1) f fd ["text", "at", "brackets"] (spBr 0) := by
  refine F.ok sc_read_bracket (fun vs H Q E h => False.elim h) (fun cdv A outer s H vs Q E hr h => False.elim h)
/-- a load's text read -/
def spLo (d : Nat) : Sp := fun vs H Q _ => (∃ (ps : List (Pc d)), vs = [.str (tx (jn [32] (ps.map (ptx d))))] ∧ (jn [32] (ps.map (ptx d))).length ≤ 1000000 ∧ ps ≠ [] ∧ (∀ x ∈ ps, pok d x) ∧ (ps.map (pex d)).flatten.length ≤ 300 ∧ d ≤ 3 ∧
  ∀ a H', H a = none → Same H H' → H' a = some (.lst ((ps.map (pex d)).flatten.map V.int)) → Q (.ref a) H') ∨ (vs = [.str (tx [45])] ∧ ∀ a H', H a = none → Same H H' → H' a = some (.lst []) → Q (.ref a) H')
theorem nT_head (p : Int × Nat) : ∃ c r, nT p = c :: r ∧ c ≠ 45 := by
  obtain ⟨c, r, e, h⟩ := dg_cons p.1
  have hc : c ≠ 45 := fun z => by subst z; exact absurd h (by decide)
  unfold nT
  rw [e]
  split
  · exact ⟨c, r, rfl, hc⟩
  · exact ⟨c, _, rfl, hc⟩
theorem ptx_head {d : Nat} (q : Pc d) (h : pok d q) : ∃ c r, ptx d q = c :: r ∧ c ≠ 45 := by
  rcases nr_path q h with ⟨p, e, _⟩ | ⟨d', ps, m, _, _, _, _, _, e, _⟩
  · rw [e]; exact nT_head p
  · rw [e]; exact ⟨_, _, rfl, by decide⟩
theorem sc_load_of : FnScope ["text", "load", "end"] ["text"] (defScope s_load_of) := ⟨rfl, rfl, rfl, by decide +kernel, rfl, by decide +kernel, by decide +kernel⟩
theorem ok_load_of (d : Nat) (F : Fun K "load_of" "load_of" s_load_of f fd) (B : Bi mg) (O : Co K mg) (c_read_pieces : Ct P w K mg base k "read_pieces" ["text", "at", "brackets"] (spPs d)) : FnOk P w K mg base CX0 (k + 1) f fd ["text"] (spLo d) := by
  refine F.ok sc_load_of (by rintro vs H Q E (⟨ps, rfl, _⟩ | ⟨rfl, _⟩) <;> rfl) (fun cdv A outer s H vs Q E hr h => ?_)
  have ND := sc_load_of.nd
  rcases h with ⟨ps, rfl, hz, hne, hok, hx, hd, q⟩ | ⟨rfl, q⟩
  · generalize hT : tx (jn [32] (ps.map (ptx d))) = T
    refine ⟨_, (pss_cons (ps_if (pt_cmpR op_eq (pv 0) (pglobS O.EMPTY) (nomark _)) (pss_one (ps_ret (pe_lstW pa_nil))) pss_nil) (pss_cons (ps_asg (pf c_read_pieces hr (pa_c (pv 0) (pa_c pe_int (pa_c pe_int pa_nil)))) (pg_tup rfl (pgs_cons (pg_name (i := 1) ND rfl (by first | exact Or.inl rfl | exact Or.inr rfl)) (pgs_cons (pg_name (i := 2) ND rfl (by first | exact Or.inl rfl | exact Or.inr rfl)) pgs_nil)))) (pss_cons (ps_if (pt_cmpR op_lt (pv 2) (pb (call_len_str) B.len bt_len (pa_c (pv 0) pa_nil)) (nomark _)) (pss_one ps_no) pss_nil) (pss_one (ps_ret (pv 1)))))), ?_⟩
    walk_at "rd"
    have hs : T.length ≤ sizeLine := by rw [← hT, tx_len, sizeLine_eq]; omega
    have ne : ¬ T = Str.ofString "-" := by
      rw [← hT, show Str.ofString "-" = tx [45] from rfl]
      intro z
      have z := tx_inj z
      cases ps with
      | nil => exact hne rfl
      | cons x r =>
        obtain ⟨c, t, e, hc⟩ := ptx_head x (hok x (List.mem_cons_self ..))
        have := jn_tl (a := [ptx d x]) (by simp) (r.map (ptx d)) []
        rw [List.append_nil] at this
        rw [show List.map (ptx d) (x :: r) = [ptx d x] ++ r.map (ptx d) from rfl, this] at z
        rw [show jn [32] [ptx d x] = ptx d x from rfl, e] at z
        exact hc (List.cons.inj z).1
    rw [decide_eq_false ne, if_neg (by decide)]
    refine Ps.of (ps := ps) (pre := []) (post := []) (by rw [← hT]; simp) rfl (by simpa using hz) noB_nil hne hok hx (by omega) (by omega) fun p1 a1 H1 f1 g1 s1 e1 e2 => ?_
    refine ⟨p1, _, rfl, SqT.of e1, rfl, ?_⟩
    walk_at "rd"
    refine ⟨_, rfl, hs, ?_⟩
    rw [if_neg (by rw [decide_eq_false (by rw [← hT, tx_len]; simp)]; decide)]
    exact q a1 H1 g1 s1 e2
  · refine ⟨_, (pss_cons (ps_if (pt_cmpR op_eq (pv 0) (pglobS O.EMPTY) (nomark _)) (pss_one (ps_ret (pe_lstW pa_nil))) pss_nil) (pss_cons (ps_asg (pf c_read_pieces hr (pa_c (pv 0) (pa_c pe_int (pa_c pe_int pa_nil)))) (pg_tup rfl (pgs_cons (pg_name (i := 1) ND rfl (by first | exact Or.inl rfl | exact Or.inr rfl)) (pgs_cons (pg_name (i := 2) ND rfl (by first | exact Or.inl rfl | exact Or.inr rfl)) pgs_nil)))) (pss_cons (ps_if (pt_cmpR op_lt (pv 2) (pb (call_len_str) B.len bt_len (pa_c (pv 0) pa_nil)) (nomark _)) (pss_one ps_no) pss_nil) (pss_one (ps_ret (pv 1)))))), ?_⟩
    walk_at "rd"
    rw [show Str.ofString "-" = tx [45] from rfl, decide_eq_true rfl, if_pos rfl]
    exact ⟨by decide, fun a H' fa s' e => q a H' fa s' e⟩
end
end K20
namespace K20
open PySem L2
local macro_rules | `(tactic| walk_at "rd") => `(tactic| simp only [L2.start, List.map_cons, List.map_nil, List.length_cons, List.length_nil, Nat.reduceAdd, Nat.reduceSub, List.replicate, List.cons_append, List.nil_append, List.append_nil,
  tSeq, tIfS, tRet, tRetN, tNext, tAsg, gName, tDrop, rd_var0, rd_varS, rd_gcons, rd_gnil, if_true, if_false, Bool.false_eq_true, Bool.not_true, Bool.not_false, rd_set0, rd_setS, rd_eqI, rd_neI, rd_eqS, rd_neS, rd_argI, rd_argB, rd_argII, rd_test, rd_int, rd_ii, tC, tOp, tUn, rI0, rI, rU, tTest, tAnd, tOr, tNot, tAndV, tOrV, tNotV, tIf, tCall, tCB, tCons, tNil, tB, tChain, tSl, tNoPart, tPart, gSub, tPar, tLst, tTup, tLstW, tTupW, tBM, tAug, tPar3, tAugS, ipI, tMaxD, tGT2, tFv, tJs, tJ1, tJ0, tTru])
section
variable {P : Program} {w : World} {K : PySem.W.Frag} {mg : Str → Option Value} {base : Heap} {f : Addr} {fd : FuncData} {k : Nat}
/-- the law's own look at two numbers, at two lists of numbers -/
def spSi : Sp := fun vs H Q _ => ∃ i : Int, vs = [.int i, .int i] ∧ ∀ H', Same H H' → Q (.bl true) H'
def spSl : Sp := fun vs H Q _ => ∃ (a b : Addr) (l : List Int), vs = [.ref a, .ref b] ∧ H a = some (.lst (l.map V.int)) ∧ H b = some (.lst (l.map V.int)) ∧ l.length ≤ 1000 ∧ ∀ H', Same H H' → Q (.bl true) H'
theorem sc_l_same : FnScope ["_law_found", "_law_due"] ["_law_found", "_law_due"] (defScope s_l_same) := ⟨rfl, rfl, rfl, by decide +kernel, rfl, by decide +kernel, by decide +kernel⟩
def spNo : Sp := fun _ _ _ _ => False
theorem ok_l_same0 (F : Fun K "_law_same" "_law_same" s_l_same f fd) : FnOk P w K mg base CX0 (k + 1) f fd ["_law_found", "_law_due"] spNo := by
  refine F.ok sc_l_same (fun vs H Q E h => False.elim h) (fun cdv A outer s H vs Q E hr h => False.elim h)
theorem bools_all {n : Nat} : (List.replicate n true).all id = true := by
  rw [List.all_eq_true]
  intro x hx
  rw [List.eq_of_mem_replicate hx]
  rfl
theorem bools_back {G : Hp} : ∀ {n : Nat} {xs : List V}, AtAll G (List.replicate n (PyData.bool true)) xs → xs = (List.replicate n true).map V.bl
  | 0, xs, h => by unfold AtAll at h; exact h
  | n + 1, xs, h => by
    rw [List.replicate_succ] at h
    obtain ⟨x, r, rfl, h1, h2⟩ := AtAll.uncons h
    unfold At at h1
    rw [h1, bools_back h2]; rfl
theorem ok_l_sameI (F : Fun K "_law_same" "_law_same" s_l_same f fd) (B : Bi mg) (c_l_same : Ct P w K mg base k "_law_same" ["_law_found", "_law_due"] spNo) : FnOk P w K mg base CX0 (k + 1) f fd ["_law_found", "_law_due"] spSi := by
  refine F.ok sc_l_same (by rintro vs H Q E ⟨i, rfl, _⟩; rfl) (fun cdv A outer s H vs Q E hr h => ?_)
  obtain ⟨i, rfl, q⟩ := h
  have ND := sc_l_same.nd
  refine ⟨_, (pss_cons (ps_if (pt_val (pb isi_lt B.isinstance bt_isinstance (pa_c (pv 1) (pa_c (pe_tupW (pa_c (pty (by rfl) B.list bt_list) (pa_c (pty (by rfl) B.tuple bt_tuple) pa_nil))) pa_nil)))) (pss_cons (ps_if (PW.pt (pw_or (pt_cmpR op_ne (pb isi_lst B.isinstance bt_isinstance (pa_c (pv 0) (pa_c (pty (by rfl) B.list bt_list) pa_nil))) (pb isi_lst B.isinstance bt_isinstance (pa_c (pv 1) (pa_c (pty (by rfl) B.list bt_list) pa_nil))) (nomark _)) (pw_or1 (pt_cmpR op_ne (pb isi_tup B.isinstance bt_isinstance (pa_c (pv 0) (pa_c (pty (by rfl) B.tuple bt_tuple) pa_nil))) (pb isi_tup B.isinstance bt_isinstance (pa_c (pv 1) (pa_c (pty (by rfl) B.tuple bt_tuple) pa_nil))) (nomark _))))) (pss_one (ps_ret pe_bl)) pss_nil) (pss_one (ps_ret (pe_and (pe_cmpR op_eq (pb (call_lenK (K := K) rfl) B.len bt_len (pa_c (pv 0) pa_nil)) (pb (call_lenK (K := K) rfl) B.len bt_len (pa_c (pv 1) pa_nil)) (nomark _)) (pe_one (pb (call_allB rfl) B.all bt_all (pa_c (pe_compG (nt := 2) (N' := ["_law_one", "_law_other"]) (js := []) rfl (pi_zipL (K := K) rfl B.zip (pa_c (pv 0) (pa_c (pv 1) pa_nil))) CScG.of (fun fp s' H' => (pg_tupK (K := K) (n := 2) rfl rfl (pgs_cons (pg_name (i := 0) (by show List.Nodup (["_law_one", "_law_other"] : List Str); decide) rfl (.inl (lookup_relabel_local rfl)) (.inr (lookup_relabel_local rfl))) (pgs_cons (pg_name (i := 1) (by show List.Nodup (["_law_one", "_law_other"] : List Str); decide) rfl (.inl (lookup_relabel_local rfl)) (.inr (lookup_relabel_local rfl))) pgs_nil)))) (fun fp s' H' => ifs_nil) (fun fp s' H' => (pf c_l_same hr (pa_c (pv 0) (pa_c (pv 1) pa_nil))))) pa_nil))))))) pss_nil) (pss_cons (ps_if (pt_cmpR op_isN (pv 1) pe_non (nomark _)) (pss_one (ps_ret (pe_cmpR op_isN (pv 0) pe_non (nomark _)))) pss_nil) (pss_cons (ps_if (pt_val (pb isi_str B.isinstance bt_isinstance (pa_c (pv 1) (pa_c (pty (by rfl) B.str bt_str) pa_nil)))) (pss_one (ps_ret (pe_and (pb isi_str B.isinstance bt_isinstance (pa_c (pv 0) (pa_c (pty (by rfl) B.str bt_str) pa_nil))) (pe_one (pe_cmpR (op_eqD hr.units) (pv 0) (pv 1) (nomark _)))))) pss_nil) (pss_one (ps_ret (pe_and (pb isi_int B.isinstance bt_isinstance (pa_c (pv 0) (pa_c (pty (by rfl) B.int bt_int) pa_nil))) (pe_and (pe_cmpR op_eq (pb isi_bool B.isinstance bt_isinstance (pa_c (pv 0) (pa_c (pty (by rfl) B.bool bt_bool) pa_nil))) (pb isi_bool B.isinstance bt_isinstance (pa_c (pv 1) (pa_c (pty (by rfl) B.bool bt_bool) pa_nil))) (nomark _)) (pe_one (pe_cmpR (op_eqD hr.units) (pv 0) (pv 1) (nomark _)))))))))), ?_⟩
  walk_at "rd"
  refine ⟨(by decide), fun pt H1 f1 s1 e1 => ?_⟩
  have hv1 : At H1 (.int i) (V.int i) := At.int _
  refine ⟨_, .int i, pt, rfl, hv1, e1, ?_⟩
  rw [if_neg (by exact fun z => by cases z)]
  refine ⟨trivial, ?_⟩
  rw [if_neg (by rw [decide_eq_true_eq]; exact fun z => by cases z)]
  refine Isi.of hv1 ⟨_, rfl, ?_⟩
  rw [if_neg (by exact fun z => by cases z)]
  refine Isi.of hv1 ⟨_, rfl, ?_⟩
  rw [if_pos (by rfl)]
  refine Isi.of hv1 (Isi.of hv1 ⟨rfl, _, rfl, ?_⟩)
  rw [if_pos (by rw [decide_eq_true_eq])]
  refine ⟨_, _, hv1, hv1, rfl, rfl, rfl, rfl, by show 0 ≤ 60; decide, ?_⟩
  rw [SeqAt.eqv_refl _ rfl]
  exact q _ s1
theorem ok_l_sameL (F : Fun K "_law_same" "_law_same" s_l_same f fd) (B : Bi mg) (c_l_same : Ct P w K mg base k "_law_same" ["_law_found", "_law_due"] spSi) : FnOk P w K mg base CX0 (k + 1) f fd ["_law_found", "_law_due"] spSl := by
  refine F.ok sc_l_same (by rintro vs H Q E ⟨a, b, l, rfl, _⟩; rfl) (fun cdv A outer s H vs Q E hr h => ?_)
  obtain ⟨a, b, l, rfl, ha, hb, hn, q⟩ := h
  have ND := sc_l_same.nd
  refine ⟨_, (pss_cons (ps_if (pt_val (pb isi_lt B.isinstance bt_isinstance (pa_c (pv 1) (pa_c (pe_tupW (pa_c (pty (by rfl) B.list bt_list) (pa_c (pty (by rfl) B.tuple bt_tuple) pa_nil))) pa_nil)))) (pss_cons (ps_if (PW.pt (pw_or (pt_cmpR op_ne (pb isi_lst B.isinstance bt_isinstance (pa_c (pv 0) (pa_c (pty (by rfl) B.list bt_list) pa_nil))) (pb isi_lst B.isinstance bt_isinstance (pa_c (pv 1) (pa_c (pty (by rfl) B.list bt_list) pa_nil))) (nomark _)) (pw_or1 (pt_cmpR op_ne (pb isi_tup B.isinstance bt_isinstance (pa_c (pv 0) (pa_c (pty (by rfl) B.tuple bt_tuple) pa_nil))) (pb isi_tup B.isinstance bt_isinstance (pa_c (pv 1) (pa_c (pty (by rfl) B.tuple bt_tuple) pa_nil))) (nomark _))))) (pss_one (ps_ret pe_bl)) pss_nil) (pss_one (ps_ret (pe_and (pe_cmpR op_eq (pb (call_lenK (K := K) rfl) B.len bt_len (pa_c (pv 0) pa_nil)) (pb (call_lenK (K := K) rfl) B.len bt_len (pa_c (pv 1) pa_nil)) (nomark _)) (pe_one (pb (call_allB rfl) B.all bt_all (pa_c (pe_compG (nt := 2) (N' := ["_law_one", "_law_other"]) (js := []) rfl (pi_zipL (K := K) rfl B.zip (pa_c (pv 0) (pa_c (pv 1) pa_nil))) CScG.of (fun fp s' H' => (pg_tupK (K := K) (n := 2) rfl rfl (pgs_cons (pg_name (i := 0) (by show List.Nodup (["_law_one", "_law_other"] : List Str); decide) rfl (.inl (lookup_relabel_local rfl)) (.inr (lookup_relabel_local rfl))) (pgs_cons (pg_name (i := 1) (by show List.Nodup (["_law_one", "_law_other"] : List Str); decide) rfl (.inl (lookup_relabel_local rfl)) (.inr (lookup_relabel_local rfl))) pgs_nil)))) (fun fp s' H' => ifs_nil) (fun fp s' H' => (pf c_l_same hr (pa_c (pv 0) (pa_c (pv 1) pa_nil))))) pa_nil))))))) pss_nil) (pss_cons (ps_if (pt_cmpR op_isN (pv 1) pe_non (nomark _)) (pss_one (ps_ret (pe_cmpR op_isN (pv 0) pe_non (nomark _)))) pss_nil) (pss_cons (ps_if (pt_val (pb isi_str B.isinstance bt_isinstance (pa_c (pv 1) (pa_c (pty (by rfl) B.str bt_str) pa_nil)))) (pss_one (ps_ret (pe_and (pb isi_str B.isinstance bt_isinstance (pa_c (pv 0) (pa_c (pty (by rfl) B.str bt_str) pa_nil))) (pe_one (pe_cmpR (op_eqD hr.units) (pv 0) (pv 1) (nomark _)))))) pss_nil) (pss_one (ps_ret (pe_and (pb isi_int B.isinstance bt_isinstance (pa_c (pv 0) (pa_c (pty (by rfl) B.int bt_int) pa_nil))) (pe_and (pe_cmpR op_eq (pb isi_bool B.isinstance bt_isinstance (pa_c (pv 0) (pa_c (pty (by rfl) B.bool bt_bool) pa_nil))) (pb isi_bool B.isinstance bt_isinstance (pa_c (pv 1) (pa_c (pty (by rfl) B.bool bt_bool) pa_nil))) (nomark _)) (pe_one (pe_cmpR (op_eqD hr.units) (pv 0) (pv 1) (nomark _)))))))))), ?_⟩
  walk_at "rd"
  refine ⟨(by decide), fun pt H1 f1 s1 e1 => ?_⟩
  have ha1 := s1 _ _ ha
  have hb1 := s1 _ _ hb
  have hv1 : At H1 (.list (l.map .int)) (V.ref a) := At.lst ha1 (ats_ints _)
  have hu1 : At H1 (.list (l.map .int)) (V.ref b) := At.lst hb1 (ats_ints _)
  refine ⟨_, .list (l.map .int), pt, rfl, hu1, e1, ?_⟩
  rw [if_pos (by rfl)]
  refine Isi.of hv1 (Isi.of hu1 ⟨rfl, _, rfl, ?_⟩)
  rw [if_neg (by show ¬ ((!decide (V.bl true = V.bl true)) = true); decide)]
  refine Isi.of hv1 (Isi.of hu1 ⟨rfl, _, rfl, ?_⟩)
  rw [if_neg (by show ¬ ((!decide (V.bl false = V.bl false)) = true); decide)]
  refine ⟨a, _, rfl, .inl (SqL.of ha1), b, _, rfl, .inl (SqL.of hb1), ?_⟩
  refine ⟨rfl, _, rfl, ?_⟩
  rw [if_pos (by rw [decide_eq_true_eq])]
  refine comp_zipL (es := List.replicate l.length (PyData.bool true)) (fun R hR => ?_) ha1 hb1 (by simp) (by simp) (by rw [List.length_replicate]; exact Nat.le_of_lt (small1000 (by omega))) (noLAll_iff.mpr fun d hd => by rw [List.eq_of_mem_replicate hd]; rfl) (fun i x y e H' hx hy he s' R hR => ?_) fun acc zs H' s' fa hl hA => ?_
  · walk_at "rd"; exact hR
  · rw [hx] at hy
    cases hy
    rw [List.getElem?_map] at hx
    cases hg : l[i]? with
    | none => rw [hg] at hx; cases hx
    | some z =>
    rw [hg] at hx
    cases hx
    have ee : e = .bool true := List.eq_of_mem_replicate (List.mem_of_getElem? he)
    walk_at "rd"
    refine ⟨z, rfl, fun H'' s'' => hR _ _ s'' ?_⟩
    rw [ee]
    exact At.bool _
  · cases bools_back hA
    refine ⟨acc, _, rfl, hl, ?_⟩
    rw [bools_all]
    exact q _ (s1.trans s')
theorem Sl.of {a b : Addr} {l : List Int} {H : Hp} {Q : VK} {E : XK} (ha : H a = some (.lst (l.map V.int))) (hb : H b = some (.lst (l.map V.int))) (hn : l.length ≤ 1000) (q : ∀ H', Same H H' → Q (.bl true) H') : spSl ([.ref a, .ref b] ++ []) H Q E := ⟨a, b, l, rfl, ha, hb, hn, q⟩
end
end K20
namespace K20
open PySem L2
local macro_rules | `(tactic| walk_at "rd") => `(tactic| simp only [L2.start, List.map_cons, List.map_nil, List.length_cons, List.length_nil, Nat.reduceAdd, Nat.reduceSub, List.replicate, List.cons_append, List.nil_append, List.append_nil,
  tSeq, tIfS, tRet, tRetN, tNext, tAsg, gName, tDrop, rd_var0, rd_varS, rd_gcons, rd_gnil, if_true, if_false, Bool.false_eq_true, Bool.not_true, Bool.not_false, rd_set0, rd_setS, rd_eqI, rd_neI, rd_eqS, rd_neS, rd_argI, rd_argB, rd_argII, rd_test, rd_int, rd_ii, tC, tOp, tUn, rI0, rI, rU, tTest, tAnd, tOr, tNot, tAndV, tOrV, tNotV, tIf, tCall, tCB, tCons, tNil, tB, tChain, tSl, tNoPart, tPart, gSub, tPar, tLst, tTup, tLstW, tTupW, tBM, tAug, tPar3, tAugS, ipI, tMaxD, tGT2, tFv, tJs, tJ1, tJ0, tTru])
section
variable {P : Program} {w : World} {K : PySem.W.Frag} {mg : Str → Option Value} {base : Heap} {f : Addr} {fd : FuncData} {k : Nat}
theorem nT_len {p : Int × Nat} (h : nOk p) : (nT p).length ≤ 16 := by
  have h1 := dg_len (n := p.1) (k := 13) (by decide) (by have := h.2.1; omega)
  have h2 := dg_len (n := (p.2 : Int)) (k := 2) (by decide) (by have := h.2.2.2; omega)
  unfold nT
  split
  · omega
  · rw [List.length_append, List.length_cons]; omega
/-! ### pieces drawn -/
def emb : (r : Nat) → Int × Nat → Pc r
  | 0, p => p
  | _ + 1, p => .inl p
theorem emb_tx (r : Nat) (p : Int × Nat) : ptx r (emb r p) = nT p := by cases r <;> rfl
theorem emb_ex (r : Nat) (p : Int × Nat) : pex r (emb r p) = List.replicate p.2 p.1 := by cases r <;> rfl
theorem emb_ok {r : Nat} {p : Int × Nat} (h : nOk p) : pok r (emb r p) := by cases r <;> exact h
def cP : Nat → Nat
  | 0 => 6
  | r + 1 => 1 + 4 * cP r + 2
def cZ (r : Nat) : Nat := 1 + 4 * cP r
theorem cP_ge (r : Nat) : 6 ≤ cP r := by
  induction r with
  | zero => decide
  | succ r ih => show 6 ≤ 1 + 4 * cP r + 2; omega
/-- a piece drawn: its beats, its text -/
def spPi (r : Nat) : Sp := fun vs H Q _ => ∃ (a : Addr) (n m : Nat) (d : Int), vs = [.ref a, .int d, .int m] ∧ d + r = 3 ∧ 1 ≤ m ∧ m ≤ 300 ∧ Tp H a n ∧ n + cP r ≤ 100000000 ∧
  ∀ p l (q : Pc r) H', H p = none → H l = none → p ≠ a → l ≠ a → pok r q → 1 ≤ (pex r q).length → (pex r q).length ≤ m → (ptx r q).length + 1 ≤ 24 * (pex r q).length → H' p = some (.tup [.ref l, .str (tx (ptx r q))]) → H' l = some (.lst ((pex r q).map V.int)) → Tp H' a (n + cP r) → SX a H H' → Q (.ref p) H'
/-- pieces drawn -/
def spPz (r : Nat) : Sp := fun vs H Q _ => ∃ (a : Addr) (n m : Nat) (d : Int), vs = [.ref a, .int d, .int m] ∧ d + r = 3 ∧ 1 ≤ m ∧ m ≤ 300 ∧ Tp H a n ∧ n + cZ r ≤ 100000000 ∧
  ∀ p l (ps : List (Pc r)) H', H p = none → H l = none → p ≠ a → l ≠ a → ps ≠ [] → (∀ q ∈ ps, pok r q) → 1 ≤ (ps.map (pex r)).flatten.length → (ps.map (pex r)).flatten.length ≤ m → (jn [32] (ps.map (ptx r))).length + 1 ≤ 24 * (ps.map (pex r)).flatten.length →
    H' p = some (.tup [.ref l, .str (tx (jn [32] (ps.map (ptx r))))]) → H' l = some (.lst ((ps.map (pex r)).flatten.map V.int)) → Tp H' a (n + cZ r) → SX a H H' → Q (.ref p) H'
def spPb : Nat → Sp
  | 0 => spNo
  | r + 1 => spPz r
theorem SX.free {a p : Addr} {H H' : Hp} (s : SX a H H') (n : p ≠ a) (f : H' p = none) : H p = none := by
  cases h : H p with
  | none => rfl
  | some o => rw [s.get n h] at f; cases f
theorem sc_l_piece : FnScope ["_law_tape_here", "_law_deep", "_law_room", "_law_way", "_law_load", "_law_text", "_law_times", "_law_number"] ["_law_tape_here", "_law_deep", "_law_room"] (defScope s_l_piece) := ⟨rfl, rfl, rfl, by decide +kernel, rfl, by decide +kernel, by decide +kernel⟩
theorem ok_l_piece (r : Nat) (F : Fun K "_law_piece" "_law_piece" s_l_piece f fd) (B : Bi mg) (c_l_draw : Ct P w K mg base k "_law_draw" ["_law_tape_here", "_law_many"] spDraw) (c_l_units : Ct P w K mg base k "_law_units" ["_law_tape_here"] spUnits) (c_l_pieces : Ct P w K mg base k "_law_pieces" ["_law_tape_here", "_law_deep", "_law_room"] (spPb r)) : FnOk P w K mg base CX0 (k + 1) f fd ["_law_tape_here", "_law_deep", "_law_room"] (spPi r) := by
  refine F.ok sc_l_piece (by rintro vs H Q E ⟨a, n, m, d, rfl, _⟩; rfl) (fun cdv A outer s H vs Q E hr h => ?_)
  obtain ⟨a, n, m, d, rfl, hd, hm1, hm2, tp, hn, q⟩ := h
  have ND := sc_l_piece.nd
  have hcp := cP_ge r
  refine ⟨_, (pss_cons (ps_set (i := 3) ND rfl (by first | exact Or.inl rfl | exact Or.inr rfl) (pf c_l_draw hr (pa_c (pv 0) (pa_c pe_int pa_nil)))) (pss_cons (ps_if (PW.pt (pw_and (pt_cmpR op_eq (pv 3) pe_int (nomark _)) (pw_and (pt_cmpR op_lt (pv 1) pe_int (nomark _)) (pw_and1 (pt_cmpR op_gt (pv 2) pe_int (nomark _)))))) (pss_cons (ps_asg (pf c_l_pieces hr (pa_c (pv 0) (pa_c (pe_op op_add (pv 1) pe_int) (pa_c (pe_op op_fdiv (pv 2) pe_int) pa_nil)))) (pg_tup rfl (pgs_cons (pg_name (i := 4) ND rfl (by first | exact Or.inl rfl | exact Or.inr rfl)) (pgs_cons (pg_name (i := 5) ND rfl (by first | exact Or.inl rfl | exact Or.inr rfl)) pgs_nil)))) (pss_cons (ps_set (i := 6) ND rfl (by first | exact Or.inl rfl | exact Or.inr rfl) (pe_op op_add pe_int (pf c_l_draw hr (pa_c (pv 0) (pa_c (pb (call_min2 rfl) B.min bt_min (pa_c pe_int (pa_c (pe_op op_sub (pe_op op_fdiv (pv 2) (pb (call_lenK (K := K) rfl) B.len bt_len (pa_c (pv 4) pa_nil))) pe_int) pa_nil))) pa_nil))))) (pss_one (ps_ret (pe_tupW (pa_c (pe_op op_rep (pv 4) (pv 6)) (pa_c (pe_op op_add_str (pe_op op_add_str (pe_op op_add_str pe_str (pv 5)) pe_str) (pt (call_str_int) B.str bt_str (pa_c (pv 6) pa_nil))) pa_nil))))))) pss_nil) (pss_cons (ps_set (i := 7) ND rfl (by first | exact Or.inl rfl | exact Or.inr rfl) (pf c_l_units hr (pa_c (pv 0) pa_nil))) (pss_cons (ps_if (PW.pt (pw_and (pt_cmpR op_eq (pv 3) pe_int (nomark _)) (pw_and1 (pt_cmpR op_gt (pv 2) pe_int (nomark _))))) (pss_cons (ps_set (i := 6) ND rfl (by first | exact Or.inl rfl | exact Or.inr rfl) (pe_op op_add pe_int (pf c_l_draw hr (pa_c (pv 0) (pa_c (pb (call_min2 rfl) B.min bt_min (pa_c pe_int (pa_c (pe_op op_sub (pv 2) pe_int) pa_nil))) pa_nil))))) (pss_one (ps_ret (pe_tupW (pa_c (pe_op op_rep (pe_lstW (pa_c (pv 7) pa_nil)) (pv 6)) (pa_c (pe_op op_add_str (pe_op op_add_str (pt (call_str_int) B.str bt_str (pa_c (pv 7) pa_nil)) pe_str) (pt (call_str_int) B.str bt_str (pa_c (pv 6) pa_nil))) pa_nil)))))) pss_nil) (pss_one (ps_ret (pe_tupW (pa_c (pe_lstW (pa_c (pv 7) pa_nil)) (pa_c (pt (call_str_int) B.str bt_str (pa_c (pv 7) pa_nil)) pa_nil))))))))), ?_⟩
  simp only [seqOi]
  walk_at "rd"
  refine Draw.of tp (by omega) (by decide) (by decide) fun v1 H1 l1 u1 t1 s1 => ?_
  refine tSeqO.on (fun H2 s2 => ?_) (fun N hN => ?_)
  rotate_left
  · walk_at "rd"
    refine and_if (fun c1 => ?_) fun c1 => hN _ (Same.refl _)
    refine and_if (fun c2 => ?_) fun c2 => hN _ (Same.refl _)
    refine and_if (fun c3 => ?_) fun c3 => hN _ (Same.refl _)
    have c2 := of_decide_eq_true c2
    have c3 := of_decide_eq_true c3
    cases r with
    | zero => exact absurd hd (by omega)
    | succ r =>
    refine ⟨⟨by decide, by decide⟩, ?_⟩
    have hcr : cP (r + 1) = cZ r + 2 := rfl
    refine ⟨a, n + 1, m / 2, d + 1, ?_, by omega, by omega, by omega, t1, by omega, fun p l ps H3 f3 g3 n3 m3 hne hok hl1 hl2 htl e3 e4 t3 s3 => ?_⟩
    · rw [show ((m / 2 : Nat) : Int) = (m : Int) / 2 by omega]
    refine ⟨p, _, rfl, SqT.of e3, rfl, ?_⟩
    walk_at "rd"
    generalize ht : (ps.map (pex r)).flatten = T at *
    refine ⟨l, _, rfl, .inl (SqL.of e4), ?_⟩
    rw [List.length_map]
    have hq2 : 2 ≤ m / T.length := (Nat.le_div_iff_mul_le (by omega)).mpr (by omega)
    have hqm : m / T.length * T.length ≤ m := Nat.div_mul_le_self m T.length
    have eqd : (m : Int) / (T.length : Int) = ((m / T.length : Nat) : Int) := (Int.natCast_ediv m T.length).symm
    refine ⟨_, _, rfl, rfl, ⟨by omega, by omega⟩, ?_⟩
    rw [eqd]
    generalize hqq : m / T.length = qq at *
    have hb0 : 1 ≤ (if (qq : Int) - 1 < 98 then (qq : Int) - 1 else 98) := by split <;> omega
    have hb1 : (if (qq : Int) - 1 < 98 then (qq : Int) - 1 else 98) ≤ (qq : Int) - 1 ∧ (if (qq : Int) - 1 < 98 then (qq : Int) - 1 else 98) ≤ 98 := by split <;> omega
    generalize (if (qq : Int) - 1 < 98 then (qq : Int) - 1 else 98) = bb at *
    have hcz : n + 1 + cZ r ≤ 100000000 := by omega
    refine Draw.of t3 (by omega) (by omega) (by omega) fun v4 H4 l4 u4 t4 s4 => ?_
    obtain ⟨tm, etm⟩ : ∃ tm : Nat, (2 + v4) = (tm : Int) := ⟨(2 + v4).toNat, by omega⟩
    have htm : tm * T.length ≤ m := Nat.le_trans (Nat.mul_le_mul_right _ (show tm ≤ qq by omega)) hqm
    have htm2 : 2 ≤ tm ∧ tm ≤ 99 := by omega
    walk_at "rd"
    rw [etm]
    refine ⟨l, _, _, rfl, rfl, s4.get m3 e4, by omega, by omega, ?_, fun p5 f5 => ?_⟩
    · rw [List.length_map, Int.toNat_natCast, Nat.mul_comm, sizeLine_eq]; omega
    have dl := dg_len (n := (tm : Int)) (k := 2) (by decide) (by omega)
    have n5 := t4.ne f5
    have etx : tx [40] ++ tx (jn [32] (ps.map (ptx r))) ++ tx [41, 120] ++ tx (dg tm) = tx (ptx (r + 1) (.inr (ps, tm))) := by
      rw [tx_app, tx_app, tx_app]
      show _ = tx (40 :: (jn [32] (ps.map (ptx r)) ++ 41 :: 120 :: dg tm))
      simp
    have eex : pex (r + 1) (.inr (ps, tm)) = (List.replicate tm T).flatten := by rw [← ht]; rfl
    have lex : (pex (r + 1) (.inr (ps, tm))).length = tm * T.length := by rw [eex, len_rep]
    have h2l : 2 * T.length ≤ tm * T.length := Nat.mul_le_mul_right _ htm2.1
    have s15 := s1.trans (s3.trans (s4.trans (SX.of (same_new f5 (.lst (List.replicate ((tm : Nat) : Int).toNat (T.map V.int)).flatten)))))
    refine ⟨_, _, rfl, rfl, ?_, _, _, rfl, rfl, ?_, log_small (by omega), _, _, rfl, rfl, ?_, by decide, fun p6 H6 f6 s6 e6 => ?_⟩
    · rw [show Str.ofString "(" = tx [40] from rfl, tx_len, tx_len, sizeLine_eq]; simp only [List.length_cons, List.length_nil]; omega
    · rw [show Str.ofString "(" = tx [40] from rfl, show Str.ofString ")x" = tx [41, 120] from rfl, tx_app, tx_len, tx_len, sizeLine_eq, List.length_append]; simp only [List.length_cons, List.length_nil]; omega
    · rw [show Str.ofString "(" = tx [40] from rfl, show Str.ofString ")x" = tx [41, 120] from rfl, str_dg (by omega), tx_app, tx_app, tx_len, tx_len, sizeLine_eq, List.length_append, List.length_append]; simp only [List.length_cons, List.length_nil]; omega
    rw [show Str.ofString "(" = tx [40] from rfl, show Str.ofString ")x" = tx [41, 120] from rfl, str_dg (by omega), etx] at e6
    have n6 : p6 ≠ a := (t4.updN n5).ne f6
    refine q p6 p5 (.inr (ps, tm)) H6 (SX.free s15 n6 f6) (SX.free (s1.trans (s3.trans s4)) n5 f5) n6 n5 ⟨hne, hok, htm2.1, htm2.2⟩ ?_ ?_ ?_ e6 ?_ (((t4.updN n5).same s6).mono (by omega)) (s15.trans (SX.of s6))
    · rw [lex]; omega
    · rw [lex]; exact htm
    · rw [lex]
      show (40 :: (jn [32] (ps.map (ptx r)) ++ 41 :: 120 :: dg tm)).length + 1 ≤ _
      simp only [List.length_cons, List.length_append]
      omega
    · rw [s6 _ _ upd_same, eex, Int.toNat_natCast, List.map_flatten, List.map_replicate]
  walk_at "rd"
  have hcp2 : n + 6 ≤ n + cP r := by omega
  have t2 := t1.same s2
  refine Units.of t2 (by omega) fun v3 H3 l3 u3 t3 s3 => ?_
  have s13 := s1.trans ((SX.of s2).trans s3)
  have dl := dg_len (n := v3) (k := 13) (by decide) (by omega)
  refine tSeqO.on (fun H4 s4 => ?_) (fun N hN => ?_)
  rotate_left
  · walk_at "rd"
    refine and_if (fun c1 => ?_) fun c1 => hN _ (Same.refl _)
    refine and_if (fun c2 => ?_) fun c2 => hN _ (Same.refl _)
    have c2 := of_decide_eq_true c2
    have hb0 : 1 ≤ (if (m : Int) - 1 < 98 then (m : Int) - 1 else 98) := by split <;> omega
    have hb1 : (if (m : Int) - 1 < 98 then (m : Int) - 1 else 98) ≤ (m : Int) - 1 ∧ (if (m : Int) - 1 < 98 then (m : Int) - 1 else 98) ≤ 98 := by split <;> omega
    generalize (if (m : Int) - 1 < 98 then (m : Int) - 1 else 98) = bb at *
    refine Draw.of t3 (by omega) (by omega) (by omega) fun v4 H4 l4 u4 t4 s4 => ?_
    obtain ⟨tm, etm⟩ : ∃ tm : Nat, (2 + v4) = (tm : Int) := ⟨(2 + v4).toNat, by omega⟩
    have htm2 : 2 ≤ tm ∧ tm ≤ 99 ∧ tm ≤ m := by omega
    walk_at "rd"
    rw [etm]
    refine ⟨by decide, fun p5 H5 f5 s5 e5 => ?_⟩
    have n5 := t4.ne f5
    have t5 := t4.same s5
    refine ⟨p5, _, _, rfl, rfl, e5, by omega, by omega, ?_, fun p6 f6 => ?_⟩
    · rw [Int.toNat_natCast, sizeLine_eq]; simp only [List.length_cons, List.length_nil]; omega
    have n6 := t5.ne f6
    have dl2 := dg_len (n := (tm : Int)) (k := 2) (by decide) (by omega)
    have etx : tx (dg v3) ++ tx [120] ++ tx (dg tm) = tx (nT (v3, tm)) := by
      rw [tx_app, tx_app]
      unfold nT; rw [if_neg (show ¬ tm = 1 by omega)]; simp
    have s16 := s13.trans (s4.trans ((SX.of s5).trans (SX.of (same_new f6 (.lst (List.replicate ((tm : Nat) : Int).toNat [V.int v3]).flatten)))))
    refine ⟨log_small (by omega), _, _, rfl, rfl, ?_, log_small (by omega), _, _, rfl, rfl, ?_, by decide, fun p7 H7 f7 s7 e7 => ?_⟩
    · rw [show Str.ofString "x" = tx [120] from rfl, str_dg (by omega), tx_len, tx_len, sizeLine_eq]; simp only [List.length_cons, List.length_nil]; omega
    · rw [show Str.ofString "x" = tx [120] from rfl, str_dg (by omega), str_dg (by omega), tx_app, tx_len, tx_len, sizeLine_eq, List.length_append]; simp only [List.length_cons, List.length_nil]; omega
    rw [show Str.ofString "x" = tx [120] from rfl, str_dg (by omega), str_dg (by omega), etx] at e7
    have n7 : p7 ≠ a := (t5.updN n6).ne f7
    have nok : nOk (v3, tm) := ⟨l3, u3, by show 1 ≤ tm; omega, htm2.2.1⟩
    refine q p7 p6 (emb r (v3, tm)) H7 (SX.free s16 n7 f7) (SX.free (s13.trans (s4.trans (SX.of s5))) n6 f6) n7 n6 (emb_ok nok) ?_ ?_ ?_ (by rw [emb_tx]; exact e7) ?_ (((t5.updN n6).same s7).mono (by omega)) (s16.trans (SX.of s7))
    · rw [emb_ex, List.length_replicate]; show 1 ≤ tm; omega
    · rw [emb_ex, List.length_replicate]; exact htm2.2.2
    · rw [emb_ex, emb_tx, List.length_replicate]
      have := nT_len nok
      show (nT (v3, tm)).length + 1 ≤ 24 * tm
      omega
    · rw [s7 _ _ upd_same, emb_ex, Int.toNat_natCast]
      congr 2
      simp
  walk_at "rd"
  refine ⟨by decide, fun p5 H5 f5 s5 e5 => ⟨log_small (by omega), by decide, fun p6 H6 f6 s6 e6 => ?_⟩⟩
  have t4 := t3.same s4
  have n5 := t4.ne f5
  have t5 := t4.same s5
  have n6 := t5.ne f6
  rw [str_dg (by omega)] at e6
  have nok : nOk (v3, 1) := ⟨l3, u3, Nat.le_refl _, by show 1 ≤ 99; decide⟩
  have en : nT (v3, 1) = dg v3 := rfl
  refine q p6 p5 (emb r (v3, 1)) H6 (SX.free (s13.trans ((SX.of s4).trans (SX.of s5))) n6 f6) (SX.free (s13.trans (SX.of s4)) n5 f5) n6 n5 (emb_ok nok) ?_ ?_ ?_ (by rw [emb_tx, en]; exact e6) ?_ ((t5.same s6).mono (by omega)) (s13.trans ((SX.of s4).trans ((SX.of s5).trans (SX.of s6))))
  · rw [emb_ex]; exact Nat.le_refl _
  · rw [emb_ex]; exact hm1
  · rw [emb_ex, emb_tx, en]
    show (dg v3).length + 1 ≤ 24 * 1
    omega
  · rw [s6 _ _ e5, emb_ex]; rfl
theorem Pi.of {r : Nat} {a : Addr} {n m : Nat} {d j : Int} {H : Hp} {Q : VK} {E : XK} (ej : j = m) (hd : d + r = 3) (h1 : 1 ≤ m) (h2 : m ≤ 300) (tp : Tp H a n) (hn : n + cP r ≤ 100000000)
    (q : ∀ p l (q : Pc r) H', H p = none → H l = none → p ≠ a → l ≠ a → pok r q → 1 ≤ (pex r q).length → (pex r q).length ≤ m → (ptx r q).length + 1 ≤ 24 * (pex r q).length → H' p = some (.tup [.ref l, .str (tx (ptx r q))]) → H' l = some (.lst ((pex r q).map V.int)) → Tp H' a (n + cP r) → SX a H H' → Q (.ref p) H') : spPi r ([.ref a, .int d, .int j] ++ []) H Q E := by
  subst ej
  exact ⟨a, n, m, d, rfl, hd, h1, h2, tp, hn, q⟩
theorem sc_l_pieces : FnScope ["_law_tape_here", "_law_deep", "_law_room", "_law_load", "_law_texts", "_law_k", "_law_more", "_law_text"] ["_law_tape_here", "_law_deep", "_law_room"] (defScope s_l_pieces) := ⟨rfl, rfl, rfl, by decide +kernel, rfl, by decide +kernel, by decide +kernel⟩
theorem ok_l_pieces0 (F : Fun K "_law_pieces" "_law_pieces" s_l_pieces f fd) : FnOk P w K mg base CX0 (k + 1) f fd ["_law_tape_here", "_law_deep", "_law_room"] (spPb 0) := by
  refine F.ok sc_l_pieces (fun vs H Q E h => False.elim h) (fun cdv A outer s H vs Q E hr h => False.elim h)
theorem ok_l_pieces (r : Nat) (F : Fun K "_law_pieces" "_law_pieces" s_l_pieces f fd) (B : Bi mg) (c_l_draw : Ct P w K mg base k "_law_draw" ["_law_tape_here", "_law_many"] spDraw) (c_l_piece : Ct P w K mg base k "_law_piece" ["_law_tape_here", "_law_deep", "_law_room"] (spPi r)) : FnOk P w K mg base CX0 (k + 1) f fd ["_law_tape_here", "_law_deep", "_law_room"] (spPz r) := by
  refine F.ok sc_l_pieces (by rintro vs H Q E ⟨a, n, m, d, rfl, _⟩; rfl) (fun cdv A outer s H vs Q E hr h => ?_)
  obtain ⟨a, n, m, d, rfl, hd, hm1, hm2, tp, hn, q⟩ := h
  have ND := sc_l_pieces.nd
  have hcp := cP_ge r
  have hcz : cZ r = 1 + 4 * cP r := rfl
  refine ⟨_, (pss_cons (ps_par (i := 3) (j := 4) rfl ND rfl rfl (by decide) rfl rfl (pa_c (pe_lstW pa_nil) (pa_c (pe_lstW pa_nil) pa_nil)) (by rfl)) (pss_cons (ps_for PassesOwn.never rfl (pi_range1 (by rfl) B.range (pa_c (pe_op op_add pe_int (pf c_l_draw hr (pa_c (pv 0) (pa_c pe_int pa_nil)))) pa_nil)) (pg_name (i := 5) ND rfl (by first | exact Or.inl rfl | exact Or.inr rfl)) (pss_one (ps_if (pt_cmpR op_lt (pb (call_lenK (K := K) rfl) B.len bt_len (pa_c (pv 3) pa_nil)) (pv 2) (nomark _)) (pss_cons (ps_asg (pf c_l_piece hr (pa_c (pv 0) (pa_c (pv 1) (pa_c (pe_op op_sub (pv 2) (pb (call_lenK (K := K) rfl) B.len bt_len (pa_c (pv 3) pa_nil))) pa_nil)))) (pg_tup rfl (pgs_cons (pg_name (i := 6) ND rfl (by first | exact Or.inl rfl | exact Or.inr rfl)) (pgs_cons (pg_name (i := 7) ND rfl (by first | exact Or.inl rfl | exact Or.inr rfl)) pgs_nil)))) (pss_cons (ps_set (i := 3) ND rfl (by first | exact Or.inl rfl | exact Or.inr rfl) (pe_op op_cat (pv 3) (pv 6))) (pss_one (ps_expr (pe_bm PySem.F.plainAttrs_list PySem.F.slot_list_append PySem.F.type_list_append mt_append (pv 4) (pa_c (pv 7) pa_nil)))))) pss_nil))) (pss_one (ps_ret (pe_tupW (pa_c (pv 3) (pa_c (pe_bm PySem.F.plainAttrs_str PySem.F.slot_str_join PySem.F.type_str_join mt_join pe_str (pa_c (pv 4) pa_nil)) pa_nil))))))), ?_⟩
  walk_at "rd"
  refine ⟨by decide, fun p1 H1 f1 s1 e1 => ⟨by decide, fun p2 H2 f2 s2 e2 => ⟨_, _, rfl, ?_⟩⟩⟩
  have n1 := tp.ne f1
  have t1 := tp.same s1
  have n2 := t1.ne f2
  have t2 := t1.same s2
  have n12 : p1 ≠ p2 := fun z => by rw [← z, e1] at f2; cases f2
  rw [tFor_rng]
  walk_at "rd"
  refine Draw.of t2 (by omega) (by decide) (by decide) fun v3 H3 l3 u3 t3 s3 => ?_
  walk_at "rd"
  obtain ⟨N, eN, hN1, hN2⟩ : ∃ N : Nat, 1 + v3 = (N : Int) ∧ 1 ≤ N ∧ N ≤ 4 := ⟨(1 + v3).toNat, by omega, by omega, by omega⟩
  rw [eN]
  have s12 : SX a H H2 := (SX.of s1).trans (SX.of s2)
  refine FK.of (n := N) rfl (by omega) (fun i σ H' => ∃ (lq : Addr) (ps : List (Pc r)) (o5 o6 o7 : Option V), σ = [some (.ref a), some (.int d), some (.int m), some (.ref lq), some (.ref p2), o5, o6, o7] ∧ H' lq = some (.lst ((ps.map (pex r)).flatten.map V.int)) ∧ H' p2 = some (.lst ((ps.map fun q => tx (ptx r q)).map V.str)) ∧ H lq = none ∧ lq ≠ a ∧ lq ≠ p2 ∧
      ps.length ≤ i ∧ (1 ≤ i → ps ≠ []) ∧ (∀ q ∈ ps, pok r q) ∧ ps.length ≤ (ps.map (pex r)).flatten.length ∧ (ps.map (pex r)).flatten.length ≤ m ∧ (∀ q ∈ ps, (ptx r q).length ≤ 7200) ∧ (ps ≠ [] → (jn [32] (ps.map (ptx r))).length + 1 ≤ 24 * (ps.map (pex r)).flatten.length) ∧ Tp H' a (n + 1 + i * cP r) ∧ SX a H H')
    ⟨p1, [], none, none, none, rfl, s3.get n1 (s2 _ _ e1), s3.get n2 e2, f1, n1, n12, by simp, fun z => absurd z (by omega), fun q hq => by simp at hq, by simp, by simp, fun q hq => by simp at hq, fun z => absurd rfl z, t3.mono (by omega), s12.trans s3⟩ ?_ ?_
  · rintro i σ H4 hi ⟨lq, ps, o5, o6, o7, rfl, e4, e5, fl, nl, nlp, hli, hne, hok, hpl, htm, htx, hjn, t4, s4⟩
    have hmul : i * cP r + cP r ≤ 4 * cP r := by
      rw [← Nat.succ_mul]; exact Nat.mul_le_mul_right _ (by omega)
    walk_at "rd"
    refine ⟨lq, _, rfl, .inl (SqL.of e4), _, _, rfl, rfl, ?_⟩
    rw [List.length_map]
    refine and_if (fun c1 => ?_) fun c1 => ?_
    · have c1 := of_decide_eq_true c1
      refine ⟨lq, _, rfl, .inl (SqL.of e4), _, _, rfl, rfl, ?_⟩
      rw [List.length_map]
      refine Pi.of (m := m - (ps.map (pex r)).flatten.length) (by omega) hd (by omega) (by omega) t4 (by omega) fun p6 l6 pc H6 f6 g6 n6 m6 ok6 ln6 lm6 lt6 e6 e7 t6 s6 => ?_
      refine ⟨p6, _, rfl, SqT.of e6, rfl, ?_⟩
      walk_at "rd"
      have e46 := s6.get nl e4
      have e56 := s6.get n2 e5
      have hfl : ((ps ++ [pc]).map (pex r)).flatten = (ps.map (pex r)).flatten ++ pex r pc := by rw [List.map_append, List.flatten_append]; simp
      have hfn : ((ps ++ [pc]).map (pex r)).flatten.length = (ps.map (pex r)).flatten.length + (pex r pc).length := by rw [hfl, List.length_append]
      refine ⟨lq, l6, _, _, rfl, rfl, e46, e7, by rw [List.length_map, List.length_map, sizeLine_eq]; omega, fun p8 f8 => ?_⟩
      rw [← List.map_append, ← hfl]
      have n8 := t6.ne f8
      have n82 : p8 ≠ p2 := fun z => by rw [z, e56] at f8; cases f8
      have e58 : upd H6 p8 (.lst (((ps ++ [pc]).map (pex r)).flatten.map V.int)) p2 = some (.lst ((ps.map fun q => tx (ptx r q)).map V.str)) := by rw [upd_ne (Ne.symm n82)]; exact e56
      refine ⟨.inl ⟨rfl, _, SqL.of e58⟩, p2, _, _, rfl, rfl, e58, by rw [List.length_map, List.length_map, sizeLine_eq]; omega, ?_⟩
      have s8 := (s4.trans s6).trans (SX.of (same_new f8 (.lst (((ps ++ [pc]).map (pex r)).flatten.map V.int))))
      have f2H : H p2 = none := s1.free f2
      refine ⟨p8, ps ++ [pc], _, _, _, rfl, by rw [upd_ne n82, upd_same], by rw [upd_same]; simp, SX.free (s4.trans s6) n8 f8, n8, n82, by rw [List.length_append]; simp only [List.length_cons, List.length_nil]; omega, fun _ => by simp, ?_, ?_, ?_, ?_, ?_, (((t6.updN n8).updN n2).mono (by rw [Nat.succ_mul]; omega)), s8.updN f2H n2⟩
      · intro q hq
        rcases List.mem_append.mp hq with h | h
        · exact hok q h
        · rw [List.mem_singleton.mp h]; exact ok6
      · rw [hfn, List.length_append]; simp only [List.length_cons, List.length_nil]; omega
      · rw [hfn]; omega
      · intro q hq
        rcases List.mem_append.mp hq with h | h
        · exact htx q h
        · rw [List.mem_singleton.mp h]; omega
      · intro _
        rw [hfn]
        cases ps with
        | nil =>
          show (ptx r pc).length + 1 ≤ _
          simp only [List.map_nil, List.flatten_nil, List.length_nil]
          omega
        | cons x y =>
          have := hjn (by simp)
          rw [List.map_append, List.map_singleton, jn_snoc _ (by simp), List.length_append, List.length_cons]
          omega
    · have c1 := of_decide_eq_false c1
      refine ⟨lq, ps, _, _, _, rfl, e4, e5, fl, nl, nlp, by omega, fun _ z => ?_, hok, hpl, htm, htx, hjn, t4.mono (by rw [Nat.succ_mul]; omega), s4⟩
      subst z
      simp at c1
      omega
  · rintro σ H4 ⟨lq, ps, o5, o6, o7, rfl, e4, e5, fl, nl, nlp, hli, hne, hok, hpl, htm, htx, hjn, t4, s4⟩
    have hmul : N * cP r ≤ 4 * cP r := Nat.mul_le_mul_right _ (by omega)
    walk_at "rd"
    have hn0 := hne hN1
    have hp0 : 1 ≤ ps.length := List.length_pos_iff.mpr hn0
    refine ⟨rfl, _, p2, ps.map fun q => tx (ptx r q), rfl, rfl, e5, ?_, by decide, fun p6 H6 f6 s6 e6 => ?_⟩
    · have := StrLaws.sumLen_le (B := 7200) (ps.map fun x => tx (ptx r x)) (fun y hy => by
        obtain ⟨x, hx, rfl⟩ := List.mem_map.mp hy
        rw [tx_len]
        exact htx x hx)
      rw [List.length_map] at this ⊢
      rw [show (Str.ofString " ").length = 1 from rfl]
      omega
    have n6 := t4.ne f6
    have ej : Str.join (Str.ofString " ") (ps.map fun q => tx (ptx r q)) = tx (jn [32] (ps.map (ptx r))) := by
      rw [← join_tx, List.map_map]; rfl
    rw [ej] at e6
    exact q p6 lq ps H6 (SX.free s4 n6 f6) fl n6 nl hn0 hok (by omega) htm (hjn hn0) e6 (s6 _ _ e4) ((t4.same s6).mono (by omega)) (s4.trans (SX.of s6))
theorem Pz.of {r : Nat} {a : Addr} {n m : Nat} {d j : Int} {H : Hp} {Q : VK} {E : XK} (ej : j = m) (hd : d + r = 3) (h1 : 1 ≤ m) (h2 : m ≤ 300) (tp : Tp H a n) (hn : n + cZ r ≤ 100000000)
    (q : ∀ p l (ps : List (Pc r)) H', H p = none → H l = none → p ≠ a → l ≠ a → ps ≠ [] → (∀ q ∈ ps, pok r q) → 1 ≤ (ps.map (pex r)).flatten.length → (ps.map (pex r)).flatten.length ≤ m → (jn [32] (ps.map (ptx r))).length + 1 ≤ 24 * (ps.map (pex r)).flatten.length →
      H' p = some (.tup [.ref l, .str (tx (jn [32] (ps.map (ptx r))))]) → H' l = some (.lst ((ps.map (pex r)).flatten.map V.int)) → Tp H' a (n + cZ r) → SX a H H' → Q (.ref p) H') : spPz r ([.ref a, .int d, .int j] ++ []) H Q E := by
  subst ej
  exact ⟨a, n, m, d, rfl, hd, h1, h2, tp, hn, q⟩
end
end K20
namespace K20
open PySem L2
local macro_rules | `(tactic| walk_at "rd") => `(tactic| simp only [L2.start, List.map_cons, List.map_nil, List.length_cons, List.length_nil, Nat.reduceAdd, Nat.reduceSub, List.replicate, List.cons_append, List.nil_append, List.append_nil,
  tSeq, tIfS, tRet, tRetN, tNext, tAsg, gName, tDrop, rd_var0, rd_varS, rd_gcons, rd_gnil, if_true, if_false, Bool.false_eq_true, Bool.not_true, Bool.not_false, rd_set0, rd_setS, rd_eqI, rd_neI, rd_eqS, rd_neS, rd_argI, rd_argB, rd_argII, rd_test, rd_int, rd_ii, tC, tOp, tUn, rI0, rI, rU, tTest, tAnd, tOr, tNot, tAndV, tOrV, tNotV, tIf, tCall, tCB, tCons, tNil, tB, tChain, tSl, tNoPart, tPart, gSub, tPar, tLst, tTup, tLstW, tTupW, tBM, tAug, tPar3, tAugS, ipI, tMaxD, tGT2, tFv, tJs, tJ1, tJ0, tTru])
section
variable {P : Program} {w : World} {K : PySem.W.Frag} {mg : Str → Option Value} {base : Heap} {f : Addr} {fd : FuncData} {k : Nat}
theorem Lo.of {d : Nat} {ps : List (Pc d)} {H : Hp} {Q : VK} {E : XK} (hz : (jn [32] (ps.map (ptx d))).length ≤ 1000000) (hne : ps ≠ []) (hok : ∀ x ∈ ps, pok d x) (hl : (ps.map (pex d)).flatten.length ≤ 300) (hd : d ≤ 3)
    (q : ∀ a H', H a = none → Same H H' → H' a = some (.lst ((ps.map (pex d)).flatten.map V.int)) → Q (.ref a) H') : spLo d ([.str (tx (jn [32] (ps.map (ptx d))))] ++ []) H Q E := .inl ⟨ps, rfl, hz, hne, hok, hl, hd, q⟩
def spRt : Sp := fun vs H Q _ => ∃ (b : Addr) (ps : List (Pc 3)), vs = [.str (tx (jn [32] (ps.map (ptx 3)))), .ref b] ∧ H b = some (.lst ((ps.map (pex 3)).flatten.map V.int)) ∧ (jn [32] (ps.map (ptx 3))).length ≤ 1000000 ∧ ps ≠ [] ∧ (∀ x ∈ ps, pok 3 x) ∧ (ps.map (pex 3)).flatten.length ≤ 300 ∧ ∀ H', Same H H' → Q (.bl true) H'
theorem sc_l_right : FnScope ["_law_text", "_law_load", "_law_turn", "_law_told"] ["_law_text", "_law_load"] (defScope s_l_right) := ⟨rfl, rfl, rfl, by decide +kernel, rfl, by decide +kernel, by decide +kernel⟩
theorem ok_l_right (F : Fun K "_law_right" "_law_right" s_l_right f fd) (B : Bi mg) (c_load_of : Ct P w K mg base k "load_of" ["text"] (spLo 3)) (c_l_same : Ct P w K mg base k "_law_same" ["_law_found", "_law_due"] spSl) : FnOk P w K mg base CX0 (k + 1) f fd ["_law_text", "_law_load"] spRt := by
  refine F.ok sc_l_right (by rintro vs H Q E ⟨b, ps, rfl, _⟩; rfl) (fun cdv A outer s H vs Q E hr h => ?_)
  obtain ⟨b, ps, rfl, hb, hz, hne, hok, hl, q⟩ := h
  have ND := sc_l_right.nd
  refine ⟨_, (pss_cons (ps_for PassesOwn.never rfl (pi_range1 (by rfl) B.range (pa_c pe_int pa_nil)) (pg_name (i := 2) ND rfl (by first | exact Or.inl rfl | exact Or.inr rfl)) (pss_cons (ps_set (i := 3) ND rfl (by first | exact Or.inl rfl | exact Or.inr rfl) (pf c_load_of hr (pa_c (pv 0) pa_nil))) (pss_cons (ps_if (pt_not (pt_val (pf c_l_same hr (pa_c (pv 3) (pa_c (pv 1) pa_nil))))) (pss_one (ps_ret pe_bl)) pss_nil) (pss_cons (ps_expr (pe_bm0 PySem.F.plainAttrs_list PySem.F.slot_list_reverse PySem.F.type_list_reverse mt_reverse (pv 3))) (pss_one (ps_expr (pe_bm PySem.F.plainAttrs_list PySem.F.slot_list_append PySem.F.type_list_append mt_append (pv 3) (pa_c pe_int pa_nil)))))))) (pss_one (ps_ret pe_bl))), ?_⟩
  generalize ht : (ps.map (pex 3)).flatten = T at *
  walk_at "rd"
  refine for_R (n := 2) (fun R hR => ?_) (by omega) (fun i σ H' => ∃ o2 o3, σ = [some (.str (tx (jn [32] (ps.map (ptx 3))))), some (.ref b), o2, o3] ∧ Same H H') ⟨_, _, rfl, Same.refl _⟩ ?_ ?_
  · walk_at "rd"
    exact hR
  · rintro i σ H1 hi ⟨o2, o3, rfl, s1⟩
    walk_at "rd"
    refine Lo.of hz hne hok (by rw [ht]; exact hl) (by decide) fun a H2 f2 s2 e2 => ?_
    rw [ht] at e2
    have hb2 := s2 _ _ (s1 _ _ hb)
    have nb : a ≠ b := fun z => by rw [z, s1 _ _ hb] at f2; cases f2
    refine Sl.of e2 hb2 (by omega) fun H3 s3 => ⟨_, rfl, ?_⟩
    rw [if_neg (by decide)]
    unfold tBM0
    walk_at "rd"
    have f1 := s1.free f2
    have e3 := s3 _ _ e2
    refine ⟨.inl ⟨rfl, _, SqL.of e3⟩, a, _, rfl, rfl, e3, .inl ⟨rfl, _, SqL.of upd_same⟩, a, _, _, rfl, rfl, upd_same, ?_, _, _, rfl, ?_⟩
    · rw [List.length_reverse, List.length_map, sizeLine_eq]; omega
    · exact ((s1.trans (s2.trans s3)).updN f1).updN f1
  · rintro σ H1 ⟨o2, o3, rfl, s1⟩
    walk_at "rd"
    exact q _ s1
theorem Rt.of {b : Addr} {ps : List (Pc 3)} {z : Str} {H : Hp} {Q : VK} {E : XK} (ez : z = tx (jn [32] (ps.map (ptx 3)))) (hb : H b = some (.lst ((ps.map (pex 3)).flatten.map V.int))) (hz : (jn [32] (ps.map (ptx 3))).length ≤ 1000000) (hne : ps ≠ []) (hok : ∀ x ∈ ps, pok 3 x) (hl : (ps.map (pex 3)).flatten.length ≤ 300) (q : ∀ H', Same H H' → Q (.bl true) H') : spRt ([.str z, .ref b] ++ []) H Q E := by
  subst ez
  exact ⟨b, ps, rfl, hb, hz, hne, hok, hl, q⟩
def gp (x y : Int) : Pc 3 := .inr ([emb 2 (x, 99), emb 2 (y, 1)], 3)
theorem gp_tx (x y : Int) : ptx 3 (gp x y) = 40 :: (dg x ++ [120, 57, 57, 32] ++ dg y ++ [41, 120, 51]) := by
  have h99 : dg 99 = [57, 57] := by decide
  have h3 : dg 3 = [51] := by decide
  show 40 :: (jn [32] [nT (x, 99), nT (y, 1)] ++ 41 :: 120 :: dg ((3 : Nat) : Int)) = _
  show 40 :: ((dg x ++ 120 :: dg ((99 : Nat) : Int)) ++ [32] ++ dg y ++ 41 :: 120 :: dg ((3 : Nat) : Int)) = _
  rw [show ((99 : Nat) : Int) = 99 from rfl, show ((3 : Nat) : Int) = 3 from rfl, h99, h3]
  simp
theorem gp_ex (x y : Int) : pex 3 (gp x y) = (List.replicate 3 (List.replicate 99 x ++ [y])).flatten := by
  show (List.replicate 3 [List.replicate 99 x, List.replicate 1 y].flatten).flatten = _
  simp
theorem gp_ok {x y : Int} (hx : 0 ≤ x ∧ x ≤ 1000000000000) (hy : 0 ≤ y ∧ y ≤ 1000000000000) : pok 3 (gp x y) := by
  refine ⟨by simp, fun q hq => ?_, by decide, by decide⟩
  simp only [List.mem_cons, List.not_mem_nil, or_false] at hq
  rcases hq with rfl | rfl
  · exact ⟨hx.1, hx.2, by show 1 ≤ 99; decide, by show 99 ≤ 99; decide⟩
  · exact ⟨hy.1, hy.2, by show 1 ≤ 1; decide, by show 1 ≤ 99; decide⟩
def spLaw (K : PySem.W.Frag) : Sp := fun vs H Q _ => ∃ (p : Addr) (ns : List Int), vs = [.ref p] ∧ Scr K H p (ns.map V.int) ∧ ns.length ≤ 63 ∧ ∀ H', Q (.bl true) H'
theorem sc_law : FnScope ["_law_script", "_law_k", "_law_tape_here", "_law_load", "_law_text", "_law_one", "_law_other", "_law_great"] ["_law_script"] (defScope s_law) := ⟨rfl, rfl, rfl, by decide +kernel, rfl, by decide +kernel, by decide +kernel⟩
theorem ok_law (F : Fun K "law" "law" s_law f fd) (B : Bi mg) (c_l_tape : Ct P w K mg base k "_law_tape" ["_law_script", "_law_k"] (spTape K)) (c_l_draw : Ct P w K mg base k "_law_draw" ["_law_tape_here", "_law_many"] spDraw) (c_l_units : Ct P w K mg base k "_law_units" ["_law_tape_here"] spUnits)
    (c_l_pieces : Ct P w K mg base k "_law_pieces" ["_law_tape_here", "_law_deep", "_law_room"] (spPz 3)) (c_l_right : Ct P w K mg base k "_law_right" ["_law_text", "_law_load"] spRt) (c_load_of : Ct P w K mg base k "load_of" ["text"] (spLo 3)) : FnOk P w K mg base CX0 (k + 1) f fd ["_law_script"] (spLaw K) := by
  refine F.ok sc_law (by rintro vs H Q E ⟨p, ns, rfl, _⟩; rfl) (fun cdv A outer s H vs Q E hr h => ?_)
  obtain ⟨p, ns, rfl, hS, hl, q⟩ := h
  have ND := sc_law.nd
  refine ⟨_, (pss_cons (ps_for PassesOwn.never rfl (pi_range1 (by rfl) B.range (pa_c (pb (call_max2 rfl) B.max bt_max (pa_c pe_int (pa_c (pb (call_min2 rfl) B.min bt_min (pa_c (pb (call_lenK (K := K) rfl) B.len bt_len (pa_c (pv 0) pa_nil)) (pa_c pe_int pa_nil))) pa_nil))) pa_nil)) (pg_name (i := 1) ND rfl (by first | exact Or.inl rfl | exact Or.inr rfl)) (pss_cons (ps_set (i := 2) ND rfl (by first | exact Or.inl rfl | exact Or.inr rfl) (pf c_l_tape hr (pa_c (pv 0) (pa_c (pv 1) pa_nil)))) (pss_cons (ps_asg (pf c_l_pieces hr (pa_c (pv 2) (pa_c pe_int (pa_c (pe_ix ix_obj (pe_lstW (pa_c pe_int (pa_c pe_int (pa_c pe_int pa_nil)))) (pf c_l_draw hr (pa_c (pv 2) (pa_c pe_int pa_nil))) (fun _ _ => rfl)) pa_nil)))) (pg_tup rfl (pgs_cons (pg_name (i := 3) ND rfl (by first | exact Or.inl rfl | exact Or.inr rfl)) (pgs_cons (pg_name (i := 4) ND rfl (by first | exact Or.inl rfl | exact Or.inr rfl)) pgs_nil)))) (pss_cons (ps_if (pt_not (pt_val (pf c_l_right hr (pa_c (pv 4) (pa_c (pv 3) pa_nil))))) (pss_one (ps_ret pe_bl)) pss_nil) (pss_cons (ps_par (i := 5) (j := 6) rfl ND rfl rfl (by decide) rfl rfl (pa_c (pf c_l_units hr (pa_c (pv 2) pa_nil)) (pa_c (pf c_l_units hr (pa_c (pv 2) pa_nil)) pa_nil)) (by rfl)) (pss_cons (ps_set (i := 7) ND rfl (by first | exact Or.inl rfl | exact Or.inr rfl) (pe_op op_add_str (pe_op op_add_str (pe_op op_add_str (pe_op op_add_str pe_str (pt (call_str_int) B.str bt_str (pa_c (pv 5) pa_nil))) pe_str) (pt (call_str_int) B.str bt_str (pa_c (pv 6) pa_nil))) pe_str)) (pss_one (ps_if (pt_not (pt_val (pf c_l_right hr (pa_c (pv 7) (pa_c (pe_op op_rep (pe_op op_cat (pe_op op_rep (pe_lstW (pa_c (pv 5) pa_nil)) pe_int) (pe_lstW (pa_c (pv 6) pa_nil))) pe_int) pa_nil))))) (pss_one (ps_ret pe_bl)) pss_nil)))))))) (pss_one (ps_ret (pe_cmpR (op_eqD hr.units) (pf c_load_of hr (pa_c pe_str pa_nil)) (pe_lstW pa_nil) (nomark _))))), ?_⟩
  simp only [seqOr]
  walk_at "rd"
  obtain ⟨n, hn, hn3⟩ : ∃ n : Nat, (if (if (3 : Int) < (ns.length : Int) then (3 : Int) else (ns.length : Int)) > 1 then (if (3 : Int) < (ns.length : Int) then (3 : Int) else (ns.length : Int)) else 1) = (n : Int) ∧ n ≤ 3 := by
    refine ⟨(if (if (3 : Int) < (ns.length : Int) then (3 : Int) else (ns.length : Int)) > 1 then (if (3 : Int) < (ns.length : Int) then (3 : Int) else (ns.length : Int)) else 1).toNat, ?_, ?_⟩ <;> (split <;> split <;> omega)
  refine for_R (n := n) (fun R hR => ?_) (by omega) (fun i σ H' => ∃ r : St, σ = some (.ref p) :: r ∧ r.length = 7 ∧ Scr K H' p (ns.map V.int)) ⟨_, rfl, rfl, hS⟩ ?_ ?_
  · walk_at "rd"
    refine ⟨p, _, rfl, .inl hS.sq, ?_⟩
    rw [List.length_map]
    walk_at "rd"
    rw [hn]
    exact hR
  · rintro i σ H1 hi ⟨rr, rfl, hr8, hS1⟩
    obtain ⟨o1, o2, o3, o4, o5, o6, o7, rfl⟩ : ∃ a b c d e f g, rr = [a, b, c, d, e, f, g] := by
      match rr, hr8 with
      | [a, b, c, d, e, f, g], _ => exact ⟨a, b, c, d, e, f, g, rfl⟩
    walk_at "rd"
    refine ⟨p, ns, _, rfl, hS1.sq, by omega, by omega, fun a H2 f2 s2 t2 => ?_⟩
    have hS2 := hS1.same s2
    refine ⟨by decide, fun p3 H3 f3 s3 e3 => ?_⟩
    have n3 := t2.ne f3
    refine Draw.of (t2.same s3) (by omega) (by decide) (by decide) fun v4 H4 l4 u4 t4 s4 => ?_
    obtain ⟨y, hy, ey⟩ := pick_ints (ts := [10, 60, 300]) l4 u4
    have hy' : 1 ≤ y ∧ y ≤ 300 := by
      simp only [List.mem_cons, List.not_mem_nil, or_false] at hy
      rcases hy with rfl | rfl | rfl <;> omega
    refine Ix.lst (s4.get n3 e3) ey ?_
    have hc3 : cZ 3 = 1789 := by decide
    obtain ⟨ym, eym⟩ : ∃ m : Nat, y = (m : Int) := ⟨y.toNat, by omega⟩
    refine Pz.of (m := ym) eym (by decide) (by omega) (by omega) t4 (by rw [hc3]; omega) fun p5 l5 ps H5 f5 g5 n5 m5 hne hok h51 h52 h53 e5 e6 t5 s5 => ?_
    refine ⟨p5, _, rfl, SqT.of e5, rfl, ?_⟩
    walk_at "rd"
    have hS5 := ((hS2.same s3).sx (t2.same s3) s4).sx t4 s5
    refine tSeqO.on (fun H6 s6 => ?_) (fun N hN => ?_)
    rotate_left
    · walk_at "rd"
      refine Rt.of rfl e6 (by omega) hne hok (by omega) fun H6 s6 => ⟨_, rfl, ?_⟩
      rw [if_neg (by decide)]
      exact hN _ s6
    walk_at "rd"
    have hS6 := hS5.same s6
    have t6 := t5.same s6
    rw [hc3] at t6
    refine Units.of t6 (by omega) fun v7 H7 l7 u7 t7 s7 => ?_
    refine Units.of t7 (by omega) fun v8 H8 l8 u8 t8 s8 => ⟨_, _, rfl, ?_⟩
    have hS8 := (hS6.sx t6 s7).sx t7 s8
    have d7 := dg_len (n := v7) (k := 13) (by decide) (by omega)
    have d8 := dg_len (n := v8) (k := 13) (by decide) (by omega)
    have x1 : Str.ofString "(" = tx [40] := rfl
    have x2 : Str.ofString "x99 " = tx [120, 57, 57, 32] := rfl
    have x3 : Str.ofString ")x3" = tx [41, 120, 51] := rfl
    have x4 := str_dg (n := v7) l7
    have x5 := str_dg (n := v8) l8
    refine ⟨_, rfl, log_small (by omega), _, _, rfl, rfl, ?_, _, _, rfl, rfl, ?_, _, rfl, log_small (by omega), _, _, rfl, rfl, ?_, _, _, rfl, rfl, ?_, by decide, fun p9 H9 f9 s9 e9 => ?_⟩
    · rw [x1, x4, tx_len, tx_len, sizeLine_eq]; simp only [List.length_cons, List.length_nil]; omega
    · rw [x1, x2, x4, tx_app, tx_len, tx_len, sizeLine_eq]; simp only [List.length_cons, List.length_nil, List.length_append]; omega
    · rw [x1, x2, x4, x5, tx_app, tx_app, tx_len, tx_len, sizeLine_eq]; simp only [List.length_cons, List.length_nil, List.length_append]; omega
    · rw [x1, x2, x3, x4, x5, tx_app, tx_app, tx_app, tx_len, tx_len, sizeLine_eq]; simp only [List.length_cons, List.length_nil, List.length_append]; omega
    rw [x1, x2, x3, x4, x5, tx_app, tx_app, tx_app, tx_app]
    refine ⟨p9, _, _, rfl, rfl, e9, by decide, by decide, ?_, fun p10 f10 => ⟨by decide, fun p11 H11 f11 s11 e11 => ?_⟩⟩
    · rw [sizeLine_eq]; show 1 * 99 ≤ 16777216; decide
    have e10 : H11 p10 = some (.lst ((List.replicate 99 v7).map V.int)) := by
      rw [s11 _ _ upd_same, List.map_replicate]
      congr 2
    have s10 := s9.trans ((same_new f10 _).trans s11)
    refine ⟨p10, p11, _, [V.int v8], rfl, rfl, e10, e11, ?_, fun p12 f12 => ?_⟩
    · rw [List.length_map, List.length_replicate, sizeLine_eq]; show 99 + 1 ≤ 16777216; decide
    have e12 : upd H11 p12 (.lst ((List.replicate 99 v7).map V.int ++ [V.int v8])) p12 = some (.lst ((List.replicate 99 v7 ++ [v8]).map V.int)) := by
      rw [upd_same, List.map_append]; rfl
    have s12 := s10.trans (same_new f12 (.lst ((List.replicate 99 v7).map V.int ++ [V.int v8])))
    refine ⟨p12, _, _, rfl, rfl, e12, by decide, by decide, ?_, fun p13 f13 => ?_⟩
    · rw [List.length_map, List.length_append, List.length_replicate, sizeLine_eq]; show (99 + 1) * 3 ≤ 16777216; decide
    have s13 := s12.trans (same_new f13 (.lst (List.replicate (3 : Int).toNat ((List.replicate 99 v7 ++ [v8]).map V.int)).flatten))
    have e13 : upd (upd H11 p12 (.lst ((List.replicate 99 v7).map V.int ++ [V.int v8]))) p13 (.lst (List.replicate (3 : Int).toNat ((List.replicate 99 v7 ++ [v8]).map V.int)).flatten) p13 = some (.lst ((([gp v7 v8].map (pex 3)).flatten).map V.int)) := by
      rw [upd_same, List.map_singleton, List.flatten_singleton, gp_ex, List.map_flatten, List.map_replicate]
      rfl
    have lg : ([gp v7 v8].map (pex 3)).flatten.length = 300 := by
      rw [List.map_singleton, List.flatten_singleton, gp_ex, len_rep, List.length_append, List.length_replicate]
      rfl
    have et : jn [32] ([gp v7 v8].map (ptx 3)) = 40 :: (dg v7 ++ [120, 57, 57, 32] ++ dg v8 ++ [41, 120, 51]) := by
      rw [List.map_singleton]
      show ptx 3 (gp v7 v8) = _
      rw [gp_tx]
    refine Rt.of (ps := [gp v7 v8]) ?_ e13 ?_ (by simp) (fun x hx => ?_) (by rw [lg]; decide) fun H14 s14 => ⟨_, rfl, ?_⟩
    · rw [et]; simp
    · rw [et]; simp only [List.length_cons, List.length_append, List.length_nil]; omega
    · rw [List.mem_singleton.mp hx]; exact gp_ok ⟨l7, u7⟩ ⟨l8, u8⟩
    rw [if_neg (by decide)]
    exact ⟨_, rfl, rfl, hS8.same (s13.trans s14)⟩
  · rintro σ H1 ⟨rr, rfl, hr8, hS1⟩
    walk_at "rd"
    refine .inr ⟨rfl, fun a H2 f2 s2 e2 => ⟨by decide, fun p3 H3 f3 s3 e3 => ?_⟩⟩
    refine ⟨.list [], .list [], At.lst (s3 _ _ e2) AtAll.nil, At.lst e3 AtAll.nil, rfl, rfl, rfl, rfl, by show 1 ≤ 60; decide, ?_⟩
    rw [show PyData.eqv (.list []) (.list []) = true by simp [PyData.eqv, PyData.eqvAll]]
    exact q _
end
end K20
namespace K20
open PySem L2
/-! ### the promises in their order -/
def mkCt {P : Program} {w : World} {K : PySem.W.Frag} {mg : Str → Option Value} {base : Heap} {k : Nat} {x qual : Str} {st : Stmt} {ps : List Str} {sp : Sp} {f : Addr} {fd : FuncData} (F : Fun K x qual st f fd) (b : Binds K fd ps []) (m : mg x = some (.ref f)) (G : FnOk P w K mg base CX0 k f fd ps sp) : Ct P w K mg base k x ps sp := ⟨f, fd, G, F.kp, b, m⟩
theorem all_ok {P : Program} {w : World} {K : PySem.W.Frag} {mg : Str → Option Value} {base : Heap} (B : Bi mg) (O : Co K mg)
    {f0 : Addr} {d0 : FuncData} (F0 : Fun K "number_of" "number_of" s_number_of f0 d0) (b0 : Binds K d0 ["text", "least", "most"] []) (m0 : mg "number_of" = some (.ref f0))
    {f1 : Addr} {d1 : FuncData} (F1 : Fun K "load_of" "load_of" s_load_of f1 d1) (b1 : Binds K d1 ["text"] []) (m1 : mg "load_of" = some (.ref f1))
    {f2 : Addr} {d2 : FuncData} (F2 : Fun K "read_pieces" "read_pieces" s_read_pieces f2 d2) (b2 : Binds K d2 ["text", "at", "brackets"] []) (m2 : mg "read_pieces" = some (.ref f2))
    {f3 : Addr} {d3 : FuncData} (F3 : Fun K "read_piece" "read_piece" s_read_piece f3 d3) (b3 : Binds K d3 ["text", "at", "brackets"] []) (m3 : mg "read_piece" = some (.ref f3))
    {f4 : Addr} {d4 : FuncData} (F4 : Fun K "read_bracket" "read_bracket" s_read_bracket f4 d4) (b4 : Binds K d4 ["text", "at", "brackets"] []) (m4 : mg "read_bracket" = some (.ref f4))
    {f5 : Addr} {d5 : FuncData} (F5 : Fun K "read_times" "read_times" s_read_times f5 d5) (b5 : Binds K d5 ["text", "at"] []) (m5 : mg "read_times" = some (.ref f5))
    {f6 : Addr} {d6 : FuncData} (F6 : Fun K "read_number" "read_number" s_read_number f6 d6) (b6 : Binds K d6 ["text", "at", "least", "most"] []) (m6 : mg "read_number" = some (.ref f6))
    {f7 : Addr} {d7 : FuncData} (F7 : Fun K "repeated" "repeated" s_repeated f7 d7) (b7 : Binds K d7 ["load", "times"] []) (m7 : mg "repeated" = some (.ref f7))
    {f8 : Addr} {d8 : FuncData} (F8 : Fun K "check_beats" "check_beats" s_check_beats f8 d8) (b8 : Binds K d8 ["many"] []) (m8 : mg "check_beats" = some (.ref f8))
    {f9 : Addr} {d9 : FuncData} (F9 : Fun K "_law_tape" "_law_tape" s_l_tape f9 d9) (b9 : Binds K d9 ["_law_script", "_law_k"] []) (m9 : mg "_law_tape" = some (.ref f9))
    {f10 : Addr} {d10 : FuncData} (F10 : Fun K "_law_draw" "_law_draw" s_l_draw f10 d10) (b10 : Binds K d10 ["_law_tape_here", "_law_many"] []) (m10 : mg "_law_draw" = some (.ref f10))
    {f11 : Addr} {d11 : FuncData} (F11 : Fun K "_law_units" "_law_units" s_l_units f11 d11) (b11 : Binds K d11 ["_law_tape_here"] []) (m11 : mg "_law_units" = some (.ref f11))
    {f12 : Addr} {d12 : FuncData} (F12 : Fun K "_law_same" "_law_same" s_l_same f12 d12) (b12 : Binds K d12 ["_law_found", "_law_due"] []) (m12 : mg "_law_same" = some (.ref f12))
    {f13 : Addr} {d13 : FuncData} (F13 : Fun K "_law_piece" "_law_piece" s_l_piece f13 d13) (b13 : Binds K d13 ["_law_tape_here", "_law_deep", "_law_room"] []) (m13 : mg "_law_piece" = some (.ref f13))
    {f14 : Addr} {d14 : FuncData} (F14 : Fun K "_law_pieces" "_law_pieces" s_l_pieces f14 d14) (b14 : Binds K d14 ["_law_tape_here", "_law_deep", "_law_room"] []) (m14 : mg "_law_pieces" = some (.ref f14))
    {f15 : Addr} {d15 : FuncData} (F15 : Fun K "_law_right" "_law_right" s_l_right f15 d15) (b15 : Binds K d15 ["_law_text", "_law_load"] []) (m15 : mg "_law_right" = some (.ref f15))
    {f16 : Addr} {d16 : FuncData} (F16 : Fun K "law" "law" s_law f16 d16) (b16 : Binds K d16 ["_law_script"] []) (m16 : mg "law" = some (.ref f16)) :
    FnOk P w K mg base CX0 17 f16 d16 ["_law_script"] (spLaw K) := by
  have c_number_of : Ct P w K mg base 1 "number_of" ["text", "least", "most"] spNum := mkCt F0 b0 m0 (ok_number_of F0 B O)
  have c_read_number : Ct P w K mg base 2 "read_number" ["text", "at", "least", "most"] spRn := mkCt F6 b6 m6 (ok_read_number F6 B O (c_number_of.mono (by decide)))
  have c_check_beats : Ct P w K mg base 1 "check_beats" ["many"] spChk := mkCt F8 b8 m8 (ok_check_beats F8 B O)
  have c_repeated : Ct P w K mg base 2 "repeated" ["load", "times"] spRep := mkCt F7 b7 m7 (ok_repeated F7 B (c_check_beats.mono (by decide)))
  have c_read_times : Ct P w K mg base 3 "read_times" ["text", "at"] spTm := mkCt F5 b5 m5 (ok_read_times F5 B O (c_read_number.mono (by decide)))
  have c_read_bracket_0 : Ct P w K mg base 1 "read_bracket" ["text", "at", "brackets"] (spBr 0) := mkCt F4 b4 m4 (ok_read_bracket0 F4)
  have c_read_piece_0 : Ct P w K mg base 4 "read_piece" ["text", "at", "brackets"] (spPc 0) := mkCt F3 b3 m3 (ok_read_piece 0 F3 B O (c_read_bracket_0.mono (by decide)) (c_read_number.mono (by decide)) (c_read_times.mono (by decide)) (c_repeated.mono (by decide)))
  have c_read_pieces_0 : Ct P w K mg base 5 "read_pieces" ["text", "at", "brackets"] (spPs 0) := mkCt F2 b2 m2 (ok_read_pieces 0 F2 B O (c_read_piece_0.mono (by decide)) (c_check_beats.mono (by decide)))
  have c_read_bracket_1 : Ct P w K mg base 6 "read_bracket" ["text", "at", "brackets"] (spBr 1) := mkCt F4 b4 m4 (ok_read_bracket 0 F4 B O (c_read_pieces_0.mono (by decide)) (c_read_times.mono (by decide)) (c_repeated.mono (by decide)))
  have c_read_piece_1 : Ct P w K mg base 7 "read_piece" ["text", "at", "brackets"] (spPc 1) := mkCt F3 b3 m3 (ok_read_piece 1 F3 B O (c_read_bracket_1.mono (by decide)) (c_read_number.mono (by decide)) (c_read_times.mono (by decide)) (c_repeated.mono (by decide)))
  have c_read_pieces_1 : Ct P w K mg base 8 "read_pieces" ["text", "at", "brackets"] (spPs 1) := mkCt F2 b2 m2 (ok_read_pieces 1 F2 B O (c_read_piece_1.mono (by decide)) (c_check_beats.mono (by decide)))
  have c_read_bracket_2 : Ct P w K mg base 9 "read_bracket" ["text", "at", "brackets"] (spBr 2) := mkCt F4 b4 m4 (ok_read_bracket 1 F4 B O (c_read_pieces_1.mono (by decide)) (c_read_times.mono (by decide)) (c_repeated.mono (by decide)))
  have c_read_piece_2 : Ct P w K mg base 10 "read_piece" ["text", "at", "brackets"] (spPc 2) := mkCt F3 b3 m3 (ok_read_piece 2 F3 B O (c_read_bracket_2.mono (by decide)) (c_read_number.mono (by decide)) (c_read_times.mono (by decide)) (c_repeated.mono (by decide)))
  have c_read_pieces_2 : Ct P w K mg base 11 "read_pieces" ["text", "at", "brackets"] (spPs 2) := mkCt F2 b2 m2 (ok_read_pieces 2 F2 B O (c_read_piece_2.mono (by decide)) (c_check_beats.mono (by decide)))
  have c_read_bracket_3 : Ct P w K mg base 12 "read_bracket" ["text", "at", "brackets"] (spBr 3) := mkCt F4 b4 m4 (ok_read_bracket 2 F4 B O (c_read_pieces_2.mono (by decide)) (c_read_times.mono (by decide)) (c_repeated.mono (by decide)))
  have c_read_piece_3 : Ct P w K mg base 13 "read_piece" ["text", "at", "brackets"] (spPc 3) := mkCt F3 b3 m3 (ok_read_piece 3 F3 B O (c_read_bracket_3.mono (by decide)) (c_read_number.mono (by decide)) (c_read_times.mono (by decide)) (c_repeated.mono (by decide)))
  have c_read_pieces_3 : Ct P w K mg base 14 "read_pieces" ["text", "at", "brackets"] (spPs 3) := mkCt F2 b2 m2 (ok_read_pieces 3 F2 B O (c_read_piece_3.mono (by decide)) (c_check_beats.mono (by decide)))
  have c_load_of : Ct P w K mg base 15 "load_of" ["text"] (spLo 3) := mkCt F1 b1 m1 (ok_load_of 3 F1 B O (c_read_pieces_3.mono (by decide)))
  have c__law_tape : Ct P w K mg base 1 "_law_tape" ["_law_script", "_law_k"] (spTape K) := mkCt F9 b9 m9 (ok_l_tape F9 B)
  have c__law_draw : Ct P w K mg base 1 "_law_draw" ["_law_tape_here", "_law_many"] spDraw := mkCt F10 b10 m10 (ok_l_draw F10 B)
  have c__law_units : Ct P w K mg base 2 "_law_units" ["_law_tape_here"] spUnits := mkCt F11 b11 m11 (ok_l_units F11 B (c__law_draw.mono (by decide)))
  have c__law_same_0 : Ct P w K mg base 1 "_law_same" ["_law_found", "_law_due"] spNo := mkCt F12 b12 m12 (ok_l_same0 F12)
  have c__law_same_1 : Ct P w K mg base 2 "_law_same" ["_law_found", "_law_due"] spSi := mkCt F12 b12 m12 (ok_l_sameI F12 B (c__law_same_0.mono (by decide)))
  have c__law_same_2 : Ct P w K mg base 3 "_law_same" ["_law_found", "_law_due"] spSl := mkCt F12 b12 m12 (ok_l_sameL F12 B (c__law_same_1.mono (by decide)))
  have c__law_pieces_b : Ct P w K mg base 1 "_law_pieces" ["_law_tape_here", "_law_deep", "_law_room"] (spPb 0) := mkCt F14 b14 m14 (ok_l_pieces0 F14)
  have c__law_piece_0 : Ct P w K mg base 3 "_law_piece" ["_law_tape_here", "_law_deep", "_law_room"] (spPi 0) := mkCt F13 b13 m13 (ok_l_piece 0 F13 B (c__law_draw.mono (by decide)) (c__law_units.mono (by decide)) (c__law_pieces_b.mono (by decide)))
  have c__law_pieces_0 : Ct P w K mg base 4 "_law_pieces" ["_law_tape_here", "_law_deep", "_law_room"] (spPz 0) := mkCt F14 b14 m14 (ok_l_pieces 0 F14 B (c__law_draw.mono (by decide)) (c__law_piece_0.mono (by decide)))
  have c__law_piece_1 : Ct P w K mg base 5 "_law_piece" ["_law_tape_here", "_law_deep", "_law_room"] (spPi 1) := mkCt F13 b13 m13 (ok_l_piece 1 F13 B (c__law_draw.mono (by decide)) (c__law_units.mono (by decide)) (c__law_pieces_0.mono (by decide)))
  have c__law_pieces_1 : Ct P w K mg base 6 "_law_pieces" ["_law_tape_here", "_law_deep", "_law_room"] (spPz 1) := mkCt F14 b14 m14 (ok_l_pieces 1 F14 B (c__law_draw.mono (by decide)) (c__law_piece_1.mono (by decide)))
  have c__law_piece_2 : Ct P w K mg base 7 "_law_piece" ["_law_tape_here", "_law_deep", "_law_room"] (spPi 2) := mkCt F13 b13 m13 (ok_l_piece 2 F13 B (c__law_draw.mono (by decide)) (c__law_units.mono (by decide)) (c__law_pieces_1.mono (by decide)))
  have c__law_pieces_2 : Ct P w K mg base 8 "_law_pieces" ["_law_tape_here", "_law_deep", "_law_room"] (spPz 2) := mkCt F14 b14 m14 (ok_l_pieces 2 F14 B (c__law_draw.mono (by decide)) (c__law_piece_2.mono (by decide)))
  have c__law_piece_3 : Ct P w K mg base 9 "_law_piece" ["_law_tape_here", "_law_deep", "_law_room"] (spPi 3) := mkCt F13 b13 m13 (ok_l_piece 3 F13 B (c__law_draw.mono (by decide)) (c__law_units.mono (by decide)) (c__law_pieces_2.mono (by decide)))
  have c__law_pieces_3 : Ct P w K mg base 10 "_law_pieces" ["_law_tape_here", "_law_deep", "_law_room"] (spPz 3) := mkCt F14 b14 m14 (ok_l_pieces 3 F14 B (c__law_draw.mono (by decide)) (c__law_piece_3.mono (by decide)))
  have c__law_right : Ct P w K mg base 16 "_law_right" ["_law_text", "_law_load"] spRt := mkCt F15 b15 m15 (ok_l_right F15 B (c_load_of.mono (by decide)) (c__law_same_2.mono (by decide)))
  exact ok_law F16 B (c__law_tape.mono (by decide)) (c__law_draw.mono (by decide)) (c__law_units.mono (by decide)) (c__law_pieces_3.mono (by decide)) (c__law_right.mono (by decide)) (c_load_of.mono (by decide))
/-! ### the program's top -/
theorem all_mk {l : PySem.W.OpenLaw} {w : World} {K : PySem.W.Frag} {h : Heap} {mg : Str → Option Value} {fa : Addr} (X : K.In h) (G : h.Ns mainGlobals mg) (hfa : mg "law" = some (.ref fa))
    {f0 : Addr} {od0 an0 : Option Addr} {sl0 : Array (Option Value)} {oc0 kV0 dc0 pm0 cd0 ct0 : Value}
    {f1 : Addr} {od1 an1 : Option Addr} {sl1 : Array (Option Value)} {oc1 kV1 dc1 pm1 cd1 ct1 : Value}
    {f2 : Addr} {od2 an2 : Option Addr} {sl2 : Array (Option Value)} {oc2 kV2 dc2 pm2 cd2 ct2 : Value}
    {f3 : Addr} {od3 an3 : Option Addr} {sl3 : Array (Option Value)} {oc3 kV3 dc3 pm3 cd3 ct3 : Value}
    {f4 : Addr} {od4 an4 : Option Addr} {sl4 : Array (Option Value)} {oc4 kV4 dc4 pm4 cd4 ct4 : Value}
    {f5 : Addr} {od5 an5 : Option Addr} {sl5 : Array (Option Value)} {oc5 kV5 dc5 pm5 cd5 ct5 : Value}
    {f6 : Addr} {od6 an6 : Option Addr} {sl6 : Array (Option Value)} {oc6 kV6 dc6 pm6 cd6 ct6 : Value}
    {f7 : Addr} {od7 an7 : Option Addr} {sl7 : Array (Option Value)} {oc7 kV7 dc7 pm7 cd7 ct7 : Value}
    {f8 : Addr} {od8 an8 : Option Addr} {sl8 : Array (Option Value)} {oc8 kV8 dc8 pm8 cd8 ct8 : Value}
    {f9 : Addr} {od9 an9 : Option Addr} {sl9 : Array (Option Value)} {oc9 kV9 dc9 pm9 cd9 ct9 : Value}
    {f10 : Addr} {od10 an10 : Option Addr} {sl10 : Array (Option Value)} {oc10 kV10 dc10 pm10 cd10 ct10 : Value}
    {f11 : Addr} {od11 an11 : Option Addr} {sl11 : Array (Option Value)} {oc11 kV11 dc11 pm11 cd11 ct11 : Value}
    {f12 : Addr} {od12 an12 : Option Addr} {sl12 : Array (Option Value)} {oc12 kV12 dc12 pm12 cd12 ct12 : Value}
    {f13 : Addr} {od13 an13 : Option Addr} {sl13 : Array (Option Value)} {oc13 kV13 dc13 pm13 cd13 ct13 : Value}
    {f14 : Addr} {od14 an14 : Option Addr} {sl14 : Array (Option Value)} {oc14 kV14 dc14 pm14 cd14 ct14 : Value}
    {f15 : Addr} {od15 an15 : Option Addr} {sl15 : Array (Option Value)} {oc15 kV15 dc15 pm15 cd15 ct15 : Value}
    {f16 : Addr} {od16 an16 : Option Addr} {sl16 : Array (Option Value)} {oc16 kV16 dc16 pm16 cd16 ct16 : Value}
    (a0 : PySem.W.nsIn K mainGlobals "number_of" = some (some (.ref f0))) (l0 : K.lookup f0 = some ⟨oc0, od0, .func (PySem.W.fnOf "number_of" "number_of" (defArgs s_number_of) (defBody s_number_of) (defScope s_number_of) .none kV0 dc0 pm0 an0 cd0 ct0), sl0⟩) (c0 : PySem.W.codeIn K cd0 "number_of" = true) (k0 : PySem.W.keepIn K (.ref f0) = true)
    (a1 : PySem.W.nsIn K mainGlobals "load_of" = some (some (.ref f1))) (l1 : K.lookup f1 = some ⟨oc1, od1, .func (PySem.W.fnOf "load_of" "load_of" (defArgs s_load_of) (defBody s_load_of) (defScope s_load_of) .none kV1 dc1 pm1 an1 cd1 ct1), sl1⟩) (c1 : PySem.W.codeIn K cd1 "load_of" = true) (k1 : PySem.W.keepIn K (.ref f1) = true)
    (a2 : PySem.W.nsIn K mainGlobals "read_pieces" = some (some (.ref f2))) (l2 : K.lookup f2 = some ⟨oc2, od2, .func (PySem.W.fnOf "read_pieces" "read_pieces" (defArgs s_read_pieces) (defBody s_read_pieces) (defScope s_read_pieces) .none kV2 dc2 pm2 an2 cd2 ct2), sl2⟩) (c2 : PySem.W.codeIn K cd2 "read_pieces" = true) (k2 : PySem.W.keepIn K (.ref f2) = true)
    (a3 : PySem.W.nsIn K mainGlobals "read_piece" = some (some (.ref f3))) (l3 : K.lookup f3 = some ⟨oc3, od3, .func (PySem.W.fnOf "read_piece" "read_piece" (defArgs s_read_piece) (defBody s_read_piece) (defScope s_read_piece) .none kV3 dc3 pm3 an3 cd3 ct3), sl3⟩) (c3 : PySem.W.codeIn K cd3 "read_piece" = true) (k3 : PySem.W.keepIn K (.ref f3) = true)
    (a4 : PySem.W.nsIn K mainGlobals "read_bracket" = some (some (.ref f4))) (l4 : K.lookup f4 = some ⟨oc4, od4, .func (PySem.W.fnOf "read_bracket" "read_bracket" (defArgs s_read_bracket) (defBody s_read_bracket) (defScope s_read_bracket) .none kV4 dc4 pm4 an4 cd4 ct4), sl4⟩) (c4 : PySem.W.codeIn K cd4 "read_bracket" = true) (k4 : PySem.W.keepIn K (.ref f4) = true)
    (a5 : PySem.W.nsIn K mainGlobals "read_times" = some (some (.ref f5))) (l5 : K.lookup f5 = some ⟨oc5, od5, .func (PySem.W.fnOf "read_times" "read_times" (defArgs s_read_times) (defBody s_read_times) (defScope s_read_times) .none kV5 dc5 pm5 an5 cd5 ct5), sl5⟩) (c5 : PySem.W.codeIn K cd5 "read_times" = true) (k5 : PySem.W.keepIn K (.ref f5) = true)
    (a6 : PySem.W.nsIn K mainGlobals "read_number" = some (some (.ref f6))) (l6 : K.lookup f6 = some ⟨oc6, od6, .func (PySem.W.fnOf "read_number" "read_number" (defArgs s_read_number) (defBody s_read_number) (defScope s_read_number) .none kV6 dc6 pm6 an6 cd6 ct6), sl6⟩) (c6 : PySem.W.codeIn K cd6 "read_number" = true) (k6 : PySem.W.keepIn K (.ref f6) = true)
    (a7 : PySem.W.nsIn K mainGlobals "repeated" = some (some (.ref f7))) (l7 : K.lookup f7 = some ⟨oc7, od7, .func (PySem.W.fnOf "repeated" "repeated" (defArgs s_repeated) (defBody s_repeated) (defScope s_repeated) .none kV7 dc7 pm7 an7 cd7 ct7), sl7⟩) (c7 : PySem.W.codeIn K cd7 "repeated" = true) (k7 : PySem.W.keepIn K (.ref f7) = true)
    (a8 : PySem.W.nsIn K mainGlobals "check_beats" = some (some (.ref f8))) (l8 : K.lookup f8 = some ⟨oc8, od8, .func (PySem.W.fnOf "check_beats" "check_beats" (defArgs s_check_beats) (defBody s_check_beats) (defScope s_check_beats) .none kV8 dc8 pm8 an8 cd8 ct8), sl8⟩) (c8 : PySem.W.codeIn K cd8 "check_beats" = true) (k8 : PySem.W.keepIn K (.ref f8) = true)
    (a9 : PySem.W.nsIn K mainGlobals "_law_tape" = some (some (.ref f9))) (l9 : K.lookup f9 = some ⟨oc9, od9, .func (PySem.W.fnOf "_law_tape" "_law_tape" (defArgs s_l_tape) (defBody s_l_tape) (defScope s_l_tape) .none kV9 dc9 pm9 an9 cd9 ct9), sl9⟩) (c9 : PySem.W.codeIn K cd9 "_law_tape" = true) (k9 : PySem.W.keepIn K (.ref f9) = true)
    (a10 : PySem.W.nsIn K mainGlobals "_law_draw" = some (some (.ref f10))) (l10 : K.lookup f10 = some ⟨oc10, od10, .func (PySem.W.fnOf "_law_draw" "_law_draw" (defArgs s_l_draw) (defBody s_l_draw) (defScope s_l_draw) .none kV10 dc10 pm10 an10 cd10 ct10), sl10⟩) (c10 : PySem.W.codeIn K cd10 "_law_draw" = true) (k10 : PySem.W.keepIn K (.ref f10) = true)
    (a11 : PySem.W.nsIn K mainGlobals "_law_units" = some (some (.ref f11))) (l11 : K.lookup f11 = some ⟨oc11, od11, .func (PySem.W.fnOf "_law_units" "_law_units" (defArgs s_l_units) (defBody s_l_units) (defScope s_l_units) .none kV11 dc11 pm11 an11 cd11 ct11), sl11⟩) (c11 : PySem.W.codeIn K cd11 "_law_units" = true) (k11 : PySem.W.keepIn K (.ref f11) = true)
    (a12 : PySem.W.nsIn K mainGlobals "_law_same" = some (some (.ref f12))) (l12 : K.lookup f12 = some ⟨oc12, od12, .func (PySem.W.fnOf "_law_same" "_law_same" (defArgs s_l_same) (defBody s_l_same) (defScope s_l_same) .none kV12 dc12 pm12 an12 cd12 ct12), sl12⟩) (c12 : PySem.W.codeIn K cd12 "_law_same" = true) (k12 : PySem.W.keepIn K (.ref f12) = true)
    (a13 : PySem.W.nsIn K mainGlobals "_law_piece" = some (some (.ref f13))) (l13 : K.lookup f13 = some ⟨oc13, od13, .func (PySem.W.fnOf "_law_piece" "_law_piece" (defArgs s_l_piece) (defBody s_l_piece) (defScope s_l_piece) .none kV13 dc13 pm13 an13 cd13 ct13), sl13⟩) (c13 : PySem.W.codeIn K cd13 "_law_piece" = true) (k13 : PySem.W.keepIn K (.ref f13) = true)
    (a14 : PySem.W.nsIn K mainGlobals "_law_pieces" = some (some (.ref f14))) (l14 : K.lookup f14 = some ⟨oc14, od14, .func (PySem.W.fnOf "_law_pieces" "_law_pieces" (defArgs s_l_pieces) (defBody s_l_pieces) (defScope s_l_pieces) .none kV14 dc14 pm14 an14 cd14 ct14), sl14⟩) (c14 : PySem.W.codeIn K cd14 "_law_pieces" = true) (k14 : PySem.W.keepIn K (.ref f14) = true)
    (a15 : PySem.W.nsIn K mainGlobals "_law_right" = some (some (.ref f15))) (l15 : K.lookup f15 = some ⟨oc15, od15, .func (PySem.W.fnOf "_law_right" "_law_right" (defArgs s_l_right) (defBody s_l_right) (defScope s_l_right) .none kV15 dc15 pm15 an15 cd15 ct15), sl15⟩) (c15 : PySem.W.codeIn K cd15 "_law_right" = true) (k15 : PySem.W.keepIn K (.ref f15) = true)
    (a16 : PySem.W.nsIn K mainGlobals "law" = some (some (.ref f16))) (l16 : K.lookup f16 = some ⟨oc16, od16, .func (PySem.W.fnOf "law" "law" (defArgs s_law) (defBody s_law) (defScope s_law) .none kV16 dc16 pm16 an16 cd16 ct16), sl16⟩) (c16 : PySem.W.codeIn K cd16 "law" = true) (k16 : PySem.W.keepIn K (.ref f16) = true)
    (z_int : PySem.W.nsIn K mainGlobals "int" = some none)
    (z_all : PySem.W.nsIn K mainGlobals "all" = some none)
    (z_len : PySem.W.nsIn K mainGlobals "len" = some none)
    (z_abs : PySem.W.nsIn K mainGlobals "abs" = some none)
    (z_isinstance : PySem.W.nsIn K mainGlobals "isinstance" = some none)
    (z_str : PySem.W.nsIn K mainGlobals "str" = some none)
    (z_list : PySem.W.nsIn K mainGlobals "list" = some none)
    (z_tuple : PySem.W.nsIn K mainGlobals "tuple" = some none)
    (z_bool : PySem.W.nsIn K mainGlobals "bool" = some none)
    (z_zip : PySem.W.nsIn K mainGlobals "zip" = some none)
    (z_min : PySem.W.nsIn K mainGlobals "min" = some none)
    (z_range : PySem.W.nsIn K mainGlobals "range" = some none)
    (z_max : PySem.W.nsIn K mainGlobals "max" = some none)
    {t_FIGURES : Tok} (n_FIGURES : PySem.W.nsIn K mainGlobals "FIGURES" = some (some (.str "0123456789" t_FIGURES)))
    {t_MOST_FIGURES : Tok} (n_MOST_FIGURES : PySem.W.nsIn K mainGlobals "MOST_FIGURES" = some (some (.int 13 t_MOST_FIGURES)))
    {t_MOST_UNITS : Tok} (n_MOST_UNITS : PySem.W.nsIn K mainGlobals "MOST_UNITS" = some (some (.int 1000000000000 t_MOST_UNITS)))
    {t_EMPTY : Tok} (n_EMPTY : PySem.W.nsIn K mainGlobals "EMPTY" = some (some (.str "-" t_EMPTY)))
    {t_MOST_BEATS : Tok} (n_MOST_BEATS : PySem.W.nsIn K mainGlobals "MOST_BEATS" = some (some (.int 300 t_MOST_BEATS)))
    {t_LEAST_TIMES : Tok} (n_LEAST_TIMES : PySem.W.nsIn K mainGlobals "LEAST_TIMES" = some (some (.int 2 t_LEAST_TIMES)))
    {t_MOST_TIMES : Tok} (n_MOST_TIMES : PySem.W.nsIn K mainGlobals "MOST_TIMES" = some (some (.int 99 t_MOST_TIMES)))
    {t_MOST_BRACKETS : Tok} (n_MOST_BRACKETS : PySem.W.nsIn K mainGlobals "MOST_BRACKETS" = some (some (.int 3 t_MOST_BRACKETS))) :
    ∃ fd : FuncData, (∀ (s : Shared) (v : Value), BindsTo s fd ⟨[v], []⟩ [("_law_script", v)]) ∧ ∀ base : Heap, K.In base → base.Ns mainGlobals mg → FnOk l.prog w K mg base CX0 17 fa fd ["_law_script"] (spLaw K) := by
  have e := hfa.symm.trans (PySem.W.mg_of X G a16)
  cases e
  have F0 := fun_mk (st := s_number_of) l0 c0 k0
  have b0 := F0.binds (ps := ["text", "least", "most"]) fun _ _ _ _ _ _ us hl => match us, hl with | [_, _, _], _ => rfl
  have F1 := fun_mk (st := s_load_of) l1 c1 k1
  have b1 := F1.binds (ps := ["text"]) fun _ _ _ _ _ _ us hl => match us, hl with | [_], _ => rfl
  have F2 := fun_mk (st := s_read_pieces) l2 c2 k2
  have b2 := F2.binds (ps := ["text", "at", "brackets"]) fun _ _ _ _ _ _ us hl => match us, hl with | [_, _, _], _ => rfl
  have F3 := fun_mk (st := s_read_piece) l3 c3 k3
  have b3 := F3.binds (ps := ["text", "at", "brackets"]) fun _ _ _ _ _ _ us hl => match us, hl with | [_, _, _], _ => rfl
  have F4 := fun_mk (st := s_read_bracket) l4 c4 k4
  have b4 := F4.binds (ps := ["text", "at", "brackets"]) fun _ _ _ _ _ _ us hl => match us, hl with | [_, _, _], _ => rfl
  have F5 := fun_mk (st := s_read_times) l5 c5 k5
  have b5 := F5.binds (ps := ["text", "at"]) fun _ _ _ _ _ _ us hl => match us, hl with | [_, _], _ => rfl
  have F6 := fun_mk (st := s_read_number) l6 c6 k6
  have b6 := F6.binds (ps := ["text", "at", "least", "most"]) fun _ _ _ _ _ _ us hl => match us, hl with | [_, _, _, _], _ => rfl
  have F7 := fun_mk (st := s_repeated) l7 c7 k7
  have b7 := F7.binds (ps := ["load", "times"]) fun _ _ _ _ _ _ us hl => match us, hl with | [_, _], _ => rfl
  have F8 := fun_mk (st := s_check_beats) l8 c8 k8
  have b8 := F8.binds (ps := ["many"]) fun _ _ _ _ _ _ us hl => match us, hl with | [_], _ => rfl
  have F9 := fun_mk (st := s_l_tape) l9 c9 k9
  have b9 := F9.binds (ps := ["_law_script", "_law_k"]) fun _ _ _ _ _ _ us hl => match us, hl with | [_, _], _ => rfl
  have F10 := fun_mk (st := s_l_draw) l10 c10 k10
  have b10 := F10.binds (ps := ["_law_tape_here", "_law_many"]) fun _ _ _ _ _ _ us hl => match us, hl with | [_, _], _ => rfl
  have F11 := fun_mk (st := s_l_units) l11 c11 k11
  have b11 := F11.binds (ps := ["_law_tape_here"]) fun _ _ _ _ _ _ us hl => match us, hl with | [_], _ => rfl
  have F12 := fun_mk (st := s_l_same) l12 c12 k12
  have b12 := F12.binds (ps := ["_law_found", "_law_due"]) fun _ _ _ _ _ _ us hl => match us, hl with | [_, _], _ => rfl
  have F13 := fun_mk (st := s_l_piece) l13 c13 k13
  have b13 := F13.binds (ps := ["_law_tape_here", "_law_deep", "_law_room"]) fun _ _ _ _ _ _ us hl => match us, hl with | [_, _, _], _ => rfl
  have F14 := fun_mk (st := s_l_pieces) l14 c14 k14
  have b14 := F14.binds (ps := ["_law_tape_here", "_law_deep", "_law_room"]) fun _ _ _ _ _ _ us hl => match us, hl with | [_, _, _], _ => rfl
  have F15 := fun_mk (st := s_l_right) l15 c15 k15
  have b15 := F15.binds (ps := ["_law_text", "_law_load"]) fun _ _ _ _ _ _ us hl => match us, hl with | [_, _], _ => rfl
  have F16 := fun_mk (st := s_law) l16 c16 k16
  have b16 := F16.binds (ps := ["_law_script"]) fun _ _ _ _ _ _ us hl => match us, hl with | [_], _ => rfl
  have B : Bi mg := ⟨PySem.W.mg_none_of X G z_int, PySem.W.mg_none_of X G z_all, PySem.W.mg_none_of X G z_len, PySem.W.mg_none_of X G z_abs, PySem.W.mg_none_of X G z_isinstance, PySem.W.mg_none_of X G z_str, PySem.W.mg_none_of X G z_list, PySem.W.mg_none_of X G z_tuple, PySem.W.mg_none_of X G z_bool, PySem.W.mg_none_of X G z_zip, PySem.W.mg_none_of X G z_min, PySem.W.mg_none_of X G z_range, PySem.W.mg_none_of X G z_max⟩
  have O : Co K mg := ⟨⟨t_FIGURES, PySem.W.mg_of X G n_FIGURES⟩, ⟨t_MOST_FIGURES, PySem.W.mg_of X G n_MOST_FIGURES⟩, ⟨t_MOST_UNITS, PySem.W.mg_of X G n_MOST_UNITS⟩, ⟨t_EMPTY, PySem.W.mg_of X G n_EMPTY⟩, ⟨t_MOST_BEATS, PySem.W.mg_of X G n_MOST_BEATS⟩, ⟨t_LEAST_TIMES, PySem.W.mg_of X G n_LEAST_TIMES⟩, ⟨t_MOST_TIMES, PySem.W.mg_of X G n_MOST_TIMES⟩, ⟨t_MOST_BRACKETS, PySem.W.mg_of X G n_MOST_BRACKETS⟩⟩
  refine ⟨PySem.W.fnOf "law" "law" (defArgs s_law) (defBody s_law) (defScope s_law) .none kV16 dc16 pm16 an16 cd16 ct16, fun s v => .of_eq rfl, fun base _ _ => ?_⟩
  exact all_ok B O F0 b0 (PySem.W.mg_of X G a0) F1 b1 (PySem.W.mg_of X G a1) F2 b2 (PySem.W.mg_of X G a2) F3 b3 (PySem.W.mg_of X G a3) F4 b4 (PySem.W.mg_of X G a4) F5 b5 (PySem.W.mg_of X G a5) F6 b6 (PySem.W.mg_of X G a6) F7 b7 (PySem.W.mg_of X G a7) F8 b8 (PySem.W.mg_of X G a8) F9 b9 (PySem.W.mg_of X G a9) F10 b10 (PySem.W.mg_of X G a10) F11 b11 (PySem.W.mg_of X G a11) F12 b12 (PySem.W.mg_of X G a12) F13 b13 (PySem.W.mg_of X G a13) F14 b14 (PySem.W.mg_of X G a14) F15 b15 (PySem.W.mg_of X G a15) F16 b16 (PySem.W.mg_of X G a16)
theorem walk {l : PySem.W.OpenLaw} {q : Program} {loose : List Str} {XP : (Str → Option Value) → Heap → Prop} {YP : World → Heap → Prop} {d : DefRec} {K : Params → PySem.W.Frag} (hn : l.most = some 63) (hdf : d.params.defaults = [])
    (hY : ∀ (w : World) (h : Heap), YP w h → (K w.params).In h)
    (F : ∀ (w : World) (mg : Str → Option Value) (fa : Addr) (h : Heap), (K w.params).In h → h.Ns mainGlobals mg → mg d.name = some (.ref fa) →
      ∃ fd : FuncData, (∀ (s : Shared) (u : Value), BindsTo s fd ⟨[u], []⟩ [("_law_script", u)]) ∧ ∀ base : Heap, (K w.params).In base → base.Ns mainGlobals mg → FnOk l.prog w (K w.params) mg base CX0 17 fa fd ["_law_script"] (spLaw (K w.params))) :
    PySem.W.WalkO q loose XP YP l.row.toRowW d [] (fun f vs => PySem.call f vs) :=
  L2.walk_of (n := 63) (k := 17) (x := "_law_script") (CX := fun _ => CX0) (sp := fun w => spLaw (K w.params)) hn (by decide) hdf ⟨rfl, by decide, by decide, rfl⟩ hY F (fun _ _ a ns hl hO hS => ⟨a, ns, rfl, Scr.of hS hO, hl, fun _ => rfl⟩) fun _ _ _ _ _ z => z
end K20
open PySem PySem.W PyProof.Rows
set_option maxRecDepth 100000 in
set_option maxHeartbeats 0 in
theorem PySem.Challenge.cw_waithands_k20_loads_read_holds : PySem.Challenge.rw_waithands_k20_loads_read.Holds := by
  w_on; o_law; k_head; (case hw => w_witness2)
  k_fill
  refine K20.walk (l := PySem.Challenge.rw_waithands_k20_loads_read) rfl rfl (fun w h Y => PySem.W.kIn_of Y) ?F
  case F =>
    intro w mg fa h KX G hmg
    refine' K20.all_mk KX G hmg ?a0 ?l0 ?c0 ?k0 ?a1 ?l1 ?c1 ?k1 ?a2 ?l2 ?c2 ?k2 ?a3 ?l3 ?c3 ?k3 ?a4 ?l4 ?c4 ?k4 ?a5 ?l5 ?c5 ?k5 ?a6 ?l6 ?c6 ?k6 ?a7 ?l7 ?c7 ?k7 ?a8 ?l8 ?c8 ?k8 ?a9 ?l9 ?c9 ?k9 ?a10 ?l10 ?c10 ?k10 ?a11 ?l11 ?c11 ?k11 ?a12 ?l12 ?c12 ?k12 ?a13 ?l13 ?c13 ?k13 ?a14 ?l14 ?c14 ?k14 ?a15 ?l15 ?c15 ?k15 ?a16 ?l16 ?c16 ?k16 ?z_int ?z_all ?z_len ?z_abs ?z_isinstance ?z_str ?z_list ?z_tuple ?z_bool ?z_zip ?z_min ?z_range ?z_max ?n_FIGURES ?n_MOST_FIGURES ?n_MOST_UNITS ?n_EMPTY ?n_MOST_BEATS ?n_LEAST_TIMES ?n_MOST_TIMES ?n_MOST_BRACKETS
    (case a0 => k_is)
    (case l0 => k_is)
    (case c0 => k_is)
    (case k0 => k_is)
    (case a1 => k_is)
    (case l1 => k_is)
    (case c1 => k_is)
    (case k1 => k_is)
    (case a2 => k_is)
    (case l2 => k_is)
    (case c2 => k_is)
    (case k2 => k_is)
    (case a3 => k_is)
    (case l3 => k_is)
    (case c3 => k_is)
    (case k3 => k_is)
    (case a4 => k_is)
    (case l4 => k_is)
    (case c4 => k_is)
    (case k4 => k_is)
    (case a5 => k_is)
    (case l5 => k_is)
    (case c5 => k_is)
    (case k5 => k_is)
    (case a6 => k_is)
    (case l6 => k_is)
    (case c6 => k_is)
    (case k6 => k_is)
    (case a7 => k_is)
    (case l7 => k_is)
    (case c7 => k_is)
    (case k7 => k_is)
    (case a8 => k_is)
    (case l8 => k_is)
    (case c8 => k_is)
    (case k8 => k_is)
    (case a9 => k_is)
    (case l9 => k_is)
    (case c9 => k_is)
    (case k9 => k_is)
    (case a10 => k_is)
    (case l10 => k_is)
    (case c10 => k_is)
    (case k10 => k_is)
    (case a11 => k_is)
    (case l11 => k_is)
    (case c11 => k_is)
    (case k11 => k_is)
    (case a12 => k_is)
    (case l12 => k_is)
    (case c12 => k_is)
    (case k12 => k_is)
    (case a13 => k_is)
    (case l13 => k_is)
    (case c13 => k_is)
    (case k13 => k_is)
    (case a14 => k_is)
    (case l14 => k_is)
    (case c14 => k_is)
    (case k14 => k_is)
    (case a15 => k_is)
    (case l15 => k_is)
    (case c15 => k_is)
    (case k15 => k_is)
    (case a16 => k_is)
    (case l16 => k_is)
    (case c16 => k_is)
    (case k16 => k_is)
    (case z_int => k_is)
    (case z_all => k_is)
    (case z_len => k_is)
    (case z_abs => k_is)
    (case z_isinstance => k_is)
    (case z_str => k_is)
    (case z_list => k_is)
    (case z_tuple => k_is)
    (case z_bool => k_is)
    (case z_zip => k_is)
    (case z_min => k_is)
    (case z_range => k_is)
    (case z_max => k_is)
    (case n_FIGURES => k_is)
    (case n_MOST_FIGURES => k_is)
    (case n_MOST_UNITS => k_is)
    (case n_EMPTY => k_is)
    (case n_MOST_BEATS => k_is)
    (case n_LEAST_TIMES => k_is)
    (case n_MOST_TIMES => k_is)
    (case n_MOST_BRACKETS => k_is)
